/- Merged: Rdw QueRd KeyI Bx QueQ LawQue LawQueA LawQueB QueRe LawQueC -/
import Derived.Deep.MidRow
import Derived.Test.YtepbdjgfaljbgaaU1
import Derived.Test.YtepbdjgfaljbgaaU2
set_option linter.unusedVariables false
section
namespace Go.Own
open Go.RowKit
/-- a slice that reads as these cells, wherever it begins -/
def RdWin (w : World) (v : Value) (n : Nat) (xs : List Value) : Prop := ∃ ao cap, v = .slice ao n cap ∧ (n = 0 ∨ ∃ g o, ao = some ⟨g, o, none⟩ ∧ ∀ j u, xs[j]? = some u → w.cell? ⟨g, o + j, none⟩ = some u)
theorem RdWin.later {W w : World} {v : Value} {n : Nat} {xs : List Value} (h : RdWin W v n xs) (hb : Below W.heap.size W w) : RdWin w v n xs := by
  obtain ⟨ao, cap, e, h⟩ := h
  refine ⟨ao, cap, e, ?_⟩
  rcases h with h | ⟨g, o, e2, hc⟩
  · exact .inl h
  · exact .inr ⟨g, o, e2, fun j u hu => cellLater' (hc j u hu) hb⟩
def tyWin (n : Nat) (xs : List Value) : Ty where
  holds v w := RdWin w v n xs
  keep h g := h.later g
theorem rd_win {B : Nat} {w0 w : World} {Ps : List Asn} {size n : Nat} {v : Value} {xs : List Value} (H : St B w0 w Ps) (i : Nat) (hi : Ps[i]? = some (AWin size v n xs)) : RdWin w v n xs := by
  obtain ⟨ao, c, rfl, hl, _⟩ := H.winForm i hi
  refine ⟨ao, c, rfl, ?_⟩
  by_cases h0 : n * size = 0
  · by_cases hn : n = 0
    · exact .inl hn
    · obtain ⟨S, hS, _⟩ := H.at i hi
      rcases hS with ⟨_, h, _⟩ | ⟨g, o, c', e, _, _⟩
      · exact absurd h hn
      · cases e
        exact .inr ⟨g, o, rfl, fun j u hu => by have := (List.getElem?_eq_some_iff.1 hu).1; omega⟩
  · obtain ⟨g, o, rfl, _, _⟩ := H.winAt i hi 0 (by omega)
    refine .inr ⟨g, o, rfl, fun j u hu => ?_⟩
    have hj := (List.getElem?_eq_some_iff.1 hu).1
    obtain ⟨g', o', e, ⟨u', h1, h2⟩, _⟩ := H.winAt i hi j (by omega)
    cases e
    rw [hu] at h1
    cases h1
    exact h2
theorem rd_rowW {B : Nat} {w0 w : World} {Ps : List Asn} {e : TypeId} {size n : Nat} {v : Value} {xs : List Value} (H : St B w0 w Ps) (i : Nat) (hi : Ps[i]? = some (ARow e size v n xs)) : RdWin w v n xs := by
  obtain ⟨ao, cap, e2, h⟩ := rd_own H i hi
  refine ⟨ao, cap, e2, ?_⟩
  rcases h with h | ⟨g, hg, hc⟩
  · exact .inl h
  · exact .inr ⟨g, 0, hg, fun j u hu => by rw [Nat.zero_add]; exact hc j u hu⟩
end Go.Own

end
section
namespace Go.Proofs.Ytepbdjgfaljbgaa
open Go.RowKit Go.Own
namespace Que
open Go.QueM Byt
theorem idx_wr {o : Oper} {x y : Tmp} (ho : o.op = .indexAddr 28 (.tmp x) (.tmp y)) {b g n c k : Nat} (hk : k < n) (ρ : Operand → Value) (w : World) (h0 : ρ (.tmp x) = .slice (some ⟨b, g, none⟩) n c) (h1 : ρ (.tmp y) = .int .i64 (k : Int)) : (execOp ρ o).run Try.prog w = .ok (.value (.pointer (some ⟨b, g + k * 36, none⟩))) w := by
  obtain ⟨i, hi, hs⟩ := Option.map_eq_some_iff.1 size_wr
  have h2 : (k : Int) < (n : Int) := by omega
  have hu := Try.underlying28
  simp [execOp, ho, h0, h1, go_sem, h2, hu]
section
variable {B : Nat} {w0 w : World} {Ps : List Asn} {p : Nat} {v : Value} {q : Q} {N : Nat}
set_option maxHeartbeats 3200000 in
theorem lastR_any (H : Own.St B w0 w (ARefQ p v q :: Ps)) (ok : Ok q N) (hN : N ≤ 10000) (a : Nat) (ha : a < 4294967296) :
    Calls Try.prog 44 #[ptr p, .int .u32 (a : Int)] w fun e w' => e = .returned (.tuple #[wrV (lastW q a), .bool (isLast q a)]) ∧ Own.St B w0 w' (ARefQ p v q :: Ps) := by
  have h0 := ref_open H
  obtain ⟨ao, cap, rfl, _⟩ := h0.winForm 1 rfl
  obtain ⟨n, hn⟩ : ∃ n, n = q.L.length := ⟨_, rfl⟩
  obtain ⟨z, hz⟩ : ∃ z, z = zW := ⟨_, rfl⟩
  have ZL : Hid (z.length = 36) := by show z.length = 36; rw [hz]; exact zW_len
  have ZP : Hid ((Try.prog.info? 38).bind (·.zero) = some (.agg z.toArray)) := by rw [hz]; exact zero_wr
  have ZB : Hid (Try.prog.built 38 [] = some z.toArray) := by rw [hz]; exact built_wr
  have ZO : Hid (z.toArray.all (·.oneCell') = true) := by show _ = true; rw [hz]; exact all_oneCell_toArray (wrC_one _)
  have hbox := h0.boxV 38 z
  obtain ⟨b, hb⟩ : ∃ b, b = w.heap.size := ⟨_, rfl⟩
  obtain ⟨W1, hW1⟩ : ∃ W, W = w.alloc (.cells z.toArray 38) := ⟨_, rfl⟩
  rw [← hb, ← hW1] at hbox
  have c0 := (hbox.cellV 1 rfl 0 rfl).1
  rw [← hn] at c0
  have hnl : n ≤ 10000 := by rw [hn]; exact Nat.le_trans ok.len hN
  have H1 := Lib.hid hbox
  have HB := Lib.hid hb
  have HW1 := Lib.hid hW1
  have HN := Lib.hid hn
  have HF := Lib.hid ok.fits
  have HZ := Lib.hid hz
  have IZ := Lib.hid (info_wrA z ZL.out)
  clear hbox hb hW1 h0 ok H hz hn
  show Calls Try.prog _ _ w fun e w' => e = .returned (.tuple #[.agg (wrC (lastW q a)).toArray, .bool (isLast q a)]) ∧ _
  go_enter Try.func44, Try.ntmps44
  go_wp2_with (refine Own.wpList_allocZ rfl 38 rfl z.toArray ZP.out ?_; rw [← HB.out, ← HW1.out])
  go_loopw [6] (fun v6 wr => ∃ k : Nat, k ≤ n ∧ v6 = .int .i64 ((k : Int) - 1) ∧ wr = W1 ∧ lastN q.L a = lastF q.L a k) (fun v6 _ => ((intOf v6) + 1).toNat)
  case atStart => exact ⟨n, Nat.le_refl _, rfl, rfl, by rw [HN.out]; rfl⟩
  case round =>
    obtain ⟨k, hk, rfl, hw, hl⟩ := hrel
    subst hw
    have HL := Lib.hid hl
    clear hl
    by_cases hk0 : k = 0
    · subst hk0
      have hX : lastN q.L a = 0 := HL.out
      have HX : Hid (lastW q a = zeroW ∧ isLast q a = false) := by
        unfold lastW isLast
        rw [hX]
        exact ⟨rfl, rfl⟩
      have ws := wr_store H1.out 0 rfl ZL.out z ZL.out
      obtain ⟨W2, hW2⟩ : ∃ W, W = wr.setCells b 0 z.toArray.toList := ⟨_, rfl⟩
      rw [← hW2] at ws
      have TH := Lib.hid ws.1
      have H2 := Lib.hid ws.2
      have HW2 := Lib.hid hW2
      clear ws hW2 hX H1
      go_wp2_with (first
        | (refine Own.wpList_built rfl 38 #[] rfl z.toArray ?_ ?_; · (simp only [List.map_toArray, List.map_nil, List.toList_toArray]; exact ZB.out))
        | (refine wpList_store_mid rfl 38 (.tmp 4) (.tmp 34) rfl b 0 z.toArray rfl rfl TH.out IZ.out ZO.out ?_; rw [← HW2.out]))
      refine bodyPost_ret (results_cell_two rfl _ _ b 38 _ (0, 0) _ _ rfl rfl (H2.out.rowV 0 rfl) Try.underlying38 rfl (info_wr z ZL.out)) rfl ?_
      refine ⟨?_, ?_⟩
      · rw [HX.out.1, HX.out.2, HZ.out]
        rfl
      · have h := H2.out.drop 1
        simp only [List.set_cons_zero, List.drop_succ_cons, List.drop_zero] at h
        exact ref_close h
    · obtain ⟨j, rfl⟩ : ∃ j, k = j + 1 := ⟨k - 1, by omega⟩
      have hj0 : (0 : Int) ≤ (j : Int) := by omega
      have hjn : j < n := by omega
      have hjn2 : (j : Int) < (n : Int) := by omega
      have hjl : j < q.L.length := by rw [← HN.out]; exact hjn
      have hjj : ((j + 1 : Nat) : Int) - 1 = (j : Int) := by omega
      rw [hjj]
      obtain ⟨g, o, hgo, hr⟩ := win_range HF.out H1.out 2 (n := q.L.length) rfl rfl j hjl
      subst hgo
      obtain ⟨F, hF⟩ : ∃ F, F = at_ q.L j := ⟨_, rfl⟩
      rw [← hF] at hr
      obtain ⟨fa, hfa⟩ : ∃ x, x = F.addr := ⟨_, rfl⟩
      have d0 := hr 0 (.int .u32 (fa : Int)) (by rw [hfa]; rfl)
      rw [Nat.add_zero] at d0
      obtain ⟨cs, hcs⟩ : ∃ cs, cs = wrC F := ⟨_, rfl⟩
      have FL : Hid (cs.length = 36) := by show _ = 36; rw [hcs, hF]; exact wrC_len _ (HF.out _ (at_mem hjl)).sum
      have FO : Hid (cs.toArray.all (·.oneCell') = true) := by show _ = true; rw [hcs]; exact all_oneCell_toArray (wrC_one _)
      rw [← hcs] at hr
      have HR := Lib.hid hr
      have hstep : lastF q.L a (j + 1) = if fa = a then j + 1 else lastF q.L a j := by rw [lastF, ← hF, ← hfa]
      have hst2 := HL.out
      rw [hstep] at hst2
      have HST := Lib.hid hst2
      have HCS := Lib.hid hcs
      have HFF := Lib.hid hF
      clear hr hcs hF hfa hst2 hstep hjj hk0
      by_cases he : fa = a
      · subst he
        have hX : lastN q.L fa = j + 1 := by rw [HST.out, if_pos rfl]
        have HX : Hid (lastW q fa = F ∧ isLast q fa = true) := by
          unfold lastW isLast
          rw [hX]
          exact ⟨by rw [if_neg (by omega), HFF.out]; rfl, by simp⟩
        have ws := wr_store H1.out 0 rfl ZL.out cs FL.out
        obtain ⟨W2, hW2⟩ : ∃ W, W = wr.setCells b 0 cs.toArray.toList := ⟨_, rfl⟩
        rw [← hW2] at ws
        have TH := Lib.hid ws.1
        have H2 := Lib.hid ws.2
        have HW2 := Lib.hid hW2
        have IF := Lib.hid (info_wrA cs FL.out)
        clear ws hW2 hX H1
        go_wp2_with (first
          | (refine wpList_val rfl (load_wr cs FL.out rfl _ (b := g) (k := o + j * 36) HR.out rfl) ?_)
          | (refine wpList_store_mid rfl 38 (.tmp 4) (.tmp 33) rfl b 0 cs.toArray rfl rfl TH.out IF.out FO.out ?_; rw [← HW2.out]))
        refine bodyPost_ret (results_cell_two rfl _ _ b 38 _ (0, 0) _ _ rfl rfl (H2.out.rowV 0 rfl) Try.underlying38 rfl (info_wr cs FL.out)) rfl ?_
        refine ⟨?_, ?_⟩
        · rw [HX.out.1, HX.out.2, ← HCS.out]
          rfl
        · have h := H2.out.drop 1
          simp only [List.set_cons_zero, List.drop_succ_cons, List.drop_zero] at h
          exact ref_close h
      · have heb : ((fa : Int) == (a : Int)) = false := by simp; omega
        have hX : lastN q.L a = lastF q.L a j := by rw [HST.out, if_neg he]
        have HX := Lib.hid hX
        clear hX he
        go_wp2_with (fail)
        go_roundw
        case rel => exact ⟨j, by omega, by go_num, trivial, HX.out⟩
        case measure => simp [intOf]
set_option maxHeartbeats 1600000 in
theorem sameW_any (L : List Wr) (hf : ∀ r ∈ L, Fits r) (n : Nat) (v1 v2 : Value) (w : World) (h1 : RdWin w v1 n (L.flatMap wrC)) (h2 : RdWin w v2 n (L.flatMap wrC)) (hl : L.length = n) (hb : n ≤ 1000000) :
    Calls Try.prog 22 #[v1, v2] w fun e w' => e = .returned (.bool true) ∧ Below w.heap.size w w' := by
  obtain ⟨a1, c1, rfl, h1⟩ := h1
  obtain ⟨a2, c2, rfl, h2⟩ := h2
  have H1 := Lib.hid h1
  have H2 := Lib.hid h2
  have HL := Lib.hid hl
  have HF := Lib.hid hf
  clear h1 h2 hl hf
  go_enter Try.func22, Try.ntmps22
  go_wp2
  go_loopw [5] (fun v5 wr => ∃ i : Nat, i ≤ n ∧ v5 = .int .i64 (i : Int) ∧ Below w.heap.size w wr) (fun v5 _ => n - (intOf v5).toNat)
  case atStart => exact ⟨0, Nat.zero_le _, rfl, Below.refl _ _⟩
  case round =>
    obtain ⟨i, hin, rfl, hbw⟩ := hrel
    have HB := Lib.hid hbw
    clear hbw
    by_cases hi : (i : Int) < (n : Int)
    · have hin2 : i < n := by omega
      rcases H1.out with h | ⟨g, o, rfl, hc⟩
      · omega
      rcases H2.out with h | ⟨g2, o2, rfl, hc2⟩
      · omega
      have hil : i < L.length := by rw [HL.out]; exact hin2
      obtain ⟨F, hF⟩ : ∃ s, s = at_ L i := ⟨_, rfl⟩
      obtain ⟨cs, hcs⟩ : ∃ cs, cs = wrC F := ⟨_, rfl⟩
      have hFs : F.sum.length = 32 := by rw [hF]; exact (HF.out _ (at_mem hil)).sum
      have FL : Hid (cs.length = 36) := by show _ = 36; rw [hcs]; exact wrC_len _ hFs
      have HFS := Lib.hid hFs
      have hx : ∀ k u, cs[k]? = some u → (L.flatMap wrC)[i * 36 + k]? = some u := fun k u hu => by
        rw [flat_at wrC 36 L (wrs_len L HF.out) i _ (at_get hil) k (by rw [← FL.out]; exact (List.getElem?_eq_some_iff.1 hu).1), ← hF, ← hcs, hu]
      have R1 : Hid (∀ wx, Below wr.heap.size wr wx → wx.rangeAt g (o + i * 36) cs) := fun wx hwx k u hu => by rw [Nat.add_assoc]; exact cellLater (cellLater' (hc _ u (hx k u hu)) HB.out) hwx
      have R2 : Hid (∀ wx, Below wr.heap.size wr wx → wx.rangeAt g2 (o2 + i * 36) cs) := fun wx hwx k u hu => by rw [Nat.add_assoc]; exact cellLater (cellLater' (hc2 _ u (hx k u hu)) HB.out) hwx
      have HCS := Lib.hid hcs
      clear hc hc2 hx hF H1 H2 hcs hFs hil
      go_wp2_with (fail)
      refine wp_lax_list (by kernel_rfl) (by kernel_rfl) (by kernel_rfl) ?_
      refine wpL_move (.slice (some ⟨g, o, none⟩) n c1) rfl (by kernel_rfl) (by kernel_rfl) (by kernel_rfl) (by kernel_rfl) ?_
      refine wpL_move (.int .i64 (i : Int)) rfl (by kernel_rfl) (by kernel_rfl) (by kernel_rfl) (by kernel_rfl) ?_
      refine wpL_run2 (x := .tmp 17) (y := .tmp 18) (.slice (some ⟨g, o, none⟩) n c1) (.int .i64 (i : Int)) (.pointer (some ⟨g, o + i * 36, none⟩)) (by kernel_rfl) (by kernel_rfl) (by kernel_rfl) (by kernel_rfl) (by kernel_rfl) (by kernel_rfl) (fun wx ρ hwx h0 h1 hc => idx_wr rfl hin2 ρ wx h0 h1) ?_
      refine wpL_run1 (x := .tmp 19) (.pointer (some ⟨g, o + i * 36, none⟩)) (.agg cs.toArray) (by kernel_rfl) (by kernel_rfl) (by kernel_rfl) (by kernel_rfl) (by kernel_rfl) (fun wx ρ hwx h0 hc => load_wr cs FL.out rfl ρ (R1.out wx hwx) h0) ?_
      refine wpL_move (.slice (some ⟨g2, o2, none⟩) n c2) rfl (by kernel_rfl) (by kernel_rfl) (by kernel_rfl) (by kernel_rfl) ?_
      refine wpL_move (.int .i64 (i : Int)) rfl (by kernel_rfl) (by kernel_rfl) (by kernel_rfl) (by kernel_rfl) ?_
      refine wpL_run2 (x := .tmp 21) (y := .tmp 22) (.slice (some ⟨g2, o2, none⟩) n c2) (.int .i64 (i : Int)) (.pointer (some ⟨g2, o2 + i * 36, none⟩)) (by kernel_rfl) (by kernel_rfl) (by kernel_rfl) (by kernel_rfl) (by kernel_rfl) (by kernel_rfl) (fun wx ρ hwx h0 h1 hc => idx_wr rfl hin2 ρ wx h0 h1) ?_
      refine wpL_run1 (x := .tmp 23) (.pointer (some ⟨g2, o2 + i * 36, none⟩)) (.agg cs.toArray) (by kernel_rfl) (by kernel_rfl) (by kernel_rfl) (by kernel_rfl) (by kernel_rfl) (fun wx ρ hwx h0 hc => load_wr cs FL.out rfl ρ (R2.out wx hwx) h0) ?_
      refine wpL_run2 (x := .tmp 20) (y := .tmp 24) (.agg cs.toArray) (.agg cs.toArray) (.bool false) (by kernel_rfl) (by kernel_rfl) (by kernel_rfl) (by kernel_rfl) (by kernel_rfl) (by kernel_rfl) (fun wx ρ hwx h0 h1 hc => neq_wr rfl F HCS.out HFS.out ρ wx h0 h1) ?_
      refine wpL_end (by kernel_rfl) (fun w5 hw5 => ?_)
      simp only [FinL, setL, List.set_cons_zero, List.set_cons_succ]
      have HB5 := Lib.hid (HB.out.trans (hw5.mono HB.out.size))
      clear hw5 R1 R2
      go_wp2
      go_roundw
      case rel => exact ⟨i + 1, by omega, by go_num, HB5.out⟩
      case measure => simp [intOf]; omega
    · go_wp2
      go_ret
      exact ⟨rfl, HB.out⟩
end
end Que
end Go.Proofs.Ytepbdjgfaljbgaa

end
section
namespace Go.Proofs.Ytepbdjgfaljbgaa
open Go.RowKit Go.Own
namespace Rec
open Go.RecM Byt
def inKey : InT (RecM.Bs × Nat) := fun k _ _ cs => cs = keyC k.1 k.2 ∧ k.1.length = 32 ∧ k.2 < 4294967296
theorem nat_u32 {a : Int} (h : (Lit.int .u32 a).wf = true) : ∃ u : Nat, a = u ∧ u < 4294967296 := by
  have : 0 ≤ a ∧ a < 4294967296 := by
    have : 0 ≤ a ∧ a ≤ 4294967295 := by simpa [Lit.wf, IntKind.min, IntKind.max, IntKind.signed, IntKind.bits] using h
    omega
  exact ⟨a.toNat, by omega, by omega⟩
theorem nat_u64 {a : Int} (h : (Lit.int .u64 a).wf = true) : ∃ u : Nat, a = u ∧ u < 18446744073709551616 := by
  have : 0 ≤ a ∧ a < 18446744073709551616 := by
    have : 0 ≤ a ∧ a ≤ 18446744073709551615 := by simpa [Lit.wf, IntKind.min, IntKind.max, IntKind.signed, IntKind.bits] using h
    omega
  exact ⟨a.toNat, by omega, by omega⟩
theorem opens_key : Opens Try.prog 36 inKey := by
  intro H enc w fuel cs x h
  obtain ⟨hl, hf⟩ := opens_fields (P := Try.prog) Try.underlying36 h
  rw [show Try.prog.cellsOf 36 = 33 by kernel_rfl] at hl
  obtain ⟨n0, y0, h0⟩ := hf 0 _ rfl
  obtain ⟨n1, y1, h1⟩ := hf 1 _ rfl
  obtain ⟨s, hs⟩ := opens_bytesA (P := Try.prog) (n := 32) Try.underlying34 Try.underlying5 (by kernel_rfl) (by kernel_rfl) H enc w n0 _ y0 h0
  obtain ⟨a1, e1, w1⟩ := opens_int (P := Try.prog) Try.underlying32 H enc w n1 _ y1 h1
  obtain ⟨hs1, hs2⟩ := hs
  obtain ⟨u, rfl, hu⟩ := nat_u32 w1
  have k0 : Try.prog.cellsOf 34 = 32 := by kernel_rfl
  have k1 : Try.prog.cellsOf 32 = 1 := by kernel_rfl
  refine ⟨(s, u), ?_, hs2, hu⟩
  show cs = keyC s u
  have f0 : cs.take 32 = s.map byteV := by simpa [k0] using hs1
  have f1 : (cs.drop 32).take 1 = [.int .u32 (u : Int)] := by simpa [k1] using e1
  unfold keyC
  rw [← f0, ← f1, List.take_of_length_le (l := cs.drop 32) (by simp [hl]), List.take_append_drop]
end Rec
end Go.Proofs.Ytepbdjgfaljbgaa

end
section
namespace Go.Own
open Go.RowKit
/-- a type of c cells, its zero value -/
structure Boxy (P : Program) (ty : TypeId) (c : Nat) : Prop where
  zero : ∃ z : Array Value, (P.info? ty).bind (·.zero) = some (.agg z) ∧ z.size = c
  size : (P.info? ty).map (·.size) = some c
theorem boxy_of {P : Program} {ty : TypeId} {c : Nat} (z : Array Value) (h : (P.info? ty).bind (·.zero) = some (.agg z)) (hz : z.size = c) (hs : (P.info? ty).map (·.size) = some c) : Boxy P ty c := ⟨⟨z, h, hz⟩, hs⟩
section
variable {P : Program} {B : Nat} {w0 : World} {Ps : List Asn}
/-- x := value -/
theorem wpList_box2 {ops : Array Oper} {rest : List Oper} {o1 o2 : Oper} {a : Act} {w : World} {Q : Exit → Act → World → Prop} {ty : TypeId} {c : Nat} (O : Boxy P ty c) (hg1 : o1.guard = none) (hg2 : o2.guard = none) (ho1 : o1.op = .alloc ty) (x y : Operand) (ho2 : o2.op = .store ty x y) (hd2 : o2.dst = none)
    (cs : List Value) (hx : ∀ v, (a.put o1.dst v).eval x = v) (hy : ∀ v, (a.put o1.dst v).eval y = .agg cs.toArray) (hc : cs.length = c) (h1 : ∀ u ∈ cs, u.oneCell' = true) (H : St B w0 w Ps)
    (h : ∀ b w', St B w0 w' (AVals b ty cs :: Ps) → wpList P ops Q rest (a.put o1.dst (.pointer (some ⟨b, 0, none⟩))) w') : wpList P ops Q (o1 :: o2 :: rest) a w := by
  obtain ⟨z, hz, hzl⟩ := O.zero
  refine wpList_allocZ hg1 ty ho1 z hz ?_
  have hb := H.boxV ty z.toList
  have hzz : z.toList.toArray = z := by simp
  rw [hzz] at hb
  have ht : (w.alloc (.cells z ty)).there w.heap.size 0 cs.toArray.size := hb.thereV 0 rfl (by rw [List.size_toArray, hc, Array.length_toList, hzl]; exact Nat.le_refl _)
  refine wpList_store_mid hg2 ty x y ho2 w.heap.size 0 cs.toArray (hx _) (hy _) ht (by rw [List.size_toArray, hc]; exact O.size) (all_oneCell_toArray h1) ?_
  have hs := St.setAll 0 cs 0 _ _ z.toList hb rfl (by rw [Nat.zero_add, hc, Array.length_toList, hzl])
  simp only [List.set_cons_zero, List.take_zero, List.nil_append] at hs
  rw [hd2, List.toList_toArray]
  exact h _ _ hs
/-- var x: its zero value -/
theorem wpList_newZ {ops : Array Oper} {rest : List Oper} {o : Oper} {a : Act} {w : World} {Q : Exit → Act → World → Prop} {ty : TypeId} (z : List Value) (hz : (P.info? ty).bind (·.zero) = some (.agg z.toArray)) (hg : o.guard = none) (ho : o.op = .alloc ty) (H : St B w0 w Ps)
    (h : ∀ b w', St B w0 w' (AVals b ty z :: Ps) → wpList P ops Q rest (a.put o.dst (.pointer (some ⟨b, 0, none⟩))) w') : wpList P ops Q (o :: rest) a w :=
  wpList_allocZ hg ty ho z.toArray hz (h _ _ (H.boxV ty z))
/-- x = value -/
theorem wpList_fill {ops : Array Oper} {rest : List Oper} {o : Oper} {a : Act} {w : World} {Q : Exit → Act → World → Prop} {ty : TypeId} {c b : Nat} (O : Boxy P ty c) (hg : o.guard = none) (x y : Operand) (ho : o.op = .store ty x y) (hd : o.dst = none) (H : St B w0 w Ps) (i : Nat) {vs : List Value} (hi : Ps[i]? = some (AVals b ty vs)) (hv : vs.length = c)
    (cs : List Value) (hx : a.eval x = .pointer (some ⟨b, 0, none⟩)) (hy : a.eval y = .agg cs.toArray) (hc : cs.length = c) (h1 : ∀ u ∈ cs, u.oneCell' = true)
    (h : ∀ w', St B w0 w' (Ps.set i (AVals b ty cs)) → wpList P ops Q rest a w') : wpList P ops Q (o :: rest) a w := by
  have ht : w.there b 0 cs.toArray.size := H.thereV i hi (by rw [List.size_toArray, hc, hv]; exact Nat.le_refl _)
  refine wpList_store_mid hg ty x y ho b 0 cs.toArray hx hy ht (by rw [List.size_toArray, hc]; exact O.size) (all_oneCell_toArray h1) ?_
  have hs := St.setAll i cs 0 w Ps vs H hi (by rw [Nat.zero_add, hc, hv])
  simp only [List.take_zero, List.nil_append] at hs
  rw [hd, List.toList_toArray]
  exact h _ hs
/-- such a variable is loaded -/
theorem St.boxRange {w : World} {b : Nat} {ty : TypeId} {cs : List Value} (H : St B w0 w Ps) (i : Nat) (hi : Ps[i]? = some (AVals b ty cs)) : w.rangeAt b 0 cs := fun j v hv => by rw [Nat.zero_add]; exact (H.cellV i hi j hv).1
end
end Go.Own

end
section
namespace Go.Proofs.Ytepbdjgfaljbgaa
open Go.RowKit Go.Own
namespace Que
open Go.QueM Byt
open Rec (opens_key nat_u32 nat_u64 keyC)
abbrev inWr : InT Wr := inE wrC Fits
theorem split36 (cs : List Value) (h : cs.length = 36) : cs = cs.take 1 ++ ((cs.drop 1).take 1 ++ ((cs.drop 2).take 1 ++ (cs.drop 3).take 33)) := by
  have e3 : (cs.drop 3).take 33 = cs.drop 3 := List.take_of_length_le (by simp [h])
  have e2 : (cs.drop 2).take 1 ++ cs.drop 3 = cs.drop 2 := by
    have := List.take_append_drop 1 (cs.drop 2)
    rwa [List.drop_drop] at this
  have e1 : (cs.drop 1).take 1 ++ cs.drop 2 = cs.drop 1 := by
    have := List.take_append_drop 1 (cs.drop 1)
    rwa [List.drop_drop] at this
  rw [e3, e2, e1, List.take_append_drop]
theorem opens_wr : Opens Try.prog 38 inWr := by
  intro H enc w fuel cs x h
  obtain ⟨hl, hf⟩ := opens_fields (P := Try.prog) Try.underlying38 h
  rw [show Try.prog.cellsOf 38 = 36 by kernel_rfl] at hl
  obtain ⟨n0, y0, h0⟩ := hf 0 _ rfl
  obtain ⟨n1, y1, h1⟩ := hf 1 _ rfl
  obtain ⟨n2, y2, h2⟩ := hf 2 _ rfl
  obtain ⟨n3, y3, h3⟩ := hf 3 _ rfl
  obtain ⟨a0, e0, w0⟩ := opens_int (P := Try.prog) Try.underlying32 H enc w n0 _ y0 h0
  obtain ⟨a1, e1, w1⟩ := opens_int (P := Try.prog) Try.underlying27 H enc w n1 _ y1 h1
  obtain ⟨a2, e2⟩ := opens_bool (P := Try.prog) Try.underlying4 H enc w n2 _ y2 h2
  obtain ⟨k, hk, hk1, hk2⟩ := opens_key H enc w n3 _ y3 h3
  have k0 : Try.prog.cellsOf 32 = 1 := by kernel_rfl
  have k1 : Try.prog.cellsOf 27 = 1 := by kernel_rfl
  have k2 : Try.prog.cellsOf 4 = 1 := by kernel_rfl
  have k3 : Try.prog.cellsOf 36 = 33 := by kernel_rfl
  obtain ⟨ad, rfl, had⟩ := nat_u32 w0
  obtain ⟨sq, rfl, hsq⟩ := nat_u64 w1
  have f0 : cs.take 1 = [.int .u32 (ad : Int)] := by simpa [k0] using e0
  have f1 : (cs.drop 1).take 1 = [.int .u64 (sq : Int)] := by simpa [k1] using e1
  have f2 : (cs.drop 2).take 1 = [.bool a2] := by have h := e2; unfold inBool at h; simpa [k2] using h
  have f3 : (cs.drop 3).take 33 = keyC k.1 k.2 := by simpa [k3] using hk
  refine ⟨⟨ad, sq, a2, k.1, k.2⟩, ?_, ⟨had, hsq, hk1, hk2⟩⟩
  have h36 := split36 cs hl
  rw [f0, f1, f2, f3] at h36
  exact h36
abbrev actVs (a : ActD) : List Value := .bool a.out :: wrC a.w
abbrev FitA (a : ActD) : Prop := Fits a.w
abbrev inAct : InT ActD := inE actVs FitA
theorem act_len {a : ActD} (h : FitA a) : (actVs a).length = 37 := by simp [actVs, wrC_len _ h.sum]
theorem act_one (a : ActD) : ∀ u ∈ actVs a, u.oneCell' = true := by
  intro u hu
  simp only [actVs, List.mem_cons] at hu
  rcases hu with rfl | h
  · rfl
  · exact wrC_one _ u h
theorem opens_act : Opens Try.prog 40 inAct := by
  intro H enc w fuel cs x h
  obtain ⟨hl, hf⟩ := opens_fields (P := Try.prog) Try.underlying40 h
  rw [show Try.prog.cellsOf 40 = 37 by kernel_rfl] at hl
  obtain ⟨n0, y0, h0⟩ := hf 0 _ rfl
  obtain ⟨n1, y1, h1⟩ := hf 1 _ rfl
  obtain ⟨a0, e0⟩ := opens_bool (P := Try.prog) Try.underlying4 H enc w n0 _ y0 h0
  obtain ⟨r, hr, hfr⟩ := opens_wr H enc w n1 _ y1 h1
  have k0 : Try.prog.cellsOf 4 = 1 := by kernel_rfl
  have k1 : Try.prog.cellsOf 38 = 36 := by kernel_rfl
  have f0 : cs.take 1 = [.bool a0] := by have h := e0; unfold inBool at h; simpa [k0] using h
  have f1 : (cs.drop 1).take 36 = wrC r := by simpa [k1] using hr
  refine ⟨⟨a0, r⟩, ?_, hfr⟩
  show cs = .bool a0 :: wrC r
  rw [← f1, List.take_of_length_le (by simp [hl])]
  have := List.take_append_drop 1 cs
  rw [f0] at this
  exact this.symm
theorem few_any (ao : Option Addr) (n cap : Nat) (hn : n ≤ cap) (hc : cap ≤ maxLen) (w : World) :
    Calls Try.prog 13 #[.slice ao n cap] w fun e w' => e = .returned (.slice ao (min n 300) cap) ∧ w = w' := by
  unfold maxLen at hc
  obtain ⟨k, hk⟩ : ∃ k, k = min n 300 := ⟨_, rfl⟩
  have hmin : ∀ wx, (Builtin.min_ #[3, 3] 3 #[.int .i64 (n : Int), .int .i64 300]).run Try.prog wx = .ok (.int .i64 (k : Int)) wx := by
    intro wx
    rw [show (k : Int) = min (n : Int) 300 by omega]
    simp [Builtin.min_, Builtin.min2, go_sem]
    try omega
  have hkn : k ≤ n := by omega
  have hkc : k ≤ cap := by omega
  rw [← hk]
  clear hk
  go_enter Try.func13, Try.ntmps13
  go_wp2
  go_ret
  exact ⟨rfl, rfl⟩
theorem boxy_wr : Boxy Try.prog 38 36 := boxy_of _ zero_wr (by rw [List.size_toArray]; exact zW_len) (by kernel_rfl)
theorem zero_act : (Try.prog.info? 40).bind (·.zero) = some (.agg (.bool false :: wrC zeroW).toArray) := by kernel_rfl
theorem boxy_act : Boxy Try.prog 40 37 := boxy_of _ zero_act (by simp [zW_len]) (by kernel_rfl)
abbrev RowW (v : Value) (L : List Wr) (n : Nat) : Asn := ARow 38 36 v n (L.flatMap wrC)
structure Kept (W : World) where
  A : Nat → Q → Asn
  new : ∀ {B : Nat} {w0 w : World} {Ps : List Asn}, Below W.heap.size W w → Own.St B w0 w Ps →
    Calls Try.prog 12 #[] w fun e w' => ∃ p, e = .returned (ptr p) ∧ Own.St B w0 w' (A p newQ :: Ps)
  load : ∀ {B : Nat} {w0 w : World} {Ps : List Asn} (L : List Wr) (next : Nat) (ao : Option Addr) (n c : Nat), Below W.heap.size W w → Own.St B w0 w (RowW (.slice ao n c) L n :: Ps) → L.length = n → n ≤ 10000 → (∀ r ∈ L, Fits r) → next < 18446744073709551616 →
    Calls Try.prog 19 #[.slice ao n c, .int .u64 (next : Int)] w fun e w' => if loadB L next = true then ∃ p, e = .returned (.tuple #[ptr p, errQ 0]) ∧ Own.St B w0 w' (A p ⟨L, next⟩ :: RowW (.slice ao n c) L n :: Ps) else e = .returned (.tuple #[.pointer none, errQ 1]) ∧ Own.St B w0 w' (RowW (.slice ao n c) L n :: Ps)
  push : ∀ {B : Nat} {w0 w : World} {Ps : List Asn} {p : Nat} {q : Q} {N : Nat} (r : Wr), Below W.heap.size W w → Own.St B w0 w (A p q :: Ps) → Ok q N → N ≤ 10000 → Fits r →
    Calls Try.prog 16 #[ptr p, wrV r] w fun e w' => e = .returned (.tuple #[.int .u64 (pushN q r : Int), errQ (pushE q r)]) ∧ Own.St B w0 w' (A p (push q r) :: Ps)
  pop : ∀ {B : Nat} {w0 w : World} {Ps : List Asn} {p : Nat} {q : Q} {N : Nat}, Below W.heap.size W w → Own.St B w0 w (A p q :: Ps) → Ok q N → N ≤ 10000 → 
    Calls Try.prog 14 #[ptr p] w fun e w' => e = .returned (.tuple #[wrV (frontW q), .bool (isW q)]) ∧ Own.St B w0 w' (A p (pop q) :: Ps)
  last : ∀ {B : Nat} {w0 w : World} {Ps : List Asn} {p : Nat} {q : Q} {N : Nat} (a : Nat), Below W.heap.size W w → Own.St B w0 w (A p q :: Ps) → Ok q N → N ≤ 10000 → a < 4294967296 →
    Calls Try.prog 21 #[ptr p, .int .u32 (a : Int)] w fun e w' => e = .returned (.tuple #[wrV (lastW q a), .bool (isLast q a)]) ∧ Below w.heap.size w w'
  front : ∀ {B : Nat} {w0 w : World} {Ps : List Asn} {p : Nat} {q : Q} {N : Nat}, Below W.heap.size W w → Own.St B w0 w (A p q :: Ps) → Ok q N → N ≤ 10000 → 
    Calls Try.prog 26 #[ptr p] w fun e w' => e = .returned (.tuple #[wrV (frontW q), .bool (isW q)]) ∧ Below w.heap.size w w'
  len : ∀ {B : Nat} {w0 w : World} {Ps : List Asn} {p : Nat} {q : Q} {N : Nat}, Below W.heap.size W w → Own.St B w0 w (A p q :: Ps) → Ok q N → N ≤ 10000 → 
    Calls Try.prog 27 #[ptr p] w fun e w' => e = .returned (.int .i64 (q.L.length : Int)) ∧ Below w.heap.size w w'
  next : ∀ {B : Nat} {w0 w : World} {Ps : List Asn} {p : Nat} {q : Q} {N : Nat}, Below W.heap.size W w → Own.St B w0 w (A p q :: Ps) → Ok q N → N ≤ 10000 → 
    Calls Try.prog 25 #[ptr p] w fun e w' => e = .returned (.int .u64 (q.next : Int)) ∧ Below w.heap.size w w'
  all : ∀ {B : Nat} {w0 w : World} {Ps : List Asn} {p : Nat} {q : Q} {N : Nat}, Below W.heap.size W w → Own.St B w0 w (A p q :: Ps) → Ok q N → N ≤ 10000 → 
    Calls Try.prog 23 #[ptr p] w fun e w' => ∃ ao c, e = .returned (.slice ao q.L.length c) ∧ Own.St B w0 w' (RowW (.slice ao q.L.length c) q.L q.L.length :: A p q :: Ps) ∧ Below w.heap.size w w'
  nilPush : ∀ (r : Wr) (hf : Fits r) (w : World), Calls Try.prog 16 #[.pointer none, wrV r] w fun e w' => e = .returned (.tuple #[.int .u64 0, errQ 2]) ∧ Below w.heap.size w w'
  nilPop : ∀ (w : World), Calls Try.prog 14 #[.pointer none] w fun e w' => e = .returned (.tuple #[wrV zeroW, .bool false]) ∧ Below w.heap.size w w'
  nilLast : ∀ (a : Nat) (ha : a < 4294967296) (w : World), Calls Try.prog 21 #[.pointer none, .int .u32 (a : Int)] w fun e w' => e = .returned (.tuple #[wrV zeroW, .bool false]) ∧ Below w.heap.size w w'
  nilFront : ∀ (w : World), Calls Try.prog 26 #[.pointer none] w fun e w' => e = .returned (.tuple #[wrV zeroW, .bool false]) ∧ Below w.heap.size w w'
  nilLen : ∀ (w : World), Calls Try.prog 27 #[.pointer none] w fun e w' => e = .returned (.int .i64 0) ∧ Below w.heap.size w w'
  nilNext : ∀ (w : World), Calls Try.prog 25 #[.pointer none] w fun e w' => e = .returned (.int .u64 0) ∧ Below w.heap.size w w'
  nilAll : ∀ (w : World), Calls Try.prog 23 #[.pointer none] w fun e w' => ∃ ao cap, e = .returned (.slice ao 0 cap) ∧ Below w.heap.size w w'
end Que
end Go.Proofs.Ytepbdjgfaljbgaa

end
section
namespace Go.Proofs.Ytepbdjgfaljbgaa
open Go.RowKit Go.Own
namespace Que
open Go.QueM Byt
def RetYes (w : World) (e : Ending) (w' : World) : Prop := e = .returned (.bool true) ∧ Below w.heap.size w w'
section
variable {W w : World} {Ps : List Asn} {p k : Nat} {v : Value} {q : Q} {N : Nat}
set_option maxRecDepth 10000 in
set_option maxHeartbeats 8000000 in
theorem alike_any (K : Kept W) (H : Own.St W.heap.size W w (K.A p q :: ARefQ k v q :: Ps)) (ok : Ok q N) (hN : N ≤ 10000) (a : Nat) (ha : a < 4294967296) :
    Calls Try.prog 18 #[ptr p, ptr k, .int .u32 (a : Int)] w fun e w' => e = .returned (.bool true) ∧ Own.St W.heap.size W w' (K.A p q :: ARefQ k v q :: Ps) := by
  have h0 := ref_open (H.front 1 rfl)
  obtain ⟨aq, cq, rfl, _⟩ := h0.winForm 1 rfl
  clear h0
  obtain ⟨cl, hcl⟩ : ∃ c, c = wrC (lastW q a) := ⟨_, rfl⟩
  obtain ⟨cf, hcf⟩ : ∃ c, c = wrC (frontW q) := ⟨_, rfl⟩
  obtain ⟨lb, hlb⟩ : ∃ b, b = isLast q a := ⟨_, rfl⟩
  obtain ⟨fb, hfb⟩ : ∃ b, b = isW q := ⟨_, rfl⟩
  have CLS : Hid ((lastW q a).sum.length = 32) := (last_fits ok a).sum
  have CFS : Hid ((frontW q).sum.length = 32) := (front_fits ok).sum
  have CLL : Hid (cl.length = 36) := by show _ = 36; rw [hcl]; exact wrC_len _ CLS.out
  have CFL : Hid (cf.length = 36) := by show _ = 36; rw [hcf]; exact wrC_len _ CFS.out
  have CLO : Hid (∀ u ∈ cl, u.oneCell' = true) := by rw [hcl]; exact wrC_one _
  have CFO : Hid (∀ u ∈ cf, u.oneCell' = true) := by rw [hcf]; exact wrC_one _
  have D1 := Lib.hid (K.last a H.below H ok hN ha)
  unfold wrV at D1
  have D2 : Hid (∀ wx Qs, Own.St W.heap.size W wx (ARefQ k (.slice aq q.L.length cq) q :: Qs) → Calls Try.prog 44 #[ptr k, .int .u32 (a : Int)] wx fun e w' => e = .returned (.tuple #[.agg cl.toArray, .bool lb]) ∧ Own.St W.heap.size W w' (ARefQ k (.slice aq q.L.length cq) q :: Qs)) := by
    rw [hcl, hlb]
    exact fun wx Qs h => lastR_any h ok hN a ha
  have D3 : Hid (∀ wx Qs, Own.St W.heap.size W wx (K.A p q :: Qs) → Calls Try.prog 26 #[ptr p] wx fun e w' => e = .returned (.tuple #[.agg cf.toArray, .bool fb]) ∧ Below wx.heap.size wx w') := by
    rw [hcf, hfb]
    exact fun wx Qs h => K.front h.below h ok hN
  have D4 : Hid (∀ wx Qs, Own.St W.heap.size W wx (ARefQ k (.slice aq q.L.length cq) q :: Qs) → Calls Try.prog 40 #[ptr k] wx fun e w' => e = .returned (.tuple #[.agg cf.toArray, .bool fb]) ∧ Own.St W.heap.size W w' (ARefQ k (.slice aq q.L.length cq) q :: Qs)) := by
    rw [hcf, hfb]
    exact fun wx Qs h => frontR_any h ok hN
  have D5 : Hid (∀ wx Qs, Own.St W.heap.size W wx (K.A p q :: Qs) → Calls Try.prog 27 #[ptr p] wx fun e w' => e = .returned (.int .i64 (q.L.length : Int)) ∧ Below wx.heap.size wx w') := fun wx Qs h => K.len h.below h ok hN
  have D6 : Hid (∀ wx Qs, Own.St W.heap.size W wx (K.A p q :: Qs) → Calls Try.prog 25 #[ptr p] wx fun e w' => e = .returned (.int .u64 (q.next : Int)) ∧ Below wx.heap.size wx w') := fun wx Qs h => K.next h.below h ok hN
  have D7 : Hid (∀ wx Qs, Own.St W.heap.size W wx (K.A p q :: Qs) → Calls Try.prog 23 #[ptr p] wx fun e w' => ∃ u, e = .returned u ∧ (tyWin q.L.length (q.L.flatMap wrC)).holds u w' ∧ Below wx.heap.size wx w') := fun wx Qs h => (K.all h.below h ok hN).mono fun e w' ⟨ao, c, he, h1, h2⟩ => ⟨_, he, rd_rowW h1 0 rfl, h2⟩
  have hnl : q.L.length ≤ 10000 := Nat.le_trans ok.len hN
  have D8 : Hid (∀ u wx, RdWin wx u q.L.length (q.L.flatMap wrC) → RdWin wx (.slice aq q.L.length cq) q.L.length (q.L.flatMap wrC) → Calls Try.prog 22 #[u, .slice aq q.L.length cq] wx fun e w' => e = .returned (.bool true) ∧ Below wx.heap.size wx w') :=
    fun u wx h1 h2 => sameW_any q.L ok.fits q.L.length u _ wx h1 h2 rfl (by omega)
  rw [← hcl, ← hlb] at D1
  have HCL := Lib.hid hcl
  have HCF := Lib.hid hcf
  have H0 := Lib.hid H
  clear hcl hcf hlb hfb H ok hnl
  go_enter Try.func18, Try.ntmps18
  go_wp2_with (fail)
  refine D1.out.mono ?_
  clear D1
  rintro e w1 ⟨rfl, h1⟩
  have H1 := Lib.hid (H0.out.later h1)
  clear h1 H0
  go_wp2_with (refine wpList_box2 boxy_wr rfl rfl rfl (.tmp 7) (.tmp 19) rfl rfl cl (fun _ => rfl) (fun _ => rfl) CLL.out CLO.out H1.out ?_; intro b7 w2 h; have H2 := Lib.hid h; clear h)
  refine (D2.out _ _ (H2.out.front 2 rfl)).mono ?_
  clear D2
  rintro e w3 ⟨rfl, h3⟩
  have H3 := Lib.hid h3
  clear h3 H2 H1
  go_wp2_with (refine wpList_box2 boxy_wr rfl rfl rfl (.tmp 9) (.tmp 25) rfl rfl cl (fun _ => rfl) (fun _ => rfl) CLL.out CLO.out H3.out ?_; intro b9 w4 h; have H4 := Lib.hid h; clear h)
  refine (D3.out _ _ (H4.out.front 3 rfl)).mono ?_
  clear D3
  rintro e w5 ⟨rfl, h5⟩
  have H5 := Lib.hid (H4.out.later h5)
  clear h5 H3 H4
  go_wp2_with (refine wpList_box2 boxy_wr rfl rfl rfl (.tmp 11) (.tmp 30) rfl rfl cf (fun _ => rfl) (fun _ => rfl) CFL.out CFO.out H5.out ?_; intro b11 w6 h; have H6 := Lib.hid h; clear h)
  refine (D4.out _ _ (H6.out.front 2 rfl)).mono ?_
  clear D4
  rintro e w7 ⟨rfl, h7⟩
  have H7 := Lib.hid h7
  clear h7 H5 H6
  go_wp2_with (refine wpList_box2 boxy_wr rfl rfl rfl (.tmp 13) (.tmp 35) rfl rfl cf (fun _ => rfl) (fun _ => rfl) CFL.out CFO.out H7.out ?_; intro b13 w8 h; have H8 := Lib.hid h; clear h)
  clear H7
  have L13 : Hid (∀ wx, Below w8.heap.size w8 wx → wx.rangeAt b13 0 cf) := fun wx hwx => (H8.out.later hwx).boxRange 0 rfl
  have L11 : Hid (∀ wx, Below w8.heap.size w8 wx → wx.rangeAt b11 0 cf) := fun wx hwx => (H8.out.later hwx).boxRange 2 rfl
  have L9 : Hid (∀ wx, Below w8.heap.size w8 wx → wx.rangeAt b9 0 cl) := fun wx hwx => (H8.out.later hwx).boxRange 3 rfl
  have L7 : Hid (∀ wx, Below w8.heap.size w8 wx → wx.rangeAt b7 0 cl) := fun wx hwx => (H8.out.later hwx).boxRange 4 rfl
  have RO : Hid (∀ wx, Below w8.heap.size w8 wx → Own.St W.heap.size W wx (AVals k 30 (queC (.slice aq q.L.length cq) q) :: WRow (.slice aq q.L.length cq) q.L :: AVals b13 38 cf :: AVals b11 38 cf :: AVals b9 38 cl :: AVals b7 38 cl :: K.A p q :: Ps)) := fun wx hwx => ref_open ((H8.out.later hwx).front 1 rfl)
  have Q0 : Hid (∀ wx, Below w8.heap.size w8 wx → wx.cell? ⟨k, 0, none⟩ = some (.slice aq q.L.length cq)) := fun wx hwx => ((RO.out wx hwx).cellV 0 rfl 0 rfl).1
  have Q1 : Hid (∀ wx, Below w8.heap.size w8 wx → wx.cell? ⟨k, 1, none⟩ = some (.int .u64 (q.next : Int))) := fun wx hwx => ((RO.out wx hwx).cellV 0 rfl 1 rfl).1
  have CN : Hid (∀ wx, Below w8.heap.size w8 wx → Calls Try.prog 27 #[ptr p] wx fun e w' => e = .returned (.int .i64 (q.L.length : Int)) ∧ Below wx.heap.size wx w') := fun wx hwx => D5.out wx _ ((H8.out.later hwx).front 5 rfl)
  have CX : Hid (∀ wx, Below w8.heap.size w8 wx → Calls Try.prog 25 #[ptr p] wx fun e w' => e = .returned (.int .u64 (q.next : Int)) ∧ Below wx.heap.size wx w') := fun wx hwx => D6.out wx _ ((H8.out.later hwx).front 5 rfl)
  have CA : Hid (∀ wx, Below w8.heap.size w8 wx → Calls Try.prog 23 #[ptr p] wx fun e w' => ∃ u, e = .returned u ∧ (tyWin q.L.length (q.L.flatMap wrC)).holds u w' ∧ Below wx.heap.size wx w') := fun wx hwx => D7.out wx _ ((H8.out.later hwx).front 5 rfl)
  have CS : Hid (∀ u wx, Below w8.heap.size w8 wx → (tyWin q.L.length (q.L.flatMap wrC)).holds u wx → Calls Try.prog 22 #[u, .slice aq q.L.length cq] wx fun e w' => e = .returned (.bool true) ∧ Below wx.heap.size wx w') := fun u wx hwx hu => D8.out u wx hu (rd_win (RO.out wx hwx) 1 rfl)
  obtain ⟨n, hn⟩ : ∃ n, n = q.L.length := ⟨_, rfl⟩
  obtain ⟨xs, hxs⟩ : ∃ n, n = q.L.flatMap wrC := ⟨_, rfl⟩
  obtain ⟨nx, hnx⟩ : ∃ n, n = q.next := ⟨_, rfl⟩
  rw [← hn] at Q0 CN CA CS
  rw [← hxs] at CA CS
  rw [← hnx] at Q1 CX
  clear RO D5 D6 D7 D8 hn hxs hnx
  go_wp2_with (fail)
  refine wp_lax_list (by kernel_rfl) (by kernel_rfl) (by kernel_rfl) ?_
  refine wpL_run1 (x := .tmp 7) (ptr b7) (.agg cl.toArray) (by kernel_rfl) (by kernel_rfl) (by kernel_rfl) (by kernel_rfl) (by kernel_rfl) (fun wx ρ hwx h0 hc => load_wr cl CLL.out rfl ρ (L7.out wx hwx) h0) ?_
  refine wpL_run1 (x := .tmp 9) (ptr b9) (.agg cl.toArray) (by kernel_rfl) (by kernel_rfl) (by kernel_rfl) (by kernel_rfl) (by kernel_rfl) (fun wx ρ hwx h0 hc => load_wr cl CLL.out rfl ρ (L9.out wx hwx) h0) ?_
  refine wpL_run2 (x := .tmp 37) (y := .tmp 38) (.agg cl.toArray) (.agg cl.toArray) (.bool true) (by kernel_rfl) (by kernel_rfl) (by kernel_rfl) (by kernel_rfl) (by kernel_rfl) (by kernel_rfl) (fun wx ρ hwx h0 h1 hc => eql_wr rfl _ HCL.out CLS.out ρ wx h0 h1) ?_
  refine wpL_move (.bool true) rfl (by kernel_rfl) (by kernel_rfl) (by kernel_rfl) (by kernel_rfl) ?_
  refine wpL_move (.bool lb) rfl (by kernel_rfl) (by kernel_rfl) (by kernel_rfl) (by kernel_rfl) ?_
  refine wpL_move (.bool lb) rfl (by kernel_rfl) (by kernel_rfl) (by kernel_rfl) (by kernel_rfl) ?_
  refine wpL_run2 (x := .tmp 41) (y := .tmp 42) (.bool lb) (.bool lb) (.bool true) (by kernel_rfl) (by kernel_rfl) (by kernel_rfl) (by kernel_rfl) (by kernel_rfl) (by kernel_rfl) (fun wx ρ hwx h0 h1 hc => by simp [go_sem, h0, h1]) ?_
  refine wpL_run2 (x := .tmp 40) (y := .tmp 43) (.bool true) (.bool true) (.bool true) (by kernel_rfl) (by kernel_rfl) (by kernel_rfl) (by kernel_rfl) (by kernel_rfl) (by kernel_rfl) (fun wx ρ hwx h0 h1 hc => by simp [go_sem, h0, h1, hc]) ?_
  refine wpL_move (.bool true) rfl (by kernel_rfl) (by kernel_rfl) (by kernel_rfl) (by kernel_rfl) ?_
  refine wpL_run1 (x := .tmp 11) (ptr b11) (.agg cf.toArray) (by kernel_rfl) (by kernel_rfl) (by kernel_rfl) (by kernel_rfl) (by kernel_rfl) (fun wx ρ hwx h0 hc => load_wr cf CFL.out rfl ρ (L11.out wx hwx) h0) ?_
  refine wpL_run1 (x := .tmp 13) (ptr b13) (.agg cf.toArray) (by kernel_rfl) (by kernel_rfl) (by kernel_rfl) (by kernel_rfl) (by kernel_rfl) (fun wx ρ hwx h0 hc => load_wr cf CFL.out rfl ρ (L13.out wx hwx) h0) ?_
  refine wpL_run2 (x := .tmp 46) (y := .tmp 47) (.agg cf.toArray) (.agg cf.toArray) (.bool true) (by kernel_rfl) (by kernel_rfl) (by kernel_rfl) (by kernel_rfl) (by kernel_rfl) (by kernel_rfl) (fun wx ρ hwx h0 h1 hc => eql_wr rfl _ HCF.out CFS.out ρ wx h0 h1) ?_
  refine wpL_run2 (x := .tmp 45) (y := .tmp 48) (.bool true) (.bool true) (.bool true) (by kernel_rfl) (by kernel_rfl) (by kernel_rfl) (by kernel_rfl) (by kernel_rfl) (by kernel_rfl) (fun wx ρ hwx h0 h1 hc => by simp [go_sem, h0, h1, hc]) ?_
  refine wpL_move (.bool true) rfl (by kernel_rfl) (by kernel_rfl) (by kernel_rfl) (by kernel_rfl) ?_
  refine wpL_move (.bool fb) rfl (by kernel_rfl) (by kernel_rfl) (by kernel_rfl) (by kernel_rfl) ?_
  refine wpL_move (.bool fb) rfl (by kernel_rfl) (by kernel_rfl) (by kernel_rfl) (by kernel_rfl) ?_
  refine wpL_run2 (x := .tmp 51) (y := .tmp 52) (.bool fb) (.bool fb) (.bool true) (by kernel_rfl) (by kernel_rfl) (by kernel_rfl) (by kernel_rfl) (by kernel_rfl) (by kernel_rfl) (fun wx ρ hwx h0 h1 hc => by simp [go_sem, h0, h1]) ?_
  refine wpL_run2 (x := .tmp 50) (y := .tmp 53) (.bool true) (.bool true) (.bool true) (by kernel_rfl) (by kernel_rfl) (by kernel_rfl) (by kernel_rfl) (by kernel_rfl) (by kernel_rfl) (fun wx ρ hwx h0 h1 hc => by simp [go_sem, h0, h1, hc]) ?_
  refine wpL_move (.bool true) rfl (by kernel_rfl) (by kernel_rfl) (by kernel_rfl) (by kernel_rfl) ?_
  refine wpL_move (ptr p) rfl (by kernel_rfl) (by kernel_rfl) (by kernel_rfl) (by kernel_rfl) ?_
  refine wpL_fn (.int .i64 (n : Int)) [ptr p] rfl (by kernel_rfl) (by kernel_rfl) (by kernel_rfl) (by kernel_rfl) (fun _ _ => by simp [go_sem]) (fun wx hwx => CN.out wx hwx) ?_
  refine wpL_move (ptr k) rfl (by kernel_rfl) (by kernel_rfl) (by kernel_rfl) (by kernel_rfl) ?_
  refine wpL_run1 (x := .tmp 58) (ptr k) (ptr k) (by kernel_rfl) (by kernel_rfl) (by kernel_rfl) (by kernel_rfl) (by kernel_rfl) (fun wx ρ hwx h0 hc => by simp [go_sem, h0]) ?_
  refine wpL_run1 (x := .tmp 59) (ptr k) (ptr k) (by kernel_rfl) (by kernel_rfl) (by kernel_rfl) (by kernel_rfl) (by kernel_rfl) (fun wx ρ hwx h0 hc => by simp [go_sem, h0]) ?_
  refine wpL_run1 (x := .tmp 60) (ptr k) (.slice aq n cq) (by kernel_rfl) (by kernel_rfl) (by kernel_rfl) (by kernel_rfl) (by kernel_rfl) (fun wx ρ hwx h0 hc => by simp [h0, go_sem, Q0.out wx hwx]) ?_
  refine wpL_run1 (x := .tmp 61) (.slice aq n cq) (.int .i64 (n : Int)) (by kernel_rfl) (by kernel_rfl) (by kernel_rfl) (by kernel_rfl) (by kernel_rfl) (fun wx ρ hwx h0 hc => by simp [go_sem, h0]) ?_
  refine wpL_run2 (x := .tmp 57) (y := .tmp 62) (.int .i64 (n : Int)) (.int .i64 (n : Int)) (.bool true) (by kernel_rfl) (by kernel_rfl) (by kernel_rfl) (by kernel_rfl) (by kernel_rfl) (by kernel_rfl) (fun wx ρ hwx h0 h1 hc => by simp [go_sem, h0, h1]) ?_
  refine wpL_run2 (x := .tmp 55) (y := .tmp 63) (.bool true) (.bool true) (.bool true) (by kernel_rfl) (by kernel_rfl) (by kernel_rfl) (by kernel_rfl) (by kernel_rfl) (by kernel_rfl) (fun wx ρ hwx h0 h1 hc => by simp [go_sem, h0, h1, hc]) ?_
  refine wpL_move (.bool true) rfl (by kernel_rfl) (by kernel_rfl) (by kernel_rfl) (by kernel_rfl) ?_
  refine wpL_move (ptr p) rfl (by kernel_rfl) (by kernel_rfl) (by kernel_rfl) (by kernel_rfl) ?_
  refine wpL_fn (.int .u64 (nx : Int)) [ptr p] rfl (by kernel_rfl) (by kernel_rfl) (by kernel_rfl) (by kernel_rfl) (fun _ _ => by simp [go_sem]) (fun wx hwx => CX.out wx hwx) ?_
  refine wpL_move (ptr k) rfl (by kernel_rfl) (by kernel_rfl) (by kernel_rfl) (by kernel_rfl) ?_
  refine wpL_run1 (x := .tmp 68) (ptr k) (ptr k) (by kernel_rfl) (by kernel_rfl) (by kernel_rfl) (by kernel_rfl) (by kernel_rfl) (fun wx ρ hwx h0 hc => by simp [go_sem, h0]) ?_
  refine wpL_run1 (x := .tmp 69) (ptr k) (.pointer (some ⟨k, 1, none⟩)) (by kernel_rfl) (by kernel_rfl) (by kernel_rfl) (by kernel_rfl) (by kernel_rfl) (fun wx ρ hwx h0 hc => by simp [go_sem, h0]) ?_
  refine wpL_run1 (x := .tmp 70) (.pointer (some ⟨k, 1, none⟩)) (.int .u64 (nx : Int)) (by kernel_rfl) (by kernel_rfl) (by kernel_rfl) (by kernel_rfl) (by kernel_rfl) (fun wx ρ hwx h0 hc => by simp [h0, go_sem, Q1.out wx hwx]) ?_
  refine wpL_run2 (x := .tmp 67) (y := .tmp 71) (.int .u64 (nx : Int)) (.int .u64 (nx : Int)) (.bool true) (by kernel_rfl) (by kernel_rfl) (by kernel_rfl) (by kernel_rfl) (by kernel_rfl) (by kernel_rfl) (fun wx ρ hwx h0 h1 hc => by simp [go_sem, h0, h1]) ?_
  refine wpL_run2 (x := .tmp 65) (y := .tmp 72) (.bool true) (.bool true) (.bool true) (by kernel_rfl) (by kernel_rfl) (by kernel_rfl) (by kernel_rfl) (by kernel_rfl) (by kernel_rfl) (fun wx ρ hwx h0 h1 hc => by simp [go_sem, h0, h1, hc]) ?_
  refine wpL_move (.bool true) rfl (by kernel_rfl) (by kernel_rfl) (by kernel_rfl) (by kernel_rfl) ?_
  refine wpL_move (ptr p) rfl (by kernel_rfl) (by kernel_rfl) (by kernel_rfl) (by kernel_rfl) ?_
  refine wpL_fnT (tyWin n xs) [ptr p] rfl rfl (by kernel_rfl) (by kernel_rfl) (by kernel_rfl) (by kernel_rfl) (fun _ _ => by simp [go_sem]) (fun wx hwx => CA.out wx hwx) ?_
  refine wpL_move (ptr k) rfl (by kernel_rfl) (by kernel_rfl) (by kernel_rfl) (by kernel_rfl) ?_
  refine wpL_run1 (x := .tmp 77) (ptr k) (ptr k) (by kernel_rfl) (by kernel_rfl) (by kernel_rfl) (by kernel_rfl) (by kernel_rfl) (fun wx ρ hwx h0 hc => by simp [go_sem, h0]) ?_
  refine wpL_run1 (x := .tmp 78) (ptr k) (ptr k) (by kernel_rfl) (by kernel_rfl) (by kernel_rfl) (by kernel_rfl) (by kernel_rfl) (fun wx ρ hwx h0 hc => by simp [go_sem, h0]) ?_
  refine wpL_run1 (x := .tmp 79) (ptr k) (.slice aq n cq) (by kernel_rfl) (by kernel_rfl) (by kernel_rfl) (by kernel_rfl) (by kernel_rfl) (fun wx ρ hwx h0 hc => by simp [h0, go_sem, Q0.out wx hwx]) ?_
  refine wpL_fnUkV (.slice aq n cq) (.bool true) rfl (by kernel_rfl) (by kernel_rfl) (by kernel_rfl) (by kernel_rfl) (by kernel_rfl) (fun _ _ => by simp [go_sem]) (fun u wx hwx hu => CS.out u wx hwx hu) ?_
  refine wpL_run2 (x := .tmp 74) (y := .tmp 81) (.bool true) (.bool true) (.bool true) (by kernel_rfl) (by kernel_rfl) (by kernel_rfl) (by kernel_rfl) (by kernel_rfl) (by kernel_rfl) (fun wx ρ hwx h0 h1 hc => by simp [go_sem, h0, h1, hc]) ?_
  refine wpL_assign (.bool true) rfl (by kernel_rfl) (by kernel_rfl) (by kernel_rfl) (by kernel_rfl) ?_
  refine wpL_end (by kernel_rfl) (fun w9 hw9 => ?_)
  simp only [FinL, setL, List.set_cons_zero, List.set_cons_succ]
  intro u1 _
  have H9 := Lib.hid (H8.out.later hw9)
  clear hw9 L7 L9 L11 L13 Q0 Q1 CN CX CA CS H8
  go_wp2
  go_ret
  refine ⟨rfl, ?_⟩
  have h := ((H9.out.front 5 rfl).front 2 rfl)
  simp only [List.eraseIdx_cons_succ, List.eraseIdx_cons_zero] at h
  have h2 := h.swap2
  exact (h2.perm (Qs := [AVals b13 38 cf, AVals b11 38 cf, AVals b9 38 cl, AVals b7 38 cl] ++ (K.A p q :: ARefQ k (.slice aq q.L.length cq) q :: Ps)) (by
    have := List.perm_append_comm (l₁ := [K.A p q, ARefQ k (.slice aq q.L.length cq) q]) (l₂ := [AVals b13 38 cf, AVals b11 38 cf, AVals b9 38 cl, AVals b7 38 cl])
    exact this.append_right Ps)).drop 4
end
end Que
end Go.Proofs.Ytepbdjgfaljbgaa

end
section
namespace Go.Proofs.Ytepbdjgfaljbgaa
open Go.RowKit Go.Own
namespace Que
open Go.QueM Byt
def w5 : Wr := ⟨5, 0, false, RecM.zsum, 0⟩
def w7 : Wr := ⟨7, 0, false, RecM.zsum, 0⟩
theorem w5_fits : Fits w5 := ⟨by decide, by decide, by simp [w5, RecM.zsum], by decide⟩
theorem w7_fits : Fits w7 := ⟨by decide, by decide, by simp [w7, RecM.zsum], by decide⟩
theorem built_5 : Try.prog.built 38 [(0, .int .u32 5)] = some (wrC w5).toArray := by kernel_rfl
theorem built_7 : Try.prog.built 38 [(0, .int .u32 7)] = some (wrC w7).toArray := by kernel_rfl
def q1 : Q := push newQ w5
def q2 : Q := push q1 w7
def q3 : Q := push q2 w5
def q4 : Q := pop q3
def q5 : Q := pop q4
def q6 : Q := pop q5
section
variable {W w0 w : World} {B : Nat} {Ps : List Asn} {p k : Nat} {v : Value} {q q' : Q} {N : Nat}
theorem push_lit (K : Kept W) (hW : Below W.heap.size W w0) (hB : W.heap.size ≤ B) (H : Own.St B w0 w (K.A p q :: Ps)) (ok : Ok q N) (hN : N ≤ 10000) {r : Wr} (f : Fits r) {n m : Nat} {cs : List Value} (hn : pushN q r = n) (he : pushE q r = m) (hq : push q r = q') (hcs : cs = wrC r) :
    Calls Try.prog 16 #[ptr p, .agg cs.toArray] w fun e w' => e = .returned (.tuple #[.int .u64 (n : Int), errQ m]) ∧ Own.St B w0 w' (K.A p q' :: Ps) := by
  subst hn he hq hcs
  exact K.push r (hW.trans (H.below.mono hB)) H ok hN f
theorem last_lit (K : Kept W) (hW : Below W.heap.size W w0) (hB : W.heap.size ≤ B) (H : Own.St B w0 w (K.A p q :: Ps)) (ok : Ok q N) (hN : N ≤ 10000) (a : Nat) (ha : a < 4294967296) {cs : List Value} {b : Bool} (hb : isLast q a = b) (hcs : cs = wrC (lastW q a)) :
    Calls Try.prog 21 #[ptr p, .int .u32 (a : Int)] w fun e w' => e = .returned (.tuple #[.agg cs.toArray, .bool b]) ∧ Own.St B w0 w' (K.A p q :: Ps) := by
  subst hb hcs
  exact (K.last a (hW.trans (H.below.mono hB)) H ok hN ha).mono fun e w' ⟨h1, h2⟩ => ⟨h1, H.later h2⟩
theorem pop_lit (K : Kept W) (hW : Below W.heap.size W w0) (hB : W.heap.size ≤ B) (H : Own.St B w0 w (K.A p q :: Ps)) (ok : Ok q N) (hN : N ≤ 10000) {cs : List Value} {b : Bool} (hb : isW q = b) (hq : pop q = q') (hcs : cs = wrC (frontW q)) :
    Calls Try.prog 14 #[ptr p] w fun e w' => e = .returned (.tuple #[.agg cs.toArray, .bool b]) ∧ Own.St B w0 w' (K.A p q' :: Ps) := by
  subst hb hcs hq
  exact K.pop (hW.trans (H.below.mono hB)) H ok hN
set_option maxRecDepth 10000 in
set_option maxHeartbeats 8000000 in
theorem shown_any (K : Kept W) (hW : Below W.heap.size W w) : Calls Try.prog 11 #[] w (RetYes w) := by
  have hB := hW.size
  have O0 := Lib.hid ok_new
  have O1 : Hid (Ok q1 1) := ok_push O0.out w5_fits
  have O2 : Hid (Ok q2 2) := ok_push O1.out w7_fits
  have O3 : Hid (Ok q3 3) := ok_push O2.out w5_fits
  have O4 : Hid (Ok q4 3) := ok_pop O3.out
  have O5 : Hid (Ok q5 3) := ok_pop O4.out
  have O6 : Hid (Ok q6 3) := ok_pop O5.out
  obtain ⟨c5, h5⟩ : ∃ c, c = wrC w5 := ⟨_, rfl⟩
  obtain ⟨c7, h7⟩ : ∃ c, c = wrC w7 := ⟨_, rfl⟩
  obtain ⟨l3, hl3⟩ : ∃ c, c = wrC (lastW q3 5) := ⟨_, rfl⟩
  obtain ⟨f3, hf3⟩ : ∃ c, c = wrC (frontW q3) := ⟨_, rfl⟩
  obtain ⟨l4, hl4⟩ : ∃ c, c = wrC (lastW q4 5) := ⟨_, rfl⟩
  obtain ⟨l6, hl6⟩ : ∃ c, c = wrC (lastW q6 5) := ⟨_, rfl⟩
  have B5 : Hid (Try.prog.built 38 [(0, .int .u32 5)] = some c5.toArray) := by rw [h5]; exact built_5
  have B7 : Hid (Try.prog.built 38 [(0, .int .u32 7)] = some c7.toArray) := by rw [h7]; exact built_7
  have LL3 : Hid (l3.length = 36) := by show _ = 36; rw [hl3]; exact wrC_len _ (last_fits O3.out 5).sum
  have LF3 : Hid (f3.length = 36) := by show _ = 36; rw [hf3]; exact wrC_len _ (front_fits O3.out).sum
  have LL4 : Hid (l4.length = 36) := by show _ = 36; rw [hl4]; exact wrC_len _ (last_fits O4.out 5).sum
  have LL6 : Hid (l6.length = 36) := by show _ = 36; rw [hl6]; exact wrC_len _ (last_fits O6.out 5).sum
  have OL3 : Hid (∀ u ∈ l3, u.oneCell' = true) := by rw [hl3]; exact wrC_one _
  have OF3 : Hid (∀ u ∈ f3, u.oneCell' = true) := by rw [hf3]; exact wrC_one _
  have OL4 : Hid (∀ u ∈ l4, u.oneCell' = true) := by rw [hl4]; exact wrC_one _
  have OL6 : Hid (∀ u ∈ l6, u.oneCell' = true) := by rw [hl6]; exact wrC_one _
  have HL3 := Lib.hid hl3
  have HF3 := Lib.hid hf3
  have HL4 := Lib.hid hl4
  have HL6 := Lib.hid hl6
  have H5 := Lib.hid h5
  have H7 := Lib.hid h7
  have ST := Lib.hid (Own.St.start w)
  have HW := Lib.hid hW
  have HB0 := Lib.hid hB
  clear hW hB h5 h7 hl3 hf3 hl4 hl6
  go_enter Try.func11, Try.ntmps11
  go_wp2_with (fail)
  refine (K.new HW.out ST.out).mono ?_
  rintro e w1 ⟨p, rfl, h⟩
  have HA := Lib.hid h
  clear h
  go_wp2_with (refine Own.wpList_built rfl 38 #[(0, .const (.int .u32 5))] rfl c5.toArray ?_ ?_; · (simp only [List.map_toArray, List.map_cons, List.map_nil, List.toList_toArray]; exact B5.out))
  refine (push_lit K HW.out HB0.out HA.out O0.out (by omega) w5_fits (n := 1) (m := 0) (q' := q1) (by kernel_rfl) (by kernel_rfl) rfl H5.out).mono ?_
  clear ST
  rintro e wq ⟨rfl, h⟩
  clear HA
  have HB := Lib.hid h
  clear h
  have ST := trivial
  go_wp2_with (refine Own.wpList_built rfl 38 #[(0, .const (.int .u32 7))] rfl c7.toArray ?_ ?_; · (simp only [List.map_toArray, List.map_cons, List.map_nil, List.toList_toArray]; exact B7.out))
  refine (push_lit K HW.out HB0.out HB.out O1.out (by omega) w7_fits (n := 2) (m := 0) (q' := q2) (by kernel_rfl) (by kernel_rfl) rfl H7.out).mono ?_
  clear ST
  rintro e wq ⟨rfl, h⟩
  clear HB
  have HC := Lib.hid h
  clear h
  have ST := trivial
  go_wp2_with (refine Own.wpList_built rfl 38 #[(0, .const (.int .u32 5))] rfl c5.toArray ?_ ?_; · (simp only [List.map_toArray, List.map_cons, List.map_nil, List.toList_toArray]; exact B5.out))
  refine (push_lit K HW.out HB0.out HC.out O2.out (by omega) w5_fits (n := 3) (m := 0) (q' := q3) (by kernel_rfl) (by kernel_rfl) rfl H5.out).mono ?_
  clear ST
  rintro e wq ⟨rfl, h⟩
  clear HC
  have HD := Lib.hid h
  clear h
  have ST := trivial
  clear ST
  go_wp2_with (fail)
  refine (last_lit K HW.out HB0.out HD.out O3.out (by omega) 5 (by decide) (b := true) (by kernel_rfl) HL3.out).mono ?_
  rintro e w5 ⟨rfl, h⟩
  clear HD
  have HE := Lib.hid h
  clear h
  go_wp2_with (refine wpList_box2 boxy_wr rfl rfl rfl (.tmp 8) (.tmp 40) rfl rfl l3 (fun _ => rfl) (fun _ => rfl) LL3.out OL3.out HE.out ?_; intro b8 w6 h; have HF := Lib.hid h; clear h)
  refine (pop_lit K HW.out HB0.out (HF.out.front 1 rfl) O3.out (by omega) (b := true) (q' := q4) (by kernel_rfl) rfl HF3.out).mono ?_
  rintro e w7 ⟨rfl, h⟩
  clear HE HF
  have HG := Lib.hid h
  clear h
  go_wp2_with (refine wpList_box2 boxy_wr rfl rfl rfl (.tmp 10) (.tmp 45) rfl rfl f3 (fun _ => rfl) (fun _ => rfl) LF3.out OF3.out HG.out ?_; intro b10 w8 h; have HH := Lib.hid h; clear h)
  refine (last_lit K HW.out HB0.out (HH.out.front 1 rfl) O4.out (by omega) 5 (by decide) (b := true) (by kernel_rfl) HL4.out).mono ?_
  rintro e w9 ⟨rfl, h⟩
  clear HG HH
  have HI := Lib.hid h
  clear h
  go_wp2_with (refine wpList_box2 boxy_wr rfl rfl rfl (.tmp 12) (.tmp 50) rfl rfl l4 (fun _ => rfl) (fun _ => rfl) LL4.out OL4.out HI.out ?_; intro b12 w10 h; have HJ := Lib.hid h; clear h)
  refine (pop_lit K HW.out HB0.out (HJ.out.front 1 rfl) O4.out (by omega) (b := true) (q' := q5) (by kernel_rfl) rfl rfl).mono ?_
  rintro e w11 ⟨rfl, h⟩
  clear HI HJ
  have HK := Lib.hid h
  clear h
  go_wp2_with (fail)
  refine (pop_lit K HW.out HB0.out HK.out O5.out (by omega) (b := true) (q' := q6) (by kernel_rfl) rfl rfl).mono ?_
  rintro e w12 ⟨rfl, h⟩
  clear HK
  have HL := Lib.hid h
  clear h
  go_wp2_with (fail)
  refine (last_lit K HW.out HB0.out HL.out O6.out (by omega) 5 (by decide) (b := false) (by kernel_rfl) HL6.out).mono ?_
  rintro e w13 ⟨rfl, h⟩
  clear HL
  have HM := Lib.hid h
  clear h
  go_wp2_with (refine wpList_box2 boxy_wr rfl rfl rfl (.tmp 14) (.tmp 59) rfl rfl l6 (fun _ => rfl) (fun _ => rfl) LL6.out OL6.out HM.out ?_; intro b14 w14 h; have HN := Lib.hid h; have c12 := (h.cellV 2 rfl 1 (v := .int .u64 3) (by rw [HL4.out]; rfl)).1; have c10 := (h.cellV 3 rfl 1 (v := .int .u64 1) (by rw [HF3.out]; rfl)).1; have c8 := (h.cellV 4 rfl 1 (v := .int .u64 3) (by rw [HL3.out]; rfl)).1; clear h)
  go_ret
  exact ⟨rfl, HN.out.below⟩
end
end Que
end Go.Proofs.Ytepbdjgfaljbgaa

end
section
namespace Go.Proofs.Ytepbdjgfaljbgaa
open Go.RowKit Go.Own
namespace Que
open Go.QueM Byt
section
variable {W w : World} {Ps : List Asn} {p k : Nat} {v : Value} {q q' : Q} {N : Nat}
set_option maxRecDepth 10000 in
set_option maxHeartbeats 8000000 in
theorem walk_nil (r : Wr) (f : Fits r) (K : Kept W) : Calls Try.prog 7 #[wrV r] W (RetYes W) := by
  obtain ⟨cs, hcs⟩ : ∃ c, c = wrC r := ⟨_, rfl⟩
  show Calls Try.prog _ #[.agg (wrC r).toArray] W _
  rw [← hcs]
  obtain ⟨z, hz⟩ : ∃ c, c = wrC zeroW := ⟨_, rfl⟩
  have ZL : Hid (z.length = 36) := by show _ = 36; rw [hz]; exact zW_len
  have ZO : Hid (∀ u ∈ z, u.oneCell' = true) := by rw [hz]; exact wrC_one _
  have CL : Hid (cs.length = 36) := by show _ = 36; rw [hcs]; exact wrC_len _ f.sum
  have N1 : Hid (∀ w, Calls Try.prog 16 #[.pointer none, .agg cs.toArray] w fun e w' => e = .returned (.tuple #[.int .u64 0, errQ 2]) ∧ Below w.heap.size w w') := by rw [hcs]; exact K.nilPush r f
  have N2 : Hid (∀ w, Calls Try.prog 21 #[.pointer none, .int .u32 (r.addr : Int)] w fun e w' => e = .returned (.tuple #[.agg z.toArray, .bool false]) ∧ Below w.heap.size w w') := by rw [hz]; exact K.nilLast r.addr f.addr
  have N3 : Hid (∀ w, Calls Try.prog 26 #[.pointer none] w fun e w' => e = .returned (.tuple #[.agg z.toArray, .bool false]) ∧ Below w.heap.size w w') := by rw [hz]; exact K.nilFront
  have N4 : Hid (∀ w, Calls Try.prog 14 #[.pointer none] w fun e w' => e = .returned (.tuple #[.agg z.toArray, .bool false]) ∧ Below w.heap.size w w') := by rw [hz]; exact K.nilPop
  have N5 := Lib.hid K.nilLen
  have N6 := Lib.hid K.nilNext
  have N7 := Lib.hid K.nilAll
  have hbox := (Own.St.start W).boxV 38 cs
  obtain ⟨b, hb⟩ : ∃ b, b = W.heap.size := ⟨_, rfl⟩
  obtain ⟨w1, hw1⟩ : ∃ w1, w1 = W.alloc (.cells cs.toArray 38) := ⟨_, rfl⟩
  obtain ⟨ad, had⟩ : ∃ x, x = r.addr := ⟨_, rfl⟩
  rw [← had] at N2
  rw [← hw1] at hbox
  have hbox' : Own.St W.heap.size W w1 [AVals b 38 cs] := by rw [hb]; exact hbox
  have SH := Lib.hid (shown_any K hbox'.below)
  have HC : Hid (cs[0]? = some (.int .u32 (ad : Int))) := by show _ = _; rw [hcs, had]; rfl
  have HX := Lib.hid hbox'
  have HW1 := Lib.hid hw1
  have HB := Lib.hid hb
  clear hcs hz had hb hw1 hbox hbox' f
  go_enter Try.func7, Try.ntmps7
  go_wp2_with (fail)
  rw [← HB.out, ← HW1.out]
  refine SH.out.mono ?_
  clear SH
  rintro e w2 ⟨rfl, h⟩
  have H2 := Lib.hid (HX.out.later h)
  have d0 := (H2.out.cellV 0 rfl 0 HC.out).1
  clear h HX
  go_wp2_with (refine wpList_val rfl (load_wr cs CL.out rfl _ (b := b) (k := 0) (H2.out.boxRange 0 rfl) rfl) ?_)
  refine (N1.out _).mono ?_
  clear N1 d0
  rintro e w3 ⟨rfl, h⟩
  have H3 := Lib.hid (H2.out.later h)
  have d0 := (H3.out.cellV 0 rfl 0 HC.out).1
  clear h H2
  go_wp2_with (fail)
  refine (N2.out _).mono ?_
  clear N2 d0
  rintro e w4 ⟨rfl, h⟩
  have H4 := Lib.hid (H3.out.later h)
  clear h H3
  go_wp2_with (refine wpList_box2 boxy_wr rfl rfl rfl (.tmp 7) (.tmp 25) rfl rfl z (fun _ => rfl) (fun _ => rfl) ZL.out ZO.out H4.out ?_; intro b7 w5 h; have H5 := Lib.hid h; clear h)
  refine (N3.out _).mono ?_
  clear N3 H4
  rintro e w6 ⟨rfl, h⟩
  have H6 := Lib.hid (H5.out.later h)
  clear h H5
  go_wp2_with (refine wpList_box2 boxy_wr rfl rfl rfl (.tmp 9) (.tmp 30) rfl rfl z (fun _ => rfl) (fun _ => rfl) ZL.out ZO.out H6.out ?_; intro b9 w7 h; have H7 := Lib.hid h; clear h)
  refine (N4.out _).mono ?_
  clear N4 H6
  rintro e w8 ⟨rfl, h⟩
  have H8 := Lib.hid (H7.out.later h)
  clear h H7
  go_wp2_with (refine wpList_box2 boxy_wr rfl rfl rfl (.tmp 11) (.tmp 35) rfl rfl z (fun _ => rfl) (fun _ => rfl) ZL.out ZO.out H8.out ?_; intro b11 w9 h; have H9 := Lib.hid h; clear h)
  refine (N5.out _).mono ?_
  clear N5 H8
  rintro e w10 ⟨rfl, h⟩
  have HA := Lib.hid (H9.out.later h)
  clear h H9
  go_wp2_with (fail)
  refine (N6.out _).mono ?_
  clear N6
  rintro e w11 ⟨rfl, h⟩
  have HBB := Lib.hid (HA.out.later h)
  clear h HA
  go_wp2_with (fail)
  refine (N7.out _).mono ?_
  clear N7
  rintro e w12 ⟨a7, c7, rfl, h⟩
  have HC2 := Lib.hid (HBB.out.later h)
  clear h HBB
  go_wp2_with (fail)
  go_ret
  exact ⟨rfl, HC2.out.below⟩
/-- a round's act -/
theorem act_case (a : ActD) : a.out = true ∨ a.out = false := by cases a.out <;> simp
set_option maxRecDepth 10000 in
set_option maxHeartbeats 16000000 in
theorem walk_plays (a0 : Option Addr) (len0 cap0 : Nat) (l : List ActD) {w : World} (w0 : inSlice 37 inAct l w.heap.size w [.slice a0 len0 cap0]) (K : Kept w) :
    Calls Try.prog 3 #[.slice a0 len0 cap0] w (RetYes w) := by
  obtain ⟨hlen, hcap, hmax, _, hat⟩ := acts_inF (fun a h => act_len h) w0
  have SH := Lib.hid (shown_any K (Below.refl _ _))
  have HF := Lib.hid (few_any a0 len0 cap0 hcap hmax)
  have HAT := Lib.hid hat
  have HLEN := Lib.hid hlen
  have hmax2 : cap0 ≤ 9223372036854775807 := by unfold maxLen at hmax; omega
  clear hat hlen w0 hmax
  go_enter Try.func3, Try.ntmps3
  go_wp2_with (fail)
  refine SH.out.mono ?_
  rintro e w1 ⟨rfl, h1⟩
  have H1 := Lib.hid ((Own.St.start w).later h1)
  clear h1 SH
  go_wp2_with (fail)
  refine (K.new H1.out.below H1.out).mono ?_
  rintro e w2 ⟨p, rfl, h2⟩
  have h3 := h2.boxV 30 [.slice none 0 0, .int .u64 1]
  obtain ⟨kq, hkq⟩ : ∃ b, b = w2.heap.size := ⟨_, rfl⟩
  obtain ⟨w3, hw3⟩ : ∃ W, W = w2.alloc (.cells #[.slice none 0 0, .int .u64 1] 30) := ⟨_, rfl⟩
  have h3' : Own.St w.heap.size w w3 (AVals kq 30 [.slice none 0 0, .int .u64 1] :: [K.A p newQ]) := by rw [hkq, hw3]; exact h3
  have h4 := h3'.new (S' := fun _ => False) (w' := w3) (AWin 36 (.slice none 0 0) 0 []) (.inl ⟨rfl, rfl, rfl, fun _ h => h⟩) (Step.refl _ _)
  have h5 : Own.St w.heap.size w w3 [K.A p newQ, ARefQ kq (.slice none 0 0) newQ] := (ref_close (q := newQ) h4.swap2).swap2
  have H3 := Lib.hid h5
  have HKQ := Lib.hid hkq
  have HW3 := Lib.hid hw3
  clear h2 h3 h3' h4 h5 hkq hw3 H1
  go_wp2_with (fail)
  rw [← HKQ.out, ← HW3.out]
  refine (HF.out w3).mono ?_
  rintro e w4 ⟨rfl, rfl⟩
  obtain ⟨k, hk⟩ : ∃ k, k = min len0 300 := ⟨_, rfl⟩
  rw [← hk]
  have hk1 : k ≤ len0 := by omega
  have hk2 : k ≤ 300 := by omega
  clear hk HKQ HW3
  go_wp2
  go_loopw [25] (fun v25 wr => ∃ (i : Nat) (q : Q) (v : Value), i ≤ k ∧ v25 = .int .i64 (i : Int) ∧ Own.St w.heap.size w wr [K.A p q, ARefQ kq v q] ∧ Ok q i) (fun v25 _ => k - (intOf v25).toNat)
  case atStart => exact ⟨0, newQ, _, Nat.zero_le _, rfl, H3.out, ok_new⟩
  case round =>
    obtain ⟨i, q, v, hik, rfl, hH, hok⟩ := hrel
    have H := Lib.hid hH
    have OK := Lib.hid hok
    clear hH hok H3
    by_cases hi : (i : Int) < (k : Int)
    · have hi300 : i ≤ 300 := by omega
      have hil : i < l.length := by rw [← HLEN.out]; omega
      obtain ⟨b, o, rfl, hb, hact⟩ := HAT.out (by intro e; rw [e] at hil; simp at hil)
      obtain ⟨a, ha⟩ : ∃ a, a = l[i] := ⟨_, rfl⟩
      obtain ⟨hrng, hfit⟩ := hact wr (fun k hk => H.out.below.block k hk) i hil
      rw [← ha] at hrng hfit
      have HFIT := Lib.hid hfit
      obtain ⟨vs, hvs⟩ : ∃ vs, vs = actVs a := ⟨_, rfl⟩
      rw [← hvs] at hrng
      have HRNG := Lib.hid hrng
      have VL : Hid (vs.length = 37) := by show _ = 37; rw [hvs]; exact act_len hfit
      have VO : Hid (∀ u ∈ vs, u.oneCell' = true) := by rw [hvs]; exact act_one a
      have IA : Hid ((Try.prog.info? 40).map (·.size) = some vs.length) := by show _ = _; rw [VL.out]; exact boxy_act.size
      obtain ⟨ad, had⟩ : ∃ x, x = a.w.addr := ⟨_, rfl⟩
      have hadl : ad < 4294967296 := by rw [had]; exact hfit.addr
      obtain ⟨cw, hcw⟩ : ∃ c, c = wrC a.w := ⟨_, rfl⟩
      have CWL : Hid (cw.length = 36) := by show _ = 36; rw [hcw]; exact wrC_len _ hfit.sum
      have CWR : Hid (∀ (wx : World) (b7 : Nat), wx.rangeAt b7 0 vs → wx.rangeAt b7 1 cw) := by
        intro wx b7 h j u hu
        have := h (j + 1) u (by rw [hvs]; rw [hcw] at hu; exact hu)
        rw [Nat.zero_add, Nat.add_comm] at this
        exact this
      have V1 : Hid (vs[1]? = some (.int .u32 (ad : Int))) := by show _ = _; rw [hvs, had]; rfl
      have HCW := Lib.hid hcw
      rcases act_case a with hout | hout
      all_goals
        have V0 : Hid (vs[0]? = some (.bool a.out)) := by show _ = _; rw [hvs]; rfl
        rw [hout] at V0
        have hdo : doAct q a = if a.out then pop q else push q a.w := rfl
        rw [hout] at hdo
        have HDO := Lib.hid hdo
        have OK2 := Lib.hid (ok_act OK.out a hfit)
        clear hact hrng hfit ha hvs hil had hcw hout hdo
      · skip
        go_wp2_with (first
          | (refine wpList_load_mid rfl 40 (.tmp 27) rfl b (o + i * 37) rfl vs _ HRNG.out Try.underlying40 rfl IA.out ?_)
          | (refine wpList_box2 boxy_act rfl rfl rfl (.tmp 7) (.tmp 28) rfl rfl vs (fun _ => rfl) (fun _ => rfl) VL.out VO.out H.out ?_; intro b7 w5 h; have H5 := Lib.hid h; have d0 := (h.cellV 0 rfl 0 V0.out).1; have d1 := (h.cellV 0 rfl 1 V1.out).1; clear h)
          | (refine wpList_val rfl (load_wr cw CWL.out rfl _ (b := b7) (k := 1) (CWR.out _ _ (H5.out.boxRange 0 rfl)) rfl) ?_))
        clear H HRNG
        obtain ⟨F, hF⟩ : ∃ F, F = wrC (frontW q) := ⟨_, rfl⟩
        obtain ⟨is, his⟩ : ∃ b, b = isW q := ⟨_, rfl⟩
        have HFS : Hid ((frontW q).sum.length = 32) := (front_fits OK.out).sum
        have FL : Hid (F.length = 36) := by show _ = 36; rw [hF]; exact wrC_len _ HFS.out
        have FO : Hid (∀ u ∈ F, u.oneCell' = true) := by rw [hF]; exact wrC_one _
        have P2 : Hid (∀ wx Qs, Own.St w.heap.size w wx (ARefQ kq v q :: Qs) → Calls Try.prog 15 #[ptr kq] wx fun e w' => e = .returned (.tuple #[.agg F.toArray, .bool is]) ∧ ∃ v', Own.St w.heap.size w w' (ARefQ kq v' (pop q) :: Qs)) := by
          rw [hF, his]
          exact fun wx Qs h => popR_any h OK.out (by omega)
        have P1 := Lib.hid (pop_lit K (Below.refl _ _) (Nat.le_refl _) (H5.out.front 1 rfl) OK.out (by omega) (b := is) (q' := pop q) his.symm rfl hF)
        have HFF := Lib.hid hF
        clear hF his d0
        refine P1.out.mono ?_
        clear P1 d1 H5
        rintro e w6 ⟨rfl, h⟩
        have H6 := Lib.hid h
        clear h
        go_wp2_with (refine wpList_box2 boxy_wr rfl rfl rfl (.tmp 8) (.tmp 34) rfl rfl F (fun _ => rfl) (fun _ => rfl) FL.out FO.out H6.out ?_; intro b8 w7 h; have H7 := Lib.hid h; clear h)
        refine (P2.out _ _ (H7.out.front 3 rfl)).mono ?_
        clear P2 H6 H7
        rintro e w8 ⟨rfl, v2, h⟩
        have H8 := Lib.hid h
        clear h
        go_wp2_with (first
          | (refine wpList_box2 boxy_wr rfl rfl rfl (.tmp 10) (.tmp 39) rfl rfl F (fun _ => rfl) (fun _ => rfl) FL.out FO.out H8.out ?_; intro b10 w9 h; have H9 := Lib.hid h; have d1 := (h.cellV 4 rfl 1 V1.out).1; clear h)
          | (refine wpList_val rfl (load_wr F FL.out rfl _ (b := b8) (k := 0) (H9.out.boxRange 2 rfl) rfl) ?_)
          | (refine wpList_val rfl (load_wr F FL.out rfl _ (b := b10) (k := 0) (H9.out.boxRange 0 rfl) rfl) ?_)
          | (refine wpList_val rfl (neq_wr rfl (frontW q) HFF.out HFS.out _ _ rfl rfl) ?_))
        have AL := Lib.hid (alike_any K ((H9.out.front 1 rfl).front 3 rfl) (by have h := OK2.out; rw [HDO.out] at h; exact h) (by omega) ad hadl)
        clear H8
        refine AL.out.mono ?_
        clear AL H9 d1
        rintro e wA ⟨rfl, h⟩
        have HA := Lib.hid (Own.St.firsts (As := [K.A p (pop q), ARefQ kq v2 (pop q)]) h)
        clear h
        go_wp2_with (fail)
        go_roundw
        case rel => exact ⟨i + 1, pop q, v2, by omega, by go_num, HA.out, by have h := OK2.out; rw [HDO.out] at h; exact h⟩
        case measure => simp [intOf]; omega
      · skip
        go_wp2_with (first
          | (refine wpList_load_mid rfl 40 (.tmp 27) rfl b (o + i * 37) rfl vs _ HRNG.out Try.underlying40 rfl IA.out ?_)
          | (refine wpList_box2 boxy_act rfl rfl rfl (.tmp 7) (.tmp 28) rfl rfl vs (fun _ => rfl) (fun _ => rfl) VL.out VO.out H.out ?_; intro b7 w5 h; have H5 := Lib.hid h; have d0 := (h.cellV 0 rfl 0 V0.out).1; have d1 := (h.cellV 0 rfl 1 V1.out).1; clear h)
          | (refine wpList_val rfl (load_wr cw CWL.out rfl _ (b := b7) (k := 1) (CWR.out _ _ (H5.out.boxRange 0 rfl)) rfl) ?_))
        clear H HRNG
        obtain ⟨n, hn⟩ : ∃ F, F = pushN q a.w := ⟨_, rfl⟩
        obtain ⟨er, her⟩ : ∃ b, b = pushE q a.w := ⟨_, rfl⟩
        have P2 : Hid (∀ wx Qs, Own.St w.heap.size w wx (ARefQ kq v q :: Qs) → Calls Try.prog 17 #[ptr kq, .agg cw.toArray] wx fun e w' => e = .returned (.tuple #[.int .u64 (n : Int), errQ er]) ∧ ∃ v', Own.St w.heap.size w w' (ARefQ kq v' (push q a.w) :: Qs)) := by
          rw [hn, her, HCW.out]
          exact fun wx Qs h => pushR_any h OK.out (by omega) a.w HFIT.out
        have P1 := Lib.hid (push_lit K (Below.refl _ _) (Nat.le_refl _) (H5.out.front 1 rfl) OK.out (by omega) HFIT.out (n := n) (m := er) (q' := push q a.w) hn.symm her.symm rfl HCW.out)
        clear hn her d0
        refine P1.out.mono ?_
        clear P1 d1 H5
        rintro e w6 ⟨rfl, h⟩
        have H6 := Lib.hid h
        clear h
        go_wp2_with (refine wpList_val rfl (load_wr cw CWL.out rfl _ (b := b7) (k := 1) (CWR.out _ _ (H6.out.boxRange 1 rfl)) rfl) ?_)
        refine (P2.out _ _ (H6.out.front 2 rfl)).mono ?_
        clear P2 H6
        rintro e w8 ⟨rfl, v2, h⟩
        have H8 := Lib.hid h
        have d1 := (h.cellV 2 rfl 1 V1.out).1
        clear h
        go_wp2_with (fail)
        have AL := Lib.hid (alike_any K (H8.out.front 1 rfl) (by have h := OK2.out; rw [HDO.out] at h; exact h) (by omega) ad hadl)
        clear H8
        refine AL.out.mono ?_
        clear AL d1
        rintro e wA ⟨rfl, h⟩
        have HA := Lib.hid (Own.St.firsts (As := [K.A p (push q a.w), ARefQ kq v2 (push q a.w)]) h)
        clear h
        go_wp2_with (fail)
        go_roundw
        case rel => exact ⟨i + 1, push q a.w, v2, by omega, by go_num, HA.out, by have h := OK2.out; rw [HDO.out] at h; exact h⟩
        case measure => simp [intOf]; omega
    · go_wp2
      go_ret
      exact ⟨rfl, H.out.below⟩
end
end Que
end Go.Proofs.Ytepbdjgfaljbgaa

end
section
namespace Go.Proofs.Ytepbdjgfaljbgaa
open Go.RowKit Go.Own
namespace Que
open Go.QueM Byt
theorem rise_at (next : Nat) (L : List Wr) {i : Nat} (hi : i < L.length) (last : Nat) : riseB next last (L.drop i) = (rightW (at_ L i) && decide (last < (at_ L i).seq) && decide ((at_ L i).seq < next) && riseB next (at_ L i).seq (L.drop (i + 1))) := by
  have e : L[i] = at_ L i := by
    have := at_get hi
    rw [List.getElem?_eq_getElem hi] at this
    exact Option.some.inj this
  rw [List.drop_eq_getElem_cons hi, riseB, e]
/-- the cells of some writes that came in -/
theorem flat_cells {w : World} {b o m : Nat} {l : List Wr} (hf : ∀ r ∈ l, Fits r) (hm : l.length = m) (h : ∀ k (hk : k < l.length), w.rangeAt b (o + k * 36) (wrC l[k])) : ∀ j u, (l.flatMap wrC)[j]? = some u → w.cell? ⟨b, o + j, none⟩ = some u := by
  intro j u hu
  have hl := flat_length wrC 36 l (wrs_len l hf)
  have hj := (List.getElem?_eq_some_iff.1 hu).1
  rw [hl] at hj
  have hk : j / 36 < l.length := Nat.div_lt_of_lt_mul (by rw [Nat.mul_comm]; exact hj)
  have e : j / 36 * 36 + j % 36 = j := by rw [Nat.mul_comm]; exact Nat.div_add_mod j 36
  have hr := h (j / 36) hk (j % 36) u (by
    rw [← flat_at wrC 36 l (wrs_len l hf) (j / 36) l[j / 36] (List.getElem?_eq_getElem hk) (j % 36) (Nat.mod_lt _ (by decide)), e]
    exact hu)
  rw [Nat.add_assoc, e] at hr
  exact hr
theorem cutK_wr {ao : Option Addr} {m cap : Nat} (k : Nat) (hk : k ≤ m) (hm : m ≤ cap) (hc : cap ≤ 9223372036854775807) {op : Oper} {x y : Operand} (ho : op.op = .slice 28 x none (some y) none) (ρ : Operand → Value) (w : World) (h0 : ρ x = .slice ao m cap) (h1 : ρ y = .int .i64 (k : Int)) (hno : ao = none → cap = 0) : (execOp ρ op).run Try.prog w = .ok (.value (.slice ao k cap)) w := by
  have e1 : (0 : Int) ≤ (k : Int) := by omega
  have e2 : (k : Int) ≤ (cap : Int) := by omega
  have hu := Try.underlying28
  cases ao with
  | none =>
    have := hno rfl
    subst this
    obtain rfl : k = 0 := by omega
    obtain rfl : m = 0 := by omega
    simp [execOp, ho, h0, h1, go_sem, hu]
  | some a => simp [execOp, ho, h0, h1, go_sem, e1, e2, hu]
theorem row_win {B : Nat} {w0 w : World} {Ps : List Asn} {e : TypeId} {size n : Nat} {v : Value} {xs : List Value} (H : Own.St B w0 w (ARow e size v n xs :: Ps)) : Own.St B w0 w (AWin size v n xs :: Ps) := by
  obtain ⟨S, hS, _, put⟩ := H.at 0 rfl
  exact put S w (AWin size v n xs) (Row.win hS) (Step.refl S w)
section
variable {B : Nat} {w0 w : World} {Ps : List Asn} {p : Nat} {v : Value} {q : Q} {N : Nat}
set_option maxRecDepth 10000 in
set_option maxHeartbeats 8000000 in
theorem loadR_any (L : List Wr) (next : Nat) (ao : Option Addr) (n c : Nat) (H : Own.St B w0 w (RowW (.slice ao n c) L n :: Ps)) (hl : L.length = n) (hn : n ≤ 10000) (hf : ∀ r ∈ L, Fits r) (hx : next < 18446744073709551616) :
    Calls Try.prog 20 #[.slice ao n c, .int .u64 (next : Int)] w fun e w' => if loadB L next = true then ∃ p v, e = .returned (.tuple #[ptr p, errQ 0]) ∧ Own.St B w0 w' (ARefQ p v ⟨L, next⟩ :: RowW (.slice ao n c) L n :: Ps) else e = .returned (.tuple #[.pointer none, errQ 1]) ∧ Own.St B w0 w' (RowW (.slice ao n c) L n :: Ps) := by
  obtain ⟨X, hX⟩ : ∃ X, X = loadB L next := ⟨_, rfl⟩
  rw [← hX]
  unfold loadB at hX
  have hrl := (H.rowLen 0 rfl).2.2
  have HRL := Lib.hid hrl
  have H0 := Lib.hid H
  have HL := Lib.hid hl
  have HF := Lib.hid hf
  have HX := Lib.hid hX
  clear hX H hl hf hrl
  go_enter Try.func20, Try.ntmps20
  go_wp2
  go_loopw [6, 7] (fun v6 v7 wr => ∃ last i : Nat, last < 18446744073709551616 ∧ i ≤ n ∧ v6 = .int .u64 (last : Int) ∧ v7 = .int .i64 (i : Int) ∧ Own.St B w0 wr (RowW (.slice ao n c) L n :: Ps) ∧ riseB next 0 L = riseB next last (L.drop i)) (fun _ v7 _ => n - (intOf v7).toNat)
  case atStart => exact ⟨0, 0, by decide, Nat.zero_le _, rfl, rfl, H0.out, rfl⟩
  case round =>
    obtain ⟨last, i, hla, hin, rfl, rfl, hst, hr⟩ := hrel
    have H := Lib.hid hst
    have HR := Lib.hid hr
    clear hst hr H0
    by_cases hi : (i : Int) < (n : Int)
    · have hin2 : i < n := by omega
      have hil : i < L.length := by rw [HL.out]; exact hin2
      obtain ⟨g, hg, _, _⟩ := H.out.rowAt 0 rfl (i * 36) (by omega)
      subst hg
      obtain ⟨F, hF⟩ : ∃ F, F = at_ L i := ⟨_, rfl⟩
      have hFf : Fits F := by rw [hF]; exact HF.out _ (at_mem hil)
      obtain ⟨cs, hcs⟩ : ∃ cs, cs = wrC F := ⟨_, rfl⟩
      have CL : Hid (cs.length = 36) := by show _ = 36; rw [hcs]; exact wrC_len _ hFf.sum
      have RG : Hid (∀ wx, Below wr.heap.size wr wx → wx.rangeAt g (i * 36) cs) := by
        intro wx hwx k u hu
        have hk : k < 36 := by rw [← CL.out]; exact (List.getElem?_eq_some_iff.1 hu).1
        obtain ⟨g', hg', ⟨u', h1, h2⟩, _⟩ := (H.out.later hwx).rowAt 0 rfl (i * 36 + k) (by omega)
        cases hg'
        rw [flat_at wrC 36 L (wrs_len L HF.out) i _ (at_get hil) k hk, ← hF, ← hcs, hu] at h1
        cases h1
        exact h2
      have hra := rise_at next L hil last
      rw [← hF] at hra
      have HRA := Lib.hid hra
      obtain ⟨sq, hsq⟩ : ∃ s, s = F.seq := ⟨_, rfl⟩
      have hsqb : sq < 18446744073709551616 := by rw [hsq]; exact hFf.seq
      have SQ : Hid (∀ wx : World, wx.rangeAt g (i * 36) cs → wx.cell? ⟨g, i * 36 + 1, none⟩ = some (.int .u64 (sq : Int))) := fun wx h => h 1 _ (by rw [hcs, hsq]; rfl)
      obtain ⟨rt, hrt⟩ : ∃ b, b = rightW F := ⟨_, rfl⟩
      have CR : Hid (∀ wx, Calls Try.prog 43 #[.agg cs.toArray] wx fun e w' => e = .returned (.bool rt) ∧ Below wx.heap.size wx w') := by
        rw [hcs, hrt]
        exact rightR_any F hFf.sum
      rw [← hsq, ← hrt] at HRA
      have R0 := Lib.hid (RG.out wr (Below.refl _ _))
      clear hF hFf hcs hra hsq hrt hil
      by_cases hbad : rt = false ∨ sq ≤ last ∨ next ≤ sq
      · have hXf : X = false := by
          rw [HX.out, HR.out, HRA.out]
          rcases hbad with h | h | h
          · rw [h]; simp
          · rw [decide_eq_false (show ¬ last < sq by omega)]; simp
          · rw [decide_eq_false (show ¬ sq < next by omega)]; simp
        subst hXf
        cases rt
        · clear hbad
          go_wp2_with (refine wpList_val rfl (load_wr cs CL.out rfl _ (b := g) (k := i * 36) R0.out rfl) ?_)
          refine (CR.out _).mono ?_
          rintro e w2 ⟨rfl, h⟩
          have H2 := Lib.hid (H.out.later h)
          clear h
          go_wp2_with (fail)
          go_ret2
          exact ⟨rfl, H2.out⟩
        · by_cases hle : (sq : Int) ≤ (last : Int)
          · clear hbad
            go_wp2_with (refine wpList_val rfl (load_wr cs CL.out rfl _ (b := g) (k := i * 36) R0.out rfl) ?_)
            refine (CR.out _).mono ?_
            rintro e w2 ⟨rfl, h⟩
            have H2 := Lib.hid (H.out.later h)
            have d := SQ.out _ (RG.out _ h)
            clear h
            go_wp2_with (fail)
            go_ret2
            exact ⟨rfl, H2.out⟩
          · have hge : (sq : Int) ≥ (next : Int) := by
              rcases hbad with h | h | h
              · cases h
              · omega
              · omega
            clear hbad
            go_wp2_with (refine wpList_val rfl (load_wr cs CL.out rfl _ (b := g) (k := i * 36) R0.out rfl) ?_)
            refine (CR.out _).mono ?_
            rintro e w2 ⟨rfl, h⟩
            have H2 := Lib.hid (H.out.later h)
            have d := SQ.out _ (RG.out _ h)
            clear h
            go_wp2_with (fail)
            go_ret2
            exact ⟨rfl, H2.out⟩
      · obtain ⟨hrt, h1, h2⟩ : rt = true ∧ last < sq ∧ sq < next := ⟨by cases rt <;> simp at hbad ⊢, by omega, by omega⟩
        subst hrt
        have hle : ¬ (sq : Int) ≤ (last : Int) := by omega
        have hge : ¬ (sq : Int) ≥ (next : Int) := by omega
        have HRN : Hid (riseB next 0 L = riseB next sq (L.drop (i + 1))) := by
          show _ = _
          rw [HR.out, HRA.out, decide_eq_true h1, decide_eq_true h2]
          simp
        clear hbad HR HRA
        go_wp2_with (refine wpList_val rfl (load_wr cs CL.out rfl _ (b := g) (k := i * 36) R0.out rfl) ?_)
        refine (CR.out _).mono ?_
        rintro e w2 ⟨rfl, h⟩
        have H2 := Lib.hid (H.out.later h)
        have d := SQ.out _ (RG.out _ h)
        clear h
        go_wp2_with (fail)
        go_roundw
        case rel => exact ⟨sq, i + 1, hsqb, by omega, by go_num, by go_num, H2.out, HRN.out⟩
        case measure => simp [intOf]; omega
    · have hi2 : i = n := by omega
      subst hi2
      have HRR : Hid (riseB next 0 L = true) := by
        show _ = _
        rw [HR.out, ← HL.out, List.drop_length]
        rfl
      by_cases hnx : next = 0
      · subst hnx
        have hXf : X = false := by rw [HX.out]; simp
        subst hXf
        go_wp2_with (fail)
        go_ret2
        exact ⟨rfl, H.out⟩
      · have hXt : X = true := by rw [HX.out, HRR.out]; simp [hnx]
        subst hXt
        have hnz : ((next : Int) == 0) = false := by simp; omega
        have hE := H.out.emptyRow 38 36
        have HEM := Lib.hid hE
        have hcl := (H.out.rowLen 0 rfl).1
        have HC : Hid (∀ a, ao = some a → ∀ j u, (L.flatMap wrC)[j]? = some u → (wr.alloc (.cells #[] 38)).cell? (a.add j) = some u) := by
          intro a ha j u hu
          have hj := (List.getElem?_eq_some_iff.1 hu).1
          obtain ⟨g, hg, ⟨u', h1, h2⟩, _⟩ := hE.rowAt 1 rfl j (by rw [hcl] at hj; exact hj)
          rw [ha] at hg
          cases hg
          rw [hu] at h1
          cases h1
          rw [add_of, Nat.zero_add]
          exact h2
        have HCL := Lib.hid hcl
        have HOO : Hid (∀ u ∈ L.flatMap wrC, u.oneCell' = true) := by
          intro u hu
          obtain ⟨r, _, h⟩ := List.mem_flatMap.1 hu
          exact wrC_one r u h
        clear hE hcl hnx
        go_wp2_with (first
          | (at_builtin; refine wpList_many_append many_wr rfl (.tmp 45) (.tmp 46) rfl HEM.out 0 rfl rfl ao i c (L.flatMap wrC) rfl HRL.out.2 HCL.out HC.out HOO.out (by omega) (by decide) ?_; intro a2 c2 w2 h2; simp only [List.set_cons_zero, Nat.zero_add, List.nil_append] at h2 ⊢; have H2 := Lib.hid h2; clear h2))
        go_ret2
        refine ⟨w2.heap.size, rfl, .slice a2 i c2, ?_⟩
        have h := (row_win H2.out).boxV 30 [.slice a2 i c2, .int .u64 (next : Int)]
        have e : WRow (.slice a2 i c2) L = AWin 36 (.slice a2 i c2) i (L.flatMap wrC) := by show AWin _ _ _ _ = _; rw [HL.out]
        exact ref_close (q := ⟨L, next⟩) (by rw [e]; exact h)
end
end Que
end Go.Proofs.Ytepbdjgfaljbgaa

end
section
namespace Go.Proofs.Ytepbdjgfaljbgaa
open Go.RowKit Go.Own
namespace Que
open Go.QueM Byt
section
variable {W w : World} {Ps : List Asn} {p k : Nat} {v : Value} {q q' : Q} {N : Nat}
set_option maxRecDepth 10000 in
set_option maxHeartbeats 16000000 in
theorem walk_loads (a1 : Option Addr) (len1 cap1 : Nat) (L0 : List Wr) (next : Nat) (hx : next < 18446744073709551616) (a0 : Option Addr) (len0 cap0 : Nat) (l : List ActD) {w : World} (w1 : inSlice 36 inWr L0 w.heap.size w [.slice a1 len1 cap1]) (w0 : inSlice 37 inAct l w.heap.size w [.slice a0 len0 cap0]) (K : Kept w) :
    Calls Try.prog 4 #[.slice a1 len1 cap1, .int .u64 (next : Int), .slice a0 len0 cap0] w (RetYes w) := by
  obtain ⟨hlen, hcap, hmax, _, hat⟩ := acts_inF (fun a h => act_len h) w0
  obtain ⟨hlen1, hcap1, hmax1, hnil1, hat1⟩ := acts_inF (fun a h => wrC_len a (Fits.sum h)) w1
  obtain ⟨m, hm⟩ : ∃ m, m = min len1 300 := ⟨_, rfl⟩
  have hmin : min (len1 : Int) 300 = (m : Int) := by omega
  have hm1 : m ≤ len1 := by omega
  have hm3 : m ≤ 300 := by omega
  obtain ⟨L, hL⟩ : ∃ L, L = L0.take m := ⟨_, rfl⟩
  have hLl : L.length = m := by rw [hL, List.length_take]; omega
  have hLf : ∀ r ∈ L, Fits r := by
    intro r hr
    rw [hL] at hr
    obtain ⟨i, hi, he⟩ := List.getElem_of_mem (List.mem_of_mem_take hr)
    obtain ⟨b, o, _, _, h⟩ := hat1 (by intro e; rw [e] at hi; simp at hi)
    have := (h w (fun _ _ => rfl) i hi).2
    rw [he] at this
    exact this
  have NEWS : Hid (∀ wx, Below w.heap.size w wx → ∀ a, a1 = some a → ∀ j u, (L.flatMap wrC)[j]? = some u → wx.cell? (a.add j) = some u) := by
    intro wx hwx a ha j u hu
    by_cases hne : L0 = []
    · rw [hL, hne] at hu; simp at hu
    · obtain ⟨b, o, e, _, h⟩ := hat1 hne
      rw [e] at ha
      cases ha
      rw [add_of]
      refine flat_cells hLf hLl (fun k hk => ?_) j u hu
      have hk0 : k < L0.length := by rw [hLl] at hk; omega
      have := (h wx (fun k hk => hwx.block k hk) k hk0).1
      have e2 : L[k] = L0[k] := by
        have : L[k]? = L0[k]? := by rw [hL, List.getElem?_take_of_lt (by rw [← hLl]; exact hk)]
        rw [List.getElem?_eq_getElem hk, List.getElem?_eq_getElem hk0] at this
        exact Option.some.inj this
      rw [e2]
      exact this
  have NIL1 : Hid (a1 = none → cap1 = 0) := hnil1
  have SH := Lib.hid (shown_any K (Below.refl _ _))
  have HF := Lib.hid (few_any a0 len0 cap0 hcap hmax)
  have HAT := Lib.hid hat
  have HLEN := Lib.hid hlen
  have hmax2 : cap0 ≤ 9223372036854775807 := by unfold maxLen at hmax; omega
  have hmax3 : cap1 ≤ 9223372036854775807 := by unfold maxLen at hmax1; omega
  have HLL := Lib.hid hLl
  have HLF := Lib.hid hLf
  have CLEN : Hid ((L.flatMap wrC).length = m * 36) := by show _ = _; rw [flat_length wrC 36 L (wrs_len L hLf), hLl]
  have CONE : Hid (∀ u ∈ L.flatMap wrC, u.oneCell' = true) := by
    intro u hu
    obtain ⟨r, _, h⟩ := List.mem_flatMap.1 hu
    exact wrC_one r u h
  have NIL2 : Hid (a1 = none → m = 0 ∧ cap1 = 0) := fun h => ⟨by have := hnil1 h; omega, hnil1 h⟩
  clear hat hlen w0 hmax hat1 hlen1 w1 hmax1 hnil1 hm hL hLl hLf
  go_enter Try.func4, Try.ntmps4
  go_wp2_with (fail)
  refine SH.out.mono ?_
  rintro e wa ⟨rfl, h1⟩
  have H1 := Lib.hid ((Own.St.start w).later h1)
  clear h1 SH
  have hE := H1.out.emptyRow 38 36
  have HEM := Lib.hid hE
  have HCC := Lib.hid (NEWS.out _ hE.below)
  clear hE
  go_wp2_with (first
    | (refine wpList_val rfl (cutK_wr m hm1 hcap1 hmax3 rfl _ _ rfl rfl NIL1.out) ?_)
    | (at_builtin; refine wpList_many_append many_wr rfl (.tmp 21) (.tmp 26) rfl HEM.out 0 rfl rfl a1 m cap1 (L.flatMap wrC) rfl NIL2.out CLEN.out HCC.out CONE.out (by omega) (by decide) ?_; intro ao co wb h2; simp only [List.set_cons_zero, Nat.zero_add, List.nil_append] at h2 ⊢; have H2 := Lib.hid h2; clear h2))
  have KL := Lib.hid (K.load L next ao m co H2.out.below H2.out HLL.out (by omega) HLF.out hx)
  have RL : Hid (∀ wx Qs, Own.St w.heap.size w wx (RowW (.slice ao m co) L m :: Qs) → Calls Try.prog 20 #[.slice ao m co, .int .u64 (next : Int)] wx fun e w' => if loadB L next = true then ∃ p v, e = .returned (.tuple #[ptr p, errQ 0]) ∧ Own.St w.heap.size w w' (ARefQ p v ⟨L, next⟩ :: RowW (.slice ao m co) L m :: Qs) else e = .returned (.tuple #[.pointer none, errQ 1]) ∧ Own.St w.heap.size w w' (RowW (.slice ao m co) L m :: Qs)) :=
    fun wx Qs h => loadR_any L next ao m co h HLL.out (by omega) HLF.out hx
  obtain ⟨X, hX⟩ : ∃ X, X = loadB L next := ⟨_, rfl⟩
  rw [← hX] at KL RL
  have HX := Lib.hid hX
  clear hX H1 HEM HCC
  cases X
  · simp only [Bool.false_eq_true, if_false] at KL RL
    refine KL.out.mono ?_
    clear KL
    rintro e w3 ⟨rfl, h⟩
    have H3 := Lib.hid h
    clear h H2
    go_wp2_with (fail)
    refine (RL.out _ _ H3.out).mono ?_
    clear RL
    rintro e w4 ⟨rfl, h⟩
    have H4 := Lib.hid h
    clear h H3
    go_wp2_with (fail)
    go_loopw [42] (fun v42 wr => ∃ (i : Nat) (xs : List Value), i ≤ m ∧ v42 = .int .i64 (i : Int) ∧ Own.St w.heap.size w wr [ARow 38 36 (.slice ao m co) m xs]) (fun v42 _ => m - (intOf v42).toNat)
    case atStart => exact ⟨0, _, Nat.zero_le _, rfl, H4.out⟩
    case round =>
      obtain ⟨i, xs, him, rfl, h⟩ := hrel
      have H := Lib.hid h
      clear h H4
      by_cases hi : (i : Int) < (m : Int)
      · obtain ⟨g, hg, ⟨u, hu, hc⟩, hfz, put⟩ := H.out.rowAt 0 rfl (i * 36) (by omega)
        subst hg
        have H5 := Lib.hid (put (.int .u32 77))
        clear put hu
        go_wp2_with (fail)
        go_roundw
        case rel => exact ⟨i + 1, _, by omega, by go_num, H5.out⟩
        case measure => simp [intOf]; omega
      · go_wp2_with (fail)
        go_ret
        exact ⟨rfl, H.out.below⟩
  · simp only [if_true] at KL RL
    refine KL.out.mono ?_
    clear KL
    rintro e w3 ⟨p, rfl, h⟩
    have H3 := Lib.hid h.swap2
    clear h H2
    go_wp2_with (fail)
    refine (RL.out _ _ H3.out).mono ?_
    clear RL
    rintro e w4 ⟨kq, vq, rfl, h⟩
    have H4 := Lib.hid h
    have OK0 : Hid (Ok ⟨L, next⟩ m) := by
      have := ok_load (l := L) (next := next) HX.out.symm hx HLF.out
      rw [HLL.out] at this
      exact this
    clear h H3
    go_wp2_with (fail)
    go_loopw [42] (fun v42 wr => ∃ (i : Nat) (xs : List Value), i ≤ m ∧ v42 = .int .i64 (i : Int) ∧ Own.St w.heap.size w wr (ARefQ kq vq ⟨L, next⟩ :: ARow 38 36 (.slice ao m co) m xs :: [K.A p ⟨L, next⟩])) (fun v42 _ => m - (intOf v42).toNat)
    case atStart => exact ⟨0, _, Nat.zero_le _, rfl, H4.out⟩
    case round =>
      obtain ⟨i, xs, him, rfl, h⟩ := hrel
      have H := Lib.hid h
      clear h H4
      by_cases hi : (i : Int) < (m : Int)
      · obtain ⟨g, hg, ⟨u, hu, hc⟩, hfz, put⟩ := H.out.rowAt 1 rfl (i * 36) (by omega)
        subst hg
        have H5 := Lib.hid (put (.int .u32 77))
        clear put hu
        go_wp2_with (fail)
        go_roundw
        case rel => exact ⟨i + 1, _, by omega, by go_num, H5.out⟩
        case measure => simp [intOf]; omega
      · have HA0 : Hid (Own.St w.heap.size w wr [K.A p ⟨L, next⟩, ARefQ kq vq ⟨L, next⟩]) := by
          have h := H.out.front 2 rfl
          exact Own.St.firsts (As := [K.A p ⟨L, next⟩, ARefQ kq vq ⟨L, next⟩]) h
        clear H
        go_wp2_with (fail)
        refine (HF.out wr).mono ?_
        rintro e w5 ⟨rfl, rfl⟩
        obtain ⟨k, hk⟩ : ∃ k, k = min len0 300 := ⟨_, rfl⟩
        rw [← hk]
        have hk1 : k ≤ len0 := by omega
        have hk2 : k ≤ 300 := by omega
        clear hk
        go_wp2_with (fail)
        go_loopw [72] (fun v72 wr => ∃ (i : Nat) (q : Q) (v : Value), i ≤ k ∧ v72 = .int .i64 (i : Int) ∧ Own.St w.heap.size w wr [K.A p q, ARefQ kq v q] ∧ Ok q (m + i)) (fun v72 _ => k - (intOf v72).toNat)
        case atStart => exact ⟨0, _, _, Nat.zero_le _, rfl, HA0.out, OK0.out⟩
        case round =>
          obtain ⟨i, q, v, hik, rfl, hH, hok⟩ := hrel
          have H := Lib.hid hH
          have OK := Lib.hid hok
          clear hH hok HA0
          by_cases hi : (i : Int) < (k : Int)
          · have hi300 : i ≤ 300 := by omega
            have hil : i < l.length := by rw [← HLEN.out]; omega
            obtain ⟨b, o, rfl, hb, hact⟩ := HAT.out (by intro e; rw [e] at hil; simp at hil)
            obtain ⟨a, ha⟩ : ∃ a, a = l[i] := ⟨_, rfl⟩
            obtain ⟨hrng, hfit⟩ := hact wr (fun k hk => H.out.below.block k hk) i hil
            rw [← ha] at hrng hfit
            have HFIT := Lib.hid hfit
            obtain ⟨vs, hvs⟩ : ∃ vs, vs = actVs a := ⟨_, rfl⟩
            rw [← hvs] at hrng
            have HRNG := Lib.hid hrng
            have VL : Hid (vs.length = 37) := by show _ = 37; rw [hvs]; exact act_len hfit
            have VO : Hid (∀ u ∈ vs, u.oneCell' = true) := by rw [hvs]; exact act_one a
            have IA : Hid ((Try.prog.info? 40).map (·.size) = some vs.length) := by show _ = _; rw [VL.out]; exact boxy_act.size
            obtain ⟨ad, had⟩ : ∃ x, x = a.w.addr := ⟨_, rfl⟩
            have hadl : ad < 4294967296 := by rw [had]; exact hfit.addr
            obtain ⟨cw, hcw⟩ : ∃ c, c = wrC a.w := ⟨_, rfl⟩
            have CWL : Hid (cw.length = 36) := by show _ = 36; rw [hcw]; exact wrC_len _ hfit.sum
            have CWR : Hid (∀ (wx : World) (b7 : Nat), wx.rangeAt b7 0 vs → wx.rangeAt b7 1 cw) := by
              intro wx b7 h j u hu
              have := h (j + 1) u (by rw [hvs]; rw [hcw] at hu; exact hu)
              rw [Nat.zero_add, Nat.add_comm] at this
              exact this
            have V1 : Hid (vs[1]? = some (.int .u32 (ad : Int))) := by show _ = _; rw [hvs, had]; rfl
            have HCW := Lib.hid hcw
            rcases act_case a with hout | hout
            all_goals
              have V0 : Hid (vs[0]? = some (.bool a.out)) := by show _ = _; rw [hvs]; rfl
              rw [hout] at V0
              have hdo : doAct q a = if a.out then pop q else push q a.w := rfl
              rw [hout] at hdo
              have HDO := Lib.hid hdo
              have OK2 := Lib.hid (ok_act OK.out a hfit)
              clear hact hrng hfit ha hvs hil had hcw hout hdo
            · skip
              go_wp2_with (first
                | (refine wpList_load_mid rfl 40 (.tmp 74) rfl b (o + i * 37) rfl vs _ HRNG.out Try.underlying40 rfl IA.out ?_)
                | (refine wpList_box2 boxy_act rfl rfl rfl (.tmp 15) (.tmp 75) rfl rfl vs (fun _ => rfl) (fun _ => rfl) VL.out VO.out H.out ?_; intro b7 w5 h; have H5 := Lib.hid h; have d0 := (h.cellV 0 rfl 0 V0.out).1; have d1 := (h.cellV 0 rfl 1 V1.out).1; clear h)
                | (refine wpList_val rfl (load_wr cw CWL.out rfl _ (b := b7) (k := 1) (CWR.out _ _ (H5.out.boxRange 0 rfl)) rfl) ?_))
              clear H HRNG
              have P2 : Hid (∀ wx Qs, Own.St w.heap.size w wx (ARefQ kq v q :: Qs) → Calls Try.prog 15 #[ptr kq] wx fun e w' => e = .returned (.tuple #[wrV (frontW q), .bool (isW q)]) ∧ ∃ v', Own.St w.heap.size w w' (ARefQ kq v' (pop q) :: Qs)) := fun wx Qs h => popR_any h OK.out (by omega)
              have P1 := Lib.hid (pop_lit K (Below.refl _ _) (Nat.le_refl _) (H5.out.front 1 rfl) OK.out (by omega) (b := isW q) (q' := pop q) rfl rfl rfl)
              clear d0
              refine P1.out.mono ?_
              clear P1 d1 H5
              rintro e w6 ⟨rfl, h⟩
              have H6 := Lib.hid h
              clear h
              go_wp2_with (fail)
              refine (P2.out _ _ (H6.out.front 2 rfl)).mono ?_
              clear P2 H6
              rintro e w8 ⟨rfl, v2, h⟩
              have H8 := Lib.hid h
              have d1 := (h.cellV 2 rfl 1 V1.out).1
              clear h
              go_wp2_with (fail)
              have AL := Lib.hid (alike_any K (H8.out.front 1 rfl) (by have h := OK2.out; rw [HDO.out] at h; exact h) (by omega) ad hadl)
              clear H8
              refine AL.out.mono ?_
              clear AL d1
              rintro e wA ⟨rfl, h⟩
              have HA := Lib.hid (Own.St.firsts (As := [K.A p (pop q), ARefQ kq v2 (pop q)]) h)
              clear h
              go_wp2_with (fail)
              go_roundw
              case rel => exact ⟨i + 1, pop q, v2, by omega, by go_num, HA.out, by have h := OK2.out; rw [HDO.out] at h; exact h⟩
              case measure => simp [intOf]; omega
            · skip
              go_wp2_with (first
                | (refine wpList_load_mid rfl 40 (.tmp 74) rfl b (o + i * 37) rfl vs _ HRNG.out Try.underlying40 rfl IA.out ?_)
                | (refine wpList_box2 boxy_act rfl rfl rfl (.tmp 15) (.tmp 75) rfl rfl vs (fun _ => rfl) (fun _ => rfl) VL.out VO.out H.out ?_; intro b7 w5 h; have H5 := Lib.hid h; have d0 := (h.cellV 0 rfl 0 V0.out).1; have d1 := (h.cellV 0 rfl 1 V1.out).1; clear h)
                | (refine wpList_val rfl (load_wr cw CWL.out rfl _ (b := b7) (k := 1) (CWR.out _ _ (H5.out.boxRange 0 rfl)) rfl) ?_))
              clear H HRNG
              obtain ⟨n, hn⟩ : ∃ F, F = pushN q a.w := ⟨_, rfl⟩
              obtain ⟨er, her⟩ : ∃ b, b = pushE q a.w := ⟨_, rfl⟩
              have P2 : Hid (∀ wx Qs, Own.St w.heap.size w wx (ARefQ kq v q :: Qs) → Calls Try.prog 17 #[ptr kq, .agg cw.toArray] wx fun e w' => e = .returned (.tuple #[.int .u64 (n : Int), errQ er]) ∧ ∃ v', Own.St w.heap.size w w' (ARefQ kq v' (push q a.w) :: Qs)) := by
                rw [hn, her, HCW.out]
                exact fun wx Qs h => pushR_any h OK.out (by omega) a.w HFIT.out
              have P1 := Lib.hid (push_lit K (Below.refl _ _) (Nat.le_refl _) (H5.out.front 1 rfl) OK.out (by omega) HFIT.out (n := n) (m := er) (q' := push q a.w) hn.symm her.symm rfl HCW.out)
              clear hn her d0
              refine P1.out.mono ?_
              clear P1 d1 H5
              rintro e w6 ⟨rfl, h⟩
              have H6 := Lib.hid h
              clear h
              go_wp2_with (refine wpList_val rfl (load_wr cw CWL.out rfl _ (b := b7) (k := 1) (CWR.out _ _ (H6.out.boxRange 1 rfl)) rfl) ?_)
              refine (P2.out _ _ (H6.out.front 2 rfl)).mono ?_
              clear P2 H6
              rintro e w8 ⟨rfl, v2, h⟩
              have H8 := Lib.hid h
              have d1 := (h.cellV 2 rfl 1 V1.out).1
              clear h
              go_wp2_with (fail)
              have AL := Lib.hid (alike_any K (H8.out.front 1 rfl) (by have h := OK2.out; rw [HDO.out] at h; exact h) (by omega) ad hadl)
              clear H8
              refine AL.out.mono ?_
              clear AL d1
              rintro e wA ⟨rfl, h⟩
              have HA := Lib.hid (Own.St.firsts (As := [K.A p (push q a.w), ARefQ kq v2 (push q a.w)]) h)
              clear h
              go_wp2_with (fail)
              go_roundw
              case rel => exact ⟨i + 1, push q a.w, v2, by omega, by go_num, HA.out, by have h := OK2.out; rw [HDO.out] at h; exact h⟩
              case measure => simp [intOf]; omega
          · have AL := Lib.hid (alike_any K H.out OK.out (by omega) 0 (by decide))
            go_wp2_with (fail)
            refine AL.out.mono ?_
            clear AL
            rintro e wz ⟨rfl, h⟩
            have HZ := Lib.hid h
            clear h
            go_wp2_with (fail)
            go_ret
            exact ⟨rfl, HZ.out.below⟩
end
end Que
end Go.Proofs.Ytepbdjgfaljbgaa

end
