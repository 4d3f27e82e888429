/- Merged: QuaD QuaE QuaF QuaX -/
import Derived.Test.YtepbdjgfaljbgaaU3
import Derived.Test.YtepbdjgfaljbgaaU4
set_option linter.unusedVariables false
section
namespace Go.Proofs.Ytepbdjgfaljbgaa
open Go.RowKit Go.Own
namespace Qua
open Go.QueM Byt Que
theorem fldQ {o : Oper} {X : Operand} {k : Nat} (ho : o.op = .fieldAddr 95 X k) (hk : k < 3) {p : Nat} (ρ : Operand → Value) (w : World) (h0 : ρ X = ptr p) : (execOp ρ o).run Try.prog w = .ok (.value (.pointer (some ⟨p, k, none⟩))) w := by
  match k, hk with
  | 0, _ => simp [execOp, ho, h0, go_sem, add_of]
  | 1, _ => simp [execOp, ho, h0, go_sem, add_of]
  | 2, _ => simp [execOp, ho, h0, go_sem, add_of]
theorem fldW {o : Oper} {X : Operand} (ho : o.op = .fieldAddr 38 X 0) {p : Nat} (ρ : Operand → Value) (w : World) (h0 : ρ X = ptr p) : (execOp ρ o).run Try.prog w = .ok (.value (ptr p)) w := by
  simp [execOp, ho, h0, go_sem, add_of]
theorem nilC {o : Oper} {X : Operand} (ho : o.op = .nilCheck X) {p : Nat} (ρ : Operand → Value) (w : World) (h0 : ρ X = ptr p) : (execOp ρ o).run Try.prog w = .ok (.value (ptr p)) w := by
  simp [execOp, ho, h0, go_sem]
theorem update_E {P : Program} {o : Oper} {x y z : Tmp} {t : TypeId} (ho : o.op = .mapUpdate t (.tmp x) (.tmp y) (.tmp z)) {ρ : Operand → Value} {w w' : World} {m k v : Value} (h0 : ρ (.tmp x) = m) (h1 : ρ (.tmp y) = k) (h2 : ρ (.tmp z) = v) (hrun : (Instr.mapUpdate t m k v).run P w = .ok () w') : (execOp ρ o).run P w = .ok .skip w' := by
  simp [execOp, ho, h0, h1, h2, hrun, Result.andThen]
theorem eqlMapInQ {P : Program} (w : World) (d : Nat) (t k e : TypeId) (m : Option Nat) (h : P.underlying t = some (.map k e)) : (Op.equalIn (d + 1) t (.map m) (.map none)).run P w = .ok m.isNone w := by
  cases m <;> simp [Op.equalIn, run_underlying h]
theorem eqlMapQ {P : Program} (w : World) (t k e : TypeId) (m : Option Nat) (h : P.underlying t = some (.map k e)) : (binOp .eql t (.map m) (.map none)).run P w = .ok (.bool m.isNone) w := by
  have h2 : (Op.equal t (.map m) (.map none)).run P w = .ok m.isNone w := eqlMapInQ w 9999 t k e m h
  simp [binOp, h2]
theorem ofA_other (L : List Wr) (r : Wr) : ∀ c, c ≠ r.addr → ofA (L ++ [r]) c = ofA L c := by
  intro c hc
  rw [ofA_snoc, if_neg (fun e => hc e.symm)]
section
variable {B : Nat} {w0 w : World} {Ps : List Asn} {p : Nat} {q : Q}
set_option maxRecDepth 10000 in
set_option maxHeartbeats 12800000 in
theorem put_any (H : Own.St B w0 w (A p q :: Ps)) (hf : ∀ r ∈ q.L, Fits r) (hn : q.L.length ≤ 20000) (r : Wr) (f : Fits r) :
    Calls Try.prog 42 #[ptr p, wrV r] w fun e w' => e = .returned (.tuple #[]) ∧ Own.St B w0 w' (A p ⟨q.L ++ [r], r.seq + 1⟩ :: Ps) := by
  obtain ⟨cs, hcs⟩ : ∃ x, x = wrC r := ⟨_, rfl⟩
  have CL : Hid (cs.length = 36) := by show _ = _; rw [hcs]; exact wrC_len r f.sum
  have CO : Hid (∀ u ∈ cs, u.oneCell' = true) := by show ∀ u ∈ cs, _; rw [hcs]; exact wrC_one r
  show Calls Try.prog _ #[_, .agg (wrC r).toArray] w _
  rw [← hcs]
  obtain ⟨vw, m, h⟩ := A_open H
  obtain ⟨ao, cap, rfl, _⟩ := h.winForm 1 rfl
  obtain ⟨g, hg⟩ : ∃ g, g = q.next - 1 := ⟨_, rfl⟩
  rw [← hg] at h
  obtain ⟨n, hnn⟩ : ∃ n, n = q.L.length := ⟨_, rfl⟩
  obtain ⟨L, hL⟩ : ∃ L, L = q.L := ⟨_, rfl⟩
  obtain ⟨a, ha⟩ : ∃ a, a = r.addr := ⟨_, rfl⟩
  obtain ⟨sq, hsq⟩ : ∃ a, a = r.seq := ⟨_, rfl⟩
  rw [← hL] at h hf hn hnn ⊢
  have hB := h.boxV 38 cs
  obtain ⟨b, hb⟩ : ∃ b, b = w.heap.size := ⟨_, rfl⟩
  obtain ⟨W1, hW1⟩ : ∃ W, W = w.alloc (.cells cs.toArray 38) := ⟨_, rfl⟩
  rw [← hW1, ← hb] at hB
  have E1 := hW1.symm
  have EB := hb.symm
  have HA0 : Hid (cs[0]? = some (.int .u32 (a : Int))) := by show _ = _; rw [hcs, ha]; rfl
  have HA1 : Hid (cs[1]? = some (.int .u64 (sq : Int))) := by show _ = _; rw [hcs, hsq]; rfl
  have HCS := Lib.hid hcs
  have HSQ := Lib.hid hsq
  have ha32 : a < 4294967296 := by rw [ha]; exact f.addr
  have HAA := Lib.hid ha
  have HF := Lib.hid hf
  have HN := Lib.hid hnn
  have hnl : n ≤ 20000 := by rw [hnn]; exact hn
  have BS : Hid (∀ wx, (Instr.buildSlice 28 1 #[(0, .agg cs.toArray)]).run Try.prog wx = .ok (.slice (some ⟨wx.heap.size, 0, none⟩) 1 1) (wx.alloc (.cells cs.toArray 38))) := fun wx => run_slot_one Try.underlying28 slot_wr cs CL.out wx
  clear hcs H h hW1 hb hg hL hsq ha hf hn f
  cases m with
  | some bm =>
    have H3 : Hid (Own.St B w0 W1 (AVals b 38 cs :: AVals p 95 (qC g (.slice ao n cap) (some bm)) :: WinQ (.slice ao n cap) L :: AT (some bm) L :: Ps)) := by rw [HN.out]; exact hB
    have c0 := (H3.out.cellV 1 rfl 2 rfl).1
    have EQ : (binOp .eql 93 (.map (some bm)) (.map none)).run Try.prog W1 = .ok (.bool false) W1 := eqlMapQ W1 _ _ _ (some bm) mapT
    clear hB
    go_enter Try.func42, Try.ntmps42
    go_wp2_with (fail)
    obtain ⟨W3, hW3⟩ : ∃ W, W = W1 := ⟨_, rfl⟩
    rw [← hW3] at H3 ⊢
    clear EQ c0 E1 hW3
    have h4 := H3.out.drew
    have LD : Hid (W3.drew.rangeAt b 0 cs) := fun j u hu => by rw [Nat.zero_add]; exact (h4.cellV 0 rfl j hu).1
    have h5 := h4.alloc (.cells cs.toArray 38)
    have CN : Hid (∀ j u, cs[j]? = some u → (W3.drew.alloc (.cells cs.toArray 38)).cell? ((⟨W3.heap.size, 0, none⟩ : Addr).add j) = some u) := by
      intro j u hu
      rw [add_of, Nat.zero_add]
      exact cell_of_block (heap_alloc_new W3.drew _) (by simpa using hu)
    obtain ⟨a6, c6, w6, hr6, h6⟩ := run_win_append (n := n) (v := .slice ao n cap) many_wr h5 2 (by show some (AWin 36 (.slice ao n cap) L.length (L.flatMap wrC)) = _; rw [← HN.out]) 28 ⟨W3.heap.size, 0, none⟩ 1 1 cs (by rw [CL.out]) CN.out CO.out (by omega) (by decide)
    simp only [List.set_cons_zero, List.set_cons_succ] at h6
    have C0a : Hid (W3.drew.cell? ⟨p, 1, none⟩ = some (.slice ao n cap)) := (h4.cellV 1 rfl 1 rfl).1
    have C0b : Hid ((W3.drew.alloc (.cells cs.toArray 38)).cell? ⟨p, 1, none⟩ = some (.slice ao n cap)) := (h5.cellV 1 rfl 1 rfl).1
    have Q6 := Lib.hid (h6.cellV 1 rfl 1 rfl)
    have h7 := h6.storeV 1 rfl 1 (.slice a6 (n + 1) c6)
    simp only [List.set_cons_zero, List.set_cons_succ] at h7
    have h7' : Own.St B w0 (w6.setCell ⟨p, 1, none⟩ (.slice a6 (n + 1) c6)) (AVals b 38 cs :: AVals p 95 (qC g (.slice a6 (n + 1) c6) (some bm)) :: WinQ (.slice a6 (n + 1) c6) (L ++ [r]) :: AT (some bm) L :: Ps) := by
      have e1 : L.flatMap wrC ++ cs = (L ++ [r]).flatMap wrC := by rw [List.flatMap_append, HCS.out]; simp
      have e2 : n + 1 = (L ++ [r]).length := by rw [List.length_append, HN.out]; rfl
      have h := h7
      rw [e1] at h
      show Own.St B w0 _ (_ :: _ :: AWin 36 (.slice a6 (n + 1) c6) (L ++ [r]).length ((L ++ [r]).flatMap wrC) :: AT (some bm) L :: Ps)
      rw [← e2]
      exact h
    have H7 := Lib.hid h7'
    have HR6 := Lib.hid hr6
    clear h4 h5 hr6 h6 h7 h7' CN H3
    refine wp_chain_list [6, 7, 10] (fun j wx => wx = match j with | 0 => W3.drew | 1 => W3.drew.alloc (.cells cs.toArray 38) | 2 => w6 | _ => w6.setCell ⟨p, 1, none⟩ (.slice a6 (n + 1) c6)) (by kernel_rfl) (by kernel_rfl) (by kernel_rfl) (by kernel_rfl) rfl ?_
    refine wpG_move (ptr p) rfl (by kernel_rfl) (by kernel_rfl) (by kernel_rfl) ?_
    refine wpG_move (ptr p) rfl (by kernel_rfl) (by kernel_rfl) (by kernel_rfl) ?_
    refine wpG_run1 (x := .tmp 14) (ptr p) (ptr p) (by kernel_rfl) (by kernel_rfl) (by kernel_rfl) (by kernel_rfl) (fun j wx ρ hC h0 hc => nilC rfl ρ wx h0) ?_
    refine wpG_run1 (x := .tmp 15) (ptr p) (.pointer (some ⟨p, 1, none⟩)) (by kernel_rfl) (by kernel_rfl) (by kernel_rfl) (by kernel_rfl) (fun j wx ρ hC h0 hc => fldQ rfl (by decide) ρ wx h0) ?_
    refine wpG_runU1 (x := .tmp 16) 1 (.pointer (some ⟨p, 1, none⟩)) (.slice ao n cap) (by kernel_rfl) (by kernel_rfl) (by kernel_rfl) (by kernel_rfl) (by kernel_rfl) (by kernel_rfl) (fun j wx ρ hj hC h0 hc => ?_) ?_
    · have hcell : wx.cell? ⟨p, 1, none⟩ = some (.slice ao n cap) := by
        match j, hj with
        | 0, _ => subst hC; exact C0a.out
        | 1, _ => subst hC; exact C0b.out
      simp [go_sem, h0, hcell]
    refine wpG_runU1 (x := .tmp 3) 0 (ptr b) (.agg cs.toArray) (by kernel_rfl) (by kernel_rfl) (by kernel_rfl) (by kernel_rfl) (by kernel_rfl) (by kernel_rfl) (fun j wx ρ hj hC h0 hc => ?_) ?_
    · obtain rfl : j = 0 := by omega
      subst hC
      exact load_wr cs CL.out rfl ρ LD.out h0
    refine wpG_op 0 (.slice (some ⟨W3.heap.size, 0, none⟩) 1 1) _ (.inl rfl) (by kernel_rfl) (by kernel_rfl) (by kernel_rfl) (by kernel_rfl) (by kernel_rfl) (fun wx hC => ⟨_, by subst hC; exact slot_E rfl (by kernel_rfl) (BS.out _), by rfl⟩) ?_
    refine wpG_op 1 (.slice a6 (n + 1) c6) _ (.inl rfl) (by kernel_rfl) (by kernel_rfl) (by kernel_rfl) (by kernel_rfl) (by kernel_rfl) (fun wx hC => ⟨_, by subst hC; exact append_E (vs := .slice ao n cap) (vx := .slice (some ⟨W3.heap.size, 0, none⟩) 1 1) rfl (by kernel_rfl) (by kernel_rfl) HR6.out, by rfl⟩) ?_
    refine wpG_run1 (x := .tmp 13) (ptr p) (ptr p) (by kernel_rfl) (by kernel_rfl) (by kernel_rfl) (by kernel_rfl) (fun j wx ρ hC h0 hc => nilC rfl ρ wx h0) ?_
    refine wpG_run1 (x := .tmp 21) (ptr p) (.pointer (some ⟨p, 1, none⟩)) (by kernel_rfl) (by kernel_rfl) (by kernel_rfl) (by kernel_rfl) (fun j wx ρ hC h0 hc => fldQ rfl (by decide) ρ wx h0) ?_
    refine wpG_op 2 undef _ (.inr ⟨rfl, rfl⟩) (by kernel_rfl) (by kernel_rfl) (by kernel_rfl) (by kernel_rfl) (by kernel_rfl) (fun wx hC => ⟨w6.setCell ⟨p, 1, none⟩ (.slice a6 (n + 1) c6), by subst hC; exact storeAt_E (a := .pointer (some ⟨p, 1, none⟩)) (v := .slice a6 (n + 1) c6) rfl (by kernel_rfl) (by kernel_rfl) (by simp [go_sem, Q6.out.1, Q6.out.2]), rfl⟩) ?_
    refine wpG_end (fun w9 hw9 => ?_)
    obtain ⟨W7, hW7⟩ : ∃ W, W = w6.setCell ⟨p, 1, none⟩ (.slice a6 (n + 1) c6) := ⟨_, rfl⟩
    rw [← hW7] at H7
    obtain rfl : w9 = W7 := by rw [hW7]; exact hw9
    simp only [setL, List.set_cons_zero, List.set_cons_succ]
    clear Q6 HR6 C0a C0b LD hw9 hW7
    go_wp2_with (fail)
    -- q.of[w.Addr] = append(q.of[w.Addr], w)
    have k4 := H7.out.drew
    have k5 : Own.St B w0 w9.drew (AT (some bm) L :: AVals b 38 cs :: AVals p 95 (qC g (.slice a6 (n + 1) c6) (some bm)) :: WinQ (.slice a6 (n + 1) c6) (L ++ [r]) :: Ps) := k4.perm (List.perm_middle (l₁ := [_, _, _]))
    obtain ⟨va, pres, _, k6⟩ := tab_out k5 (fun w hw => (HF.out w hw).addr) a
    obtain ⟨aa, ca, rfl, _⟩ := k6.winForm 0 rfl
    obtain ⟨na, hna⟩ : ∃ n, n = (ofA L a).length := ⟨_, rfl⟩
    have hnal : na ≤ 20000 := by rw [hna]; exact Nat.le_trans (ofA_len L a) (by rw [← HN.out]; exact hnl)
    have LK0 : Hid ((Instr.lookup 93 (.map (some bm)) (.int .u32 (a : Int)) false).run Try.prog w9.drew = .ok (.slice aa na ca) w9.drew) := by rw [hna]; exact rest_look (k6.perm (List.Perm.swap _ _ _)) ha32
    have LD : Hid (w9.drew.rangeAt b 0 cs) := fun j u hu => by rw [Nat.zero_add]; exact (k6.cellV 2 rfl j hu).1
    have k7 := k6.alloc (.cells cs.toArray 38)
    have LK1 : Hid ((Instr.lookup 93 (.map (some bm)) (.int .u32 (a : Int)) false).run Try.prog (w9.drew.alloc (.cells cs.toArray 38)) = .ok (.slice aa na ca) (w9.drew.alloc (.cells cs.toArray 38))) := by rw [hna]; exact rest_look (k7.perm (List.Perm.swap _ _ _)) ha32
    have CN : Hid (∀ j u, cs[j]? = some u → (w9.drew.alloc (.cells cs.toArray 38)).cell? ((⟨w9.heap.size, 0, none⟩ : Addr).add j) = some u) := by
      intro j u hu
      rw [add_of, Nat.zero_add]
      exact cell_of_block (heap_alloc_new w9.drew _) (by simpa using hu)
    obtain ⟨a8, c8, w8, hr8, k8⟩ := run_win_append (n := na) (v := .slice aa na ca) many_wr k7 0 (by show some (AWin 36 (.slice aa (ofA L a).length ca) (ofA L a).length ((ofA L a).flatMap wrC)) = _; rw [← hna]) 28 ⟨w9.heap.size, 0, none⟩ 1 1 cs (by rw [CL.out]) CN.out CO.out (by omega) (by decide)
    simp only [List.set_cons_zero] at k8
    have k8' := k8.perm (List.Perm.swap _ _ _)
    obtain ⟨wz, hpu, kz⟩ := rest_put k8' ha32 (by rw [← HN.out]; omega) (.slice a8 (na + 1) c8)
    have CP : Hid (∀ (j : Nat) (wx : World), j ≤ 2 → (wx = match j with | 0 => w9.drew | 1 => w9.drew.alloc (.cells cs.toArray 38) | 2 => w8 | _ => wz) → wx.cell? ⟨p, 2, none⟩ = some (.map (some bm)) ∧ wx.cell? ⟨b, 0, none⟩ = some (.int .u32 (a : Int))) := by
      intro j wx hj h
      match j, hj, h with
      | 0, _, h => subst h; exact ⟨(k6.cellV 3 rfl 2 rfl).1, (k6.cellV 2 rfl 0 HA0.out).1⟩
      | 1, _, h => subst h; exact ⟨(k7.cellV 3 rfl 2 rfl).1, (k7.cellV 2 rfl 0 HA0.out).1⟩
      | 2, _, h => subst h; exact ⟨(k8.cellV 3 rfl 2 rfl).1, (k8.cellV 2 rfl 0 HA0.out).1⟩
    have HR8 := Lib.hid hr8
    have HPU := Lib.hid hpu
    have HNA := Lib.hid hna
    have KZ : Hid (Own.St B w0 wz (AVals b 38 cs :: AVals p 95 (qC g (.slice a6 (n + 1) c6) (some bm)) :: WinQ (.slice a6 (n + 1) c6) (L ++ [r]) :: AT (some bm) (L ++ [r]) :: Ps)) := by
      have h1 := rest_to kz (L' := L ++ [r]) (by rw [HAA.out]; exact ofA_other L r)
      have h2 := h1.perm (List.Perm.swap _ _ _)
      have e0 : ofA (L ++ [r]) a = ofA L a ++ [r] := by rw [ofA_snoc, if_pos HAA.out.symm]
      have e1 : (ofA L a).flatMap wrC ++ cs = (ofA (L ++ [r]) a).flatMap wrC := by rw [e0, List.flatMap_append, HCS.out]; simp
      have e2 : na + 1 = (ofA (L ++ [r]) a).length := by rw [e0, List.length_append, HNA.out]; rfl
      rw [e1, e2] at h2
      have h3 := tab_back ha32 (by rw [e0]; simp) h2
      exact h3.perm (List.perm_middle (l₁ := [_, _, _])).symm
    clear k4 k5 k6 k7 CN hr8 k8 k8' hpu kz hna H7
    refine wp_chain_list [14, 15, 16] (fun j wx => wx = match j with | 0 => w9.drew | 1 => w9.drew.alloc (.cells cs.toArray 38) | 2 => w8 | _ => wz) (by kernel_rfl) (by kernel_rfl) (by kernel_rfl) (by kernel_rfl) rfl ?_
    refine wpG_move (ptr p) rfl (by kernel_rfl) (by kernel_rfl) (by kernel_rfl) ?_
    refine wpG_run1 (x := .tmp 23) (ptr p) (ptr p) (by kernel_rfl) (by kernel_rfl) (by kernel_rfl) (by kernel_rfl) (fun j wx ρ hC h0 hc => nilC rfl ρ wx h0) ?_
    refine wpG_run1 (x := .tmp 24) (ptr p) (.pointer (some ⟨p, 2, none⟩)) (by kernel_rfl) (by kernel_rfl) (by kernel_rfl) (by kernel_rfl) (fun j wx ρ hC h0 hc => fldQ rfl (by decide) ρ wx h0) ?_
    refine wpG_runU1 (x := .tmp 25) 2 (.pointer (some ⟨p, 2, none⟩)) (.map (some bm)) (by kernel_rfl) (by kernel_rfl) (by kernel_rfl) (by kernel_rfl) (by kernel_rfl) (by kernel_rfl) (fun j wx ρ hj hC h0 hc => by simp [go_sem, h0, (CP.out j wx hj hC).1]) ?_
    refine wpG_run1 (x := .tmp 3) (ptr b) (ptr b) (by kernel_rfl) (by kernel_rfl) (by kernel_rfl) (by kernel_rfl) (fun j wx ρ hC h0 hc => fldW rfl ρ wx h0) ?_
    refine wpG_runU1 (x := .tmp 27) 2 (ptr b) (.int .u32 (a : Int)) (by kernel_rfl) (by kernel_rfl) (by kernel_rfl) (by kernel_rfl) (by kernel_rfl) (by kernel_rfl) (fun j wx ρ hj hC h0 hc => by simp [go_sem, h0, (CP.out j wx hj hC).2]) ?_
    refine wpG_move (ptr p) rfl (by kernel_rfl) (by kernel_rfl) (by kernel_rfl) ?_
    refine wpG_run1 (x := .tmp 29) (ptr p) (ptr p) (by kernel_rfl) (by kernel_rfl) (by kernel_rfl) (by kernel_rfl) (fun j wx ρ hC h0 hc => nilC rfl ρ wx h0) ?_
    refine wpG_run1 (x := .tmp 30) (ptr p) (.pointer (some ⟨p, 2, none⟩)) (by kernel_rfl) (by kernel_rfl) (by kernel_rfl) (by kernel_rfl) (fun j wx ρ hC h0 hc => fldQ rfl (by decide) ρ wx h0) ?_
    refine wpG_runU1 (x := .tmp 31) 1 (.pointer (some ⟨p, 2, none⟩)) (.map (some bm)) (by kernel_rfl) (by kernel_rfl) (by kernel_rfl) (by kernel_rfl) (by kernel_rfl) (by kernel_rfl) (fun j wx ρ hj hC h0 hc => by simp [go_sem, h0, (CP.out j wx (by omega) hC).1]) ?_
    refine wpG_run1 (x := .tmp 3) (ptr b) (ptr b) (by kernel_rfl) (by kernel_rfl) (by kernel_rfl) (by kernel_rfl) (fun j wx ρ hC h0 hc => fldW rfl ρ wx h0) ?_
    refine wpG_runU1 (x := .tmp 33) 1 (ptr b) (.int .u32 (a : Int)) (by kernel_rfl) (by kernel_rfl) (by kernel_rfl) (by kernel_rfl) (by kernel_rfl) (by kernel_rfl) (fun j wx ρ hj hC h0 hc => by simp [go_sem, h0, (CP.out j wx (by omega) hC).2]) ?_
    refine wpG_runU 1 (.slice aa na ca) (by kernel_rfl) (by kernel_rfl) (by kernel_rfl) (by kernel_rfl) (by kernel_rfl) (fun j wx hj hC => ?_) ?_
    · match j, hj with
      | 0, _ => subst hC; exact look_exec rfl LK0.out _ (by kernel_rfl) (by kernel_rfl)
      | 1, _ => subst hC; exact look_exec rfl LK1.out _ (by kernel_rfl) (by kernel_rfl)
    refine wpG_runU1 (x := .tmp 3) 0 (ptr b) (.agg cs.toArray) (by kernel_rfl) (by kernel_rfl) (by kernel_rfl) (by kernel_rfl) (by kernel_rfl) (by kernel_rfl) (fun j wx ρ hj hC h0 hc => ?_) ?_
    · obtain rfl : j = 0 := by omega
      subst hC
      exact load_wr cs CL.out rfl ρ LD.out h0
    refine wpG_op 0 (.slice (some ⟨w9.heap.size, 0, none⟩) 1 1) _ (.inl rfl) (by kernel_rfl) (by kernel_rfl) (by kernel_rfl) (by kernel_rfl) (by kernel_rfl) (fun wx hC => ⟨_, by subst hC; exact slot_E rfl (by kernel_rfl) (BS.out _), by rfl⟩) ?_
    refine wpG_op 1 (.slice a8 (na + 1) c8) _ (.inl rfl) (by kernel_rfl) (by kernel_rfl) (by kernel_rfl) (by kernel_rfl) (by kernel_rfl) (fun wx hC => ⟨_, by subst hC; exact append_E (vs := .slice aa na ca) (vx := .slice (some ⟨w9.heap.size, 0, none⟩) 1 1) rfl (by kernel_rfl) (by kernel_rfl) HR8.out, by rfl⟩) ?_
    refine wpG_op 2 undef _ (.inr ⟨rfl, rfl⟩) (by kernel_rfl) (by kernel_rfl) (by kernel_rfl) (by kernel_rfl) (by kernel_rfl) (fun wx hC => ⟨wz, by subst hC; exact update_E (m := .map (some bm)) (k := .int .u32 (a : Int)) (v := .slice a8 (na + 1) c8) rfl (by kernel_rfl) (by kernel_rfl) (by kernel_rfl) HPU.out, rfl⟩) ?_
    refine wpG_end (fun w10 hw10 => ?_)
    obtain rfl : w10 = wz := hw10
    simp only [setL, List.set_cons_zero, List.set_cons_succ]
    have d1 := (KZ.out.cellV 0 rfl 1 HA1.out).1
    obtain ⟨d2, d3⟩ := KZ.out.cellV 1 rfl 0 rfl
    have k9 := KZ.out.storeV 1 rfl 0 (.int .u64 (sq : Int))
    simp only [List.set_cons_zero, List.set_cons_succ] at k9
    have K9 := Lib.hid k9
    clear CP HR8 HPU LK0 LK1 LD k9 KZ
    go_wp2
    go_end0
    refine ⟨rfl, ?_⟩
    have h := K9.out.drop 1
    simp only [List.drop_succ_cons, List.drop_zero] at h
    refine A_close (q := ⟨L ++ [r], r.seq + 1⟩) (v := .slice a6 (n + 1) c6) (m := some bm) ?_
    rw [show (⟨L ++ [r], r.seq + 1⟩ : Q).next - 1 = sq by rw [HSQ.out]; rfl]
    exact h
  | none =>
    have H2 : Hid (Own.St B w0 W1 (AVals b 38 cs :: AVals p 95 (qC g (.slice ao n cap) none) :: WinQ (.slice ao n cap) L :: AT none L :: Ps)) := by rw [HN.out]; exact hB
    have c0 := (H2.out.cellV 1 rfl 2 rfl).1
    obtain ⟨w2, bm, e2, h2⟩ := mapMakeQ H2.out
    have c1 := h2.cellV 2 rfl 2 rfl
    obtain ⟨c1, c2⟩ := c1
    have h3 := h2.storeV 2 rfl 2 (.map (some bm))
    simp only [List.set_cons_zero, List.set_cons_succ] at h3
    obtain ⟨W3, hW3⟩ : ∃ W, W = w2.setCell ⟨p, 2, none⟩ (.map (some bm)) := ⟨_, rfl⟩
    rw [← hW3] at h3
    have E3 := hW3.symm
    have H3 : Hid (Own.St B w0 W3 (AVals b 38 cs :: AVals p 95 (qC g (.slice ao n cap) (some bm)) :: WinQ (.slice ao n cap) L :: AT (some bm) L :: Ps)) := by
      have h4 : Own.St B w0 W3 (AOf bm [] :: AT none L :: AVals b 38 cs :: AVals p 95 (qC g (.slice ao n cap) (some bm)) :: WinQ (.slice ao n cap) L :: Ps) := h3.perm (List.Perm.cons _ (List.perm_middle (l₁ := [_, _, _])))
      exact (rest_make h4).perm (List.perm_middle (l₁ := [_, _, _])).symm
    have EQ : (binOp .eql 93 (.map none) (.map none)).run Try.prog W1 = .ok (.bool true) W1 := eqlMapQ W1 _ _ _ none mapT
    clear hB h2 h3 hW3 H2
    go_enter Try.func42, Try.ntmps42
    go_wp2_with (fail)
    clear EQ c0 E1 E3 e2 c1 c2
    have h4 := H3.out.drew
    have LD : Hid (W3.drew.rangeAt b 0 cs) := fun j u hu => by rw [Nat.zero_add]; exact (h4.cellV 0 rfl j hu).1
    have h5 := h4.alloc (.cells cs.toArray 38)
    have CN : Hid (∀ j u, cs[j]? = some u → (W3.drew.alloc (.cells cs.toArray 38)).cell? ((⟨W3.heap.size, 0, none⟩ : Addr).add j) = some u) := by
      intro j u hu
      rw [add_of, Nat.zero_add]
      exact cell_of_block (heap_alloc_new W3.drew _) (by simpa using hu)
    obtain ⟨a6, c6, w6, hr6, h6⟩ := run_win_append (n := n) (v := .slice ao n cap) many_wr h5 2 (by show some (AWin 36 (.slice ao n cap) L.length (L.flatMap wrC)) = _; rw [← HN.out]) 28 ⟨W3.heap.size, 0, none⟩ 1 1 cs (by rw [CL.out]) CN.out CO.out (by omega) (by decide)
    simp only [List.set_cons_zero, List.set_cons_succ] at h6
    have C0a : Hid (W3.drew.cell? ⟨p, 1, none⟩ = some (.slice ao n cap)) := (h4.cellV 1 rfl 1 rfl).1
    have C0b : Hid ((W3.drew.alloc (.cells cs.toArray 38)).cell? ⟨p, 1, none⟩ = some (.slice ao n cap)) := (h5.cellV 1 rfl 1 rfl).1
    have Q6 := Lib.hid (h6.cellV 1 rfl 1 rfl)
    have h7 := h6.storeV 1 rfl 1 (.slice a6 (n + 1) c6)
    simp only [List.set_cons_zero, List.set_cons_succ] at h7
    have h7' : Own.St B w0 (w6.setCell ⟨p, 1, none⟩ (.slice a6 (n + 1) c6)) (AVals b 38 cs :: AVals p 95 (qC g (.slice a6 (n + 1) c6) (some bm)) :: WinQ (.slice a6 (n + 1) c6) (L ++ [r]) :: AT (some bm) L :: Ps) := by
      have e1 : L.flatMap wrC ++ cs = (L ++ [r]).flatMap wrC := by rw [List.flatMap_append, HCS.out]; simp
      have e2 : n + 1 = (L ++ [r]).length := by rw [List.length_append, HN.out]; rfl
      have h := h7
      rw [e1] at h
      show Own.St B w0 _ (_ :: _ :: AWin 36 (.slice a6 (n + 1) c6) (L ++ [r]).length ((L ++ [r]).flatMap wrC) :: AT (some bm) L :: Ps)
      rw [← e2]
      exact h
    have H7 := Lib.hid h7'
    have HR6 := Lib.hid hr6
    clear h4 h5 hr6 h6 h7 h7' CN H3
    refine wp_chain_list [6, 7, 10] (fun j wx => wx = match j with | 0 => W3.drew | 1 => W3.drew.alloc (.cells cs.toArray 38) | 2 => w6 | _ => w6.setCell ⟨p, 1, none⟩ (.slice a6 (n + 1) c6)) (by kernel_rfl) (by kernel_rfl) (by kernel_rfl) (by kernel_rfl) rfl ?_
    refine wpG_move (ptr p) rfl (by kernel_rfl) (by kernel_rfl) (by kernel_rfl) ?_
    refine wpG_move (ptr p) rfl (by kernel_rfl) (by kernel_rfl) (by kernel_rfl) ?_
    refine wpG_run1 (x := .tmp 14) (ptr p) (ptr p) (by kernel_rfl) (by kernel_rfl) (by kernel_rfl) (by kernel_rfl) (fun j wx ρ hC h0 hc => nilC rfl ρ wx h0) ?_
    refine wpG_run1 (x := .tmp 15) (ptr p) (.pointer (some ⟨p, 1, none⟩)) (by kernel_rfl) (by kernel_rfl) (by kernel_rfl) (by kernel_rfl) (fun j wx ρ hC h0 hc => fldQ rfl (by decide) ρ wx h0) ?_
    refine wpG_runU1 (x := .tmp 16) 1 (.pointer (some ⟨p, 1, none⟩)) (.slice ao n cap) (by kernel_rfl) (by kernel_rfl) (by kernel_rfl) (by kernel_rfl) (by kernel_rfl) (by kernel_rfl) (fun j wx ρ hj hC h0 hc => ?_) ?_
    · have hcell : wx.cell? ⟨p, 1, none⟩ = some (.slice ao n cap) := by
        match j, hj with
        | 0, _ => subst hC; exact C0a.out
        | 1, _ => subst hC; exact C0b.out
      simp [go_sem, h0, hcell]
    refine wpG_runU1 (x := .tmp 3) 0 (ptr b) (.agg cs.toArray) (by kernel_rfl) (by kernel_rfl) (by kernel_rfl) (by kernel_rfl) (by kernel_rfl) (by kernel_rfl) (fun j wx ρ hj hC h0 hc => ?_) ?_
    · obtain rfl : j = 0 := by omega
      subst hC
      exact load_wr cs CL.out rfl ρ LD.out h0
    refine wpG_op 0 (.slice (some ⟨W3.heap.size, 0, none⟩) 1 1) _ (.inl rfl) (by kernel_rfl) (by kernel_rfl) (by kernel_rfl) (by kernel_rfl) (by kernel_rfl) (fun wx hC => ⟨_, by subst hC; exact slot_E rfl (by kernel_rfl) (BS.out _), by rfl⟩) ?_
    refine wpG_op 1 (.slice a6 (n + 1) c6) _ (.inl rfl) (by kernel_rfl) (by kernel_rfl) (by kernel_rfl) (by kernel_rfl) (by kernel_rfl) (fun wx hC => ⟨_, by subst hC; exact append_E (vs := .slice ao n cap) (vx := .slice (some ⟨W3.heap.size, 0, none⟩) 1 1) rfl (by kernel_rfl) (by kernel_rfl) HR6.out, by rfl⟩) ?_
    refine wpG_run1 (x := .tmp 13) (ptr p) (ptr p) (by kernel_rfl) (by kernel_rfl) (by kernel_rfl) (by kernel_rfl) (fun j wx ρ hC h0 hc => nilC rfl ρ wx h0) ?_
    refine wpG_run1 (x := .tmp 21) (ptr p) (.pointer (some ⟨p, 1, none⟩)) (by kernel_rfl) (by kernel_rfl) (by kernel_rfl) (by kernel_rfl) (fun j wx ρ hC h0 hc => fldQ rfl (by decide) ρ wx h0) ?_
    refine wpG_op 2 undef _ (.inr ⟨rfl, rfl⟩) (by kernel_rfl) (by kernel_rfl) (by kernel_rfl) (by kernel_rfl) (by kernel_rfl) (fun wx hC => ⟨w6.setCell ⟨p, 1, none⟩ (.slice a6 (n + 1) c6), by subst hC; exact storeAt_E (a := .pointer (some ⟨p, 1, none⟩)) (v := .slice a6 (n + 1) c6) rfl (by kernel_rfl) (by kernel_rfl) (by simp [go_sem, Q6.out.1, Q6.out.2]), rfl⟩) ?_
    refine wpG_end (fun w9 hw9 => ?_)
    obtain ⟨W7, hW7⟩ : ∃ W, W = w6.setCell ⟨p, 1, none⟩ (.slice a6 (n + 1) c6) := ⟨_, rfl⟩
    rw [← hW7] at H7
    obtain rfl : w9 = W7 := by rw [hW7]; exact hw9
    simp only [setL, List.set_cons_zero, List.set_cons_succ]
    clear Q6 HR6 C0a C0b LD hw9 hW7
    go_wp2_with (fail)
    -- q.of[w.Addr] = append(q.of[w.Addr], w)
    have k4 := H7.out.drew
    have k5 : Own.St B w0 w9.drew (AT (some bm) L :: AVals b 38 cs :: AVals p 95 (qC g (.slice a6 (n + 1) c6) (some bm)) :: WinQ (.slice a6 (n + 1) c6) (L ++ [r]) :: Ps) := k4.perm (List.perm_middle (l₁ := [_, _, _]))
    obtain ⟨va, pres, _, k6⟩ := tab_out k5 (fun w hw => (HF.out w hw).addr) a
    obtain ⟨aa, ca, rfl, _⟩ := k6.winForm 0 rfl
    obtain ⟨na, hna⟩ : ∃ n, n = (ofA L a).length := ⟨_, rfl⟩
    have hnal : na ≤ 20000 := by rw [hna]; exact Nat.le_trans (ofA_len L a) (by rw [← HN.out]; exact hnl)
    have LK0 : Hid ((Instr.lookup 93 (.map (some bm)) (.int .u32 (a : Int)) false).run Try.prog w9.drew = .ok (.slice aa na ca) w9.drew) := by rw [hna]; exact rest_look (k6.perm (List.Perm.swap _ _ _)) ha32
    have LD : Hid (w9.drew.rangeAt b 0 cs) := fun j u hu => by rw [Nat.zero_add]; exact (k6.cellV 2 rfl j hu).1
    have k7 := k6.alloc (.cells cs.toArray 38)
    have LK1 : Hid ((Instr.lookup 93 (.map (some bm)) (.int .u32 (a : Int)) false).run Try.prog (w9.drew.alloc (.cells cs.toArray 38)) = .ok (.slice aa na ca) (w9.drew.alloc (.cells cs.toArray 38))) := by rw [hna]; exact rest_look (k7.perm (List.Perm.swap _ _ _)) ha32
    have CN : Hid (∀ j u, cs[j]? = some u → (w9.drew.alloc (.cells cs.toArray 38)).cell? ((⟨w9.heap.size, 0, none⟩ : Addr).add j) = some u) := by
      intro j u hu
      rw [add_of, Nat.zero_add]
      exact cell_of_block (heap_alloc_new w9.drew _) (by simpa using hu)
    obtain ⟨a8, c8, w8, hr8, k8⟩ := run_win_append (n := na) (v := .slice aa na ca) many_wr k7 0 (by show some (AWin 36 (.slice aa (ofA L a).length ca) (ofA L a).length ((ofA L a).flatMap wrC)) = _; rw [← hna]) 28 ⟨w9.heap.size, 0, none⟩ 1 1 cs (by rw [CL.out]) CN.out CO.out (by omega) (by decide)
    simp only [List.set_cons_zero] at k8
    have k8' := k8.perm (List.Perm.swap _ _ _)
    obtain ⟨wz, hpu, kz⟩ := rest_put k8' ha32 (by rw [← HN.out]; omega) (.slice a8 (na + 1) c8)
    have CP : Hid (∀ (j : Nat) (wx : World), j ≤ 2 → (wx = match j with | 0 => w9.drew | 1 => w9.drew.alloc (.cells cs.toArray 38) | 2 => w8 | _ => wz) → wx.cell? ⟨p, 2, none⟩ = some (.map (some bm)) ∧ wx.cell? ⟨b, 0, none⟩ = some (.int .u32 (a : Int))) := by
      intro j wx hj h
      match j, hj, h with
      | 0, _, h => subst h; exact ⟨(k6.cellV 3 rfl 2 rfl).1, (k6.cellV 2 rfl 0 HA0.out).1⟩
      | 1, _, h => subst h; exact ⟨(k7.cellV 3 rfl 2 rfl).1, (k7.cellV 2 rfl 0 HA0.out).1⟩
      | 2, _, h => subst h; exact ⟨(k8.cellV 3 rfl 2 rfl).1, (k8.cellV 2 rfl 0 HA0.out).1⟩
    have HR8 := Lib.hid hr8
    have HPU := Lib.hid hpu
    have HNA := Lib.hid hna
    have KZ : Hid (Own.St B w0 wz (AVals b 38 cs :: AVals p 95 (qC g (.slice a6 (n + 1) c6) (some bm)) :: WinQ (.slice a6 (n + 1) c6) (L ++ [r]) :: AT (some bm) (L ++ [r]) :: Ps)) := by
      have h1 := rest_to kz (L' := L ++ [r]) (by rw [HAA.out]; exact ofA_other L r)
      have h2 := h1.perm (List.Perm.swap _ _ _)
      have e0 : ofA (L ++ [r]) a = ofA L a ++ [r] := by rw [ofA_snoc, if_pos HAA.out.symm]
      have e1 : (ofA L a).flatMap wrC ++ cs = (ofA (L ++ [r]) a).flatMap wrC := by rw [e0, List.flatMap_append, HCS.out]; simp
      have e2 : na + 1 = (ofA (L ++ [r]) a).length := by rw [e0, List.length_append, HNA.out]; rfl
      rw [e1, e2] at h2
      have h3 := tab_back ha32 (by rw [e0]; simp) h2
      exact h3.perm (List.perm_middle (l₁ := [_, _, _])).symm
    clear k4 k5 k6 k7 CN hr8 k8 k8' hpu kz hna H7
    refine wp_chain_list [14, 15, 16] (fun j wx => wx = match j with | 0 => w9.drew | 1 => w9.drew.alloc (.cells cs.toArray 38) | 2 => w8 | _ => wz) (by kernel_rfl) (by kernel_rfl) (by kernel_rfl) (by kernel_rfl) rfl ?_
    refine wpG_move (ptr p) rfl (by kernel_rfl) (by kernel_rfl) (by kernel_rfl) ?_
    refine wpG_run1 (x := .tmp 23) (ptr p) (ptr p) (by kernel_rfl) (by kernel_rfl) (by kernel_rfl) (by kernel_rfl) (fun j wx ρ hC h0 hc => nilC rfl ρ wx h0) ?_
    refine wpG_run1 (x := .tmp 24) (ptr p) (.pointer (some ⟨p, 2, none⟩)) (by kernel_rfl) (by kernel_rfl) (by kernel_rfl) (by kernel_rfl) (fun j wx ρ hC h0 hc => fldQ rfl (by decide) ρ wx h0) ?_
    refine wpG_runU1 (x := .tmp 25) 2 (.pointer (some ⟨p, 2, none⟩)) (.map (some bm)) (by kernel_rfl) (by kernel_rfl) (by kernel_rfl) (by kernel_rfl) (by kernel_rfl) (by kernel_rfl) (fun j wx ρ hj hC h0 hc => by simp [go_sem, h0, (CP.out j wx hj hC).1]) ?_
    refine wpG_run1 (x := .tmp 3) (ptr b) (ptr b) (by kernel_rfl) (by kernel_rfl) (by kernel_rfl) (by kernel_rfl) (fun j wx ρ hC h0 hc => fldW rfl ρ wx h0) ?_
    refine wpG_runU1 (x := .tmp 27) 2 (ptr b) (.int .u32 (a : Int)) (by kernel_rfl) (by kernel_rfl) (by kernel_rfl) (by kernel_rfl) (by kernel_rfl) (by kernel_rfl) (fun j wx ρ hj hC h0 hc => by simp [go_sem, h0, (CP.out j wx hj hC).2]) ?_
    refine wpG_move (ptr p) rfl (by kernel_rfl) (by kernel_rfl) (by kernel_rfl) ?_
    refine wpG_run1 (x := .tmp 29) (ptr p) (ptr p) (by kernel_rfl) (by kernel_rfl) (by kernel_rfl) (by kernel_rfl) (fun j wx ρ hC h0 hc => nilC rfl ρ wx h0) ?_
    refine wpG_run1 (x := .tmp 30) (ptr p) (.pointer (some ⟨p, 2, none⟩)) (by kernel_rfl) (by kernel_rfl) (by kernel_rfl) (by kernel_rfl) (fun j wx ρ hC h0 hc => fldQ rfl (by decide) ρ wx h0) ?_
    refine wpG_runU1 (x := .tmp 31) 1 (.pointer (some ⟨p, 2, none⟩)) (.map (some bm)) (by kernel_rfl) (by kernel_rfl) (by kernel_rfl) (by kernel_rfl) (by kernel_rfl) (by kernel_rfl) (fun j wx ρ hj hC h0 hc => by simp [go_sem, h0, (CP.out j wx (by omega) hC).1]) ?_
    refine wpG_run1 (x := .tmp 3) (ptr b) (ptr b) (by kernel_rfl) (by kernel_rfl) (by kernel_rfl) (by kernel_rfl) (fun j wx ρ hC h0 hc => fldW rfl ρ wx h0) ?_
    refine wpG_runU1 (x := .tmp 33) 1 (ptr b) (.int .u32 (a : Int)) (by kernel_rfl) (by kernel_rfl) (by kernel_rfl) (by kernel_rfl) (by kernel_rfl) (by kernel_rfl) (fun j wx ρ hj hC h0 hc => by simp [go_sem, h0, (CP.out j wx (by omega) hC).2]) ?_
    refine wpG_runU 1 (.slice aa na ca) (by kernel_rfl) (by kernel_rfl) (by kernel_rfl) (by kernel_rfl) (by kernel_rfl) (fun j wx hj hC => ?_) ?_
    · match j, hj with
      | 0, _ => subst hC; exact look_exec rfl LK0.out _ (by kernel_rfl) (by kernel_rfl)
      | 1, _ => subst hC; exact look_exec rfl LK1.out _ (by kernel_rfl) (by kernel_rfl)
    refine wpG_runU1 (x := .tmp 3) 0 (ptr b) (.agg cs.toArray) (by kernel_rfl) (by kernel_rfl) (by kernel_rfl) (by kernel_rfl) (by kernel_rfl) (by kernel_rfl) (fun j wx ρ hj hC h0 hc => ?_) ?_
    · obtain rfl : j = 0 := by omega
      subst hC
      exact load_wr cs CL.out rfl ρ LD.out h0
    refine wpG_op 0 (.slice (some ⟨w9.heap.size, 0, none⟩) 1 1) _ (.inl rfl) (by kernel_rfl) (by kernel_rfl) (by kernel_rfl) (by kernel_rfl) (by kernel_rfl) (fun wx hC => ⟨_, by subst hC; exact slot_E rfl (by kernel_rfl) (BS.out _), by rfl⟩) ?_
    refine wpG_op 1 (.slice a8 (na + 1) c8) _ (.inl rfl) (by kernel_rfl) (by kernel_rfl) (by kernel_rfl) (by kernel_rfl) (by kernel_rfl) (fun wx hC => ⟨_, by subst hC; exact append_E (vs := .slice aa na ca) (vx := .slice (some ⟨w9.heap.size, 0, none⟩) 1 1) rfl (by kernel_rfl) (by kernel_rfl) HR8.out, by rfl⟩) ?_
    refine wpG_op 2 undef _ (.inr ⟨rfl, rfl⟩) (by kernel_rfl) (by kernel_rfl) (by kernel_rfl) (by kernel_rfl) (by kernel_rfl) (fun wx hC => ⟨wz, by subst hC; exact update_E (m := .map (some bm)) (k := .int .u32 (a : Int)) (v := .slice a8 (na + 1) c8) rfl (by kernel_rfl) (by kernel_rfl) (by kernel_rfl) HPU.out, rfl⟩) ?_
    refine wpG_end (fun w10 hw10 => ?_)
    obtain rfl : w10 = wz := hw10
    simp only [setL, List.set_cons_zero, List.set_cons_succ]
    have d1 := (KZ.out.cellV 0 rfl 1 HA1.out).1
    obtain ⟨d2, d3⟩ := KZ.out.cellV 1 rfl 0 rfl
    have k9 := KZ.out.storeV 1 rfl 0 (.int .u64 (sq : Int))
    simp only [List.set_cons_zero, List.set_cons_succ] at k9
    have K9 := Lib.hid k9
    clear CP HR8 HPU LK0 LK1 LD k9 KZ
    go_wp2
    go_end0
    refine ⟨rfl, ?_⟩
    have h := K9.out.drop 1
    simp only [List.drop_succ_cons, List.drop_zero] at h
    refine A_close (q := ⟨L ++ [r], r.seq + 1⟩) (v := .slice a6 (n + 1) c6) (m := some bm) ?_
    rw [show (⟨L ++ [r], r.seq + 1⟩ : Q).next - 1 = sq by rw [HSQ.out]; rfl]
    exact h
end
end Qua
end Go.Proofs.Ytepbdjgfaljbgaa

end
section
namespace Go.Proofs.Ytepbdjgfaljbgaa
open Go.RowKit Go.Own
namespace Qua
open Go.QueM Byt Que
theorem del_E {P : Program} {o : Oper} {x y : Tmp} {t1 t2 : TypeId} (ho : o.op = .call { callee := .builtin .delete, args := #[.tmp x, .tmp y], argTypes := #[t1, t2] }) {ρ : Operand → Value} {w w' : World} {m k : Value} (h0 : ρ (.tmp x) = m) (h1 : ρ (.tmp y) = k) (hrun : (Builtin.delete_ #[t1, t2] o.type #[m, k]).run P w = .ok (.tuple #[]) w') : (execOp ρ o).run P w = .ok (.value (.tuple #[])) w' := by
  unfold execOp
  simp [ho, h0, h1, resolve, invoke, builtin, hrun, Result.andThen]
theorem rest_some {B : Nat} {w0 w : World} {Ps : List Asn} {m : Option Nat} {a : Nat} {v : Value} {L : List Wr} (H : Own.St B w0 w (ARest m a v true L :: Ps)) : ∃ b, m = some b := by
  obtain ⟨es, hP, _⟩ := rest_openH H
  exact Option.ne_none_iff_exists'.1 (fun e => by have := (hP.none e).2; cases this)
section
variable {B : Nat} {w0 w : World} {Ps : List Asn} {p : Nat} {q : Q} {N : Nat}
set_option maxRecDepth 10000 in
set_option maxHeartbeats 6400000 in
theorem push_any (H : Own.St B w0 w (A p q :: Ps)) (ok : Ok q N) (hN : N ≤ 10000) (r : Wr) (f : Fits r) :
    Calls Try.prog 16 #[ptr p, wrV r] w fun e w' => e = .returned (.tuple #[.int .u64 (pushN q r : Int), errQ (pushE q r)]) ∧ Own.St B w0 w' (A p (push q r) :: Ps) := by
  obtain ⟨cs, hcs⟩ : ∃ cs, cs = wrC r := ⟨_, rfl⟩
  show Calls Try.prog _ #[ptr p, .agg (wrC r).toArray] w _
  rw [← hcs]
  obtain ⟨nx, hnx⟩ : ∃ n, n = q.next := ⟨_, rfl⟩
  have hbox := H.boxV 38 cs
  obtain ⟨b, hb⟩ : ∃ b, b = w.heap.size := ⟨_, rfl⟩
  obtain ⟨w1, hw1⟩ : ∃ w1, w1 = w.alloc (.cells cs.toArray 38) := ⟨_, rfl⟩
  rw [← hb, ← hw1] at hbox
  have NL : Hid (cs.length = 36) := by show cs.length = 36; rw [hcs]; exact wrC_len r f.sum
  have RN : Hid (w1.rangeAt b 0 cs) := fun j u hu => by rw [Nat.zero_add]; exact (hbox.cellV 0 rfl j hu).1
  have CV : Hid (∀ wx, Calls Try.prog 41 #[.agg cs.toArray] wx fun e w' => e = .returned (.bool (rightW r)) ∧ Below wx.heap.size wx w') := by
    rw [hcs]
    exact valid_any r f.sum
  have CN : Hid (∀ wx (Qs : List Asn), Own.St B w0 wx (A p q :: Qs) → Calls Try.prog 25 #[ptr p] wx fun e w' => e = .returned (.int .u64 (nx : Int)) ∧ wx = w') := by
    rw [hnx]
    exact fun wx Qs h => next_any h ok.pos ok.next
  have H1 := Lib.hid hbox
  have HW1 := Lib.hid hw1
  have HB := Lib.hid hb
  obtain ⟨rt, hrt⟩ : ∃ b, b = rightW r := ⟨_, rfl⟩
  rw [← hrt] at CV
  have HCS := Lib.hid hcs
  obtain ⟨E, hE⟩ : ∃ E, E = pushE q r := ⟨_, rfl⟩
  obtain ⟨M, hM⟩ : ∃ M, M = pushN q r := ⟨_, rfl⟩
  obtain ⟨X, hX⟩ : ∃ X, X = push q r := ⟨_, rfl⟩
  rw [← hE, ← hM, ← hX]
  unfold pushN at hM
  unfold push at hX
  rw [← hE] at hM hX
  unfold pushE at hE
  rw [← hrt, ← hnx] at hE
  have HHX := Lib.hid hX
  have HHM := Lib.hid hM
  have HNX := Lib.hid hnx
  have HFF := Lib.hid f
  have HOK := Lib.hid ok
  clear hcs hbox hb hw1 hrt hX hM H ok f hnx
  by_cases hbad : rt = false ∨ nx = 18446744073709551615
  · have hE1 : E = 1 := by
      rw [hE]
      rcases hbad with h | h
      · rw [h]; rfl
      · rw [h]; simp
    subst hE1
    have HX : Hid (X = q) := by show X = q; rw [HHX.out, if_neg (by decide)]
    have HM : Hid (M = 0) := by show M = 0; rw [HHM.out, if_neg (by decide)]
    have nb : rt = true → nx = 18446744073709551615 := fun h => by rcases hbad with h' | h'; rw [h] at h'; cases h'; exact h'
    clear hE HHX HHM hbad
    cases rt
    · clear nb
      go_enter Try.func16, Try.ntmps16
      go_wp2_with (refine wpList_val rfl (load_wr cs NL.out rfl _ (b := b) (k := 0) (by rw [← HW1.out]; exact RN.out) (by rw [HB.out]; rfl)) ?_)
      rw [← HW1.out]
      refine (CV.out _).mono ?_
      rintro e w2 ⟨rfl, h2⟩
      have H2 := Lib.hid ((H1.out.later h2).drop 1)
      clear h2
      go_wp2_with (fail)
      go_ret2
      refine ⟨by rw [HM.out]; rfl, ?_⟩
      rw [HX.out]
      exact H2.out
    · have hnm := nb rfl
      subst hnm
      clear nb
      go_enter Try.func16, Try.ntmps16
      go_wp2_with (refine wpList_val rfl (load_wr cs NL.out rfl _ (b := b) (k := 0) (by rw [← HW1.out]; exact RN.out) (by rw [HB.out]; rfl)) ?_)
      rw [← HW1.out]
      refine (CV.out _).mono ?_
      rintro e w2 ⟨rfl, h2⟩
      have H2 := Lib.hid ((H1.out.later h2).drop 1)
      clear h2
      go_wp2_with (fail)
      refine (CN.out _ _ H2.out).mono ?_
      rintro e w3 ⟨rfl, rfl⟩
      go_wp2_with (fail)
      go_ret2
      refine ⟨by rw [HM.out]; rfl, ?_⟩
      rw [HX.out]
      exact H2.out
  · obtain ⟨hr, hne⟩ : rt = true ∧ nx ≠ 18446744073709551615 := ⟨by cases rt <;> simp at hbad ⊢, fun h => hbad (.inr h)⟩
    subst hr
    have hE0 : E = 0 := by rw [hE]; simp [hne]
    subst hE0
    have HX : Hid (X = ⟨q.L ++ [put r q.next], q.next + 1⟩) := by show X = _; rw [HHX.out, if_pos rfl]
    have HM : Hid (M = nx) := by show M = _; rw [HHM.out, if_pos rfl, HNX.out]
    obtain ⟨ds, hds⟩ : ∃ ds, ds = wrC (put r nx) := ⟨_, rfl⟩
    have hput : cs.set 1 (.int .u64 (nx : Int)) = ds := by rw [HCS.out, hds]; rfl
    have DL : Hid (ds.length = 36) := by show _ = 36; rw [← hput, List.length_set]; exact NL.out
    have D1 : Hid (ds[1]? = some (.int .u64 (nx : Int))) := by show _ = _; rw [hds]; rfl
    have HPUT := Lib.hid hput
    have CP : Hid (∀ wx (Qs : List Asn), Own.St B w0 wx (A p q :: Qs) → Calls Try.prog 42 #[ptr p, .agg ds.toArray] wx fun e w' => e = .returned (.tuple #[]) ∧ Own.St B w0 w' (A p ⟨q.L ++ [put r q.next], q.next + 1⟩ :: Qs)) := by
      rw [hds, ← HNX.out]
      exact fun wx Qs h => put_any h HOK.out.fits (Nat.le_trans HOK.out.len (by omega)) (put r nx) (put_fits HFF.out (by rw [HNX.out]; exact HOK.out.next))
    have hne' : ((nx : Int) == 18446744073709551615) = false := by simp; omega
    clear hE HHX HHM hbad hds hput hne
    go_enter Try.func16, Try.ntmps16
    go_wp2_with (refine wpList_val rfl (load_wr cs NL.out rfl _ (b := b) (k := 0) (by rw [← HW1.out]; exact RN.out) (by rw [HB.out]; rfl)) ?_)
    rw [← HW1.out, ← HB.out]
    refine (CV.out _).mono ?_
    rintro e w2 ⟨rfl, h2⟩
    have h2' := H1.out.later h2
    have H2 := Lib.hid h2'.swap2
    obtain ⟨qb1, qb2⟩ := h2'.cellV 0 rfl 1 (v := (.int .u64 (r.seq : Int))) (by rw [HCS.out]; rfl)
    have h3 := h2'.storeV 0 rfl 1 (.int .u64 (nx : Int))
    rw [HPUT.out] at h3
    simp only [List.set_cons_zero] at h3
    obtain ⟨w4, hw4⟩ : ∃ w4, w4 = w2.setCell ⟨b, 1, none⟩ (.int .u64 (nx : Int)) := ⟨_, rfl⟩
    rw [← hw4] at h3
    have H4 := Lib.hid h3
    have HW4 := Lib.hid hw4.symm
    have RD : Hid (w4.rangeAt b 0 ds) := fun j u hu => by rw [Nat.zero_add]; exact (h3.cellV 0 rfl j hu).1
    clear h2 h2' h3 hw4 CV
    go_wp2_with (fail)
    refine (CN.out _ _ H2.out).mono ?_
    rintro e w3 ⟨rfl, rfl⟩
    go_wp2_with (fail)
    refine (CN.out _ _ H2.out).mono ?_
    rintro e w3 ⟨rfl, rfl⟩
    go_wp2_with (refine wpList_val rfl (load_wr ds DL.out rfl _ (b := b) (k := 0) (by rw [HW4.out]; exact RD.out) rfl) ?_)
    rw [HW4.out]
    refine (CP.out _ _ H4.out.swap2).mono ?_
    rintro e w5 ⟨rfl, h5⟩
    have H5 := Lib.hid h5
    have k1 := (H5.out.cellV 1 rfl 1 D1.out).1
    clear h5 CP CN H2 H4 qb1 qb2
    go_wp2_with (fail)
    go_ret2
    refine ⟨by rw [HM.out]; rfl, ?_⟩
    rw [HX.out]
    exact H5.out.drop2
set_option maxRecDepth 10000 in
set_option maxHeartbeats 12800000 in
theorem pop_any (H : Own.St B w0 w (A p q :: Ps)) (ok : Ok q N) (hN : N ≤ 10000) :
    Calls Try.prog 14 #[ptr p] w fun e w' => e = .returned (.tuple #[wrV (frontW q), .bool (isW q)]) ∧ Own.St B w0 w' (A p (pop q) :: Ps) := by
  obtain ⟨z, hz⟩ : ∃ z, z = zW := ⟨_, rfl⟩
  have ZL : Hid (z.length = 36) := by show z.length = 36; rw [hz]; exact zW_len
  have ZP : Hid ((Try.prog.info? 38).bind (·.zero) = some (.agg z.toArray)) := by rw [hz]; exact zero_wr
  have ZB : Hid (Try.prog.built 38 [] = some z.toArray) := by rw [hz]; exact built_wr
  have ZO : Hid (z.toArray.all (·.oneCell') = true) := by show _ = true; rw [hz]; exact all_oneCell_toArray (wrC_one _)
  have hbox := H.boxV 38 z
  obtain ⟨b, hb⟩ : ∃ b, b = w.heap.size := ⟨_, rfl⟩
  obtain ⟨W1, hW1⟩ : ∃ W, W = w.alloc (.cells z.toArray 38) := ⟨_, rfl⟩
  rw [← hb, ← hW1] at hbox
  obtain ⟨F, hF⟩ : ∃ F, F = wrC (frontW q) := ⟨_, rfl⟩
  obtain ⟨is, his⟩ : ∃ b, b = isW q := ⟨_, rfl⟩
  have CF := Lib.hid (front_any hbox.swap2 ok hN)
  unfold wrV at CF
  show Calls Try.prog _ _ w fun e w' => e = .returned (.tuple #[.agg (wrC (frontW q)).toArray, .bool (isW q)]) ∧ _
  rw [← hF, ← his] at CF ⊢
  have FL : Hid (F.length = 36) := by show F.length = 36; rw [hF]; exact wrC_len _ (front_fits ok).sum
  have FO : Hid (F.toArray.all (·.oneCell') = true) := by show _ = true; rw [hF]; exact all_oneCell_toArray (wrC_one _)
  have IW := Lib.hid (info_wrA F FL.out)
  have IZ := Lib.hid (info_wrA z ZL.out)
  have HB := Lib.hid hb
  have HW1 := Lib.hid hW1
  have HIS := Lib.hid his
  have HOK := Lib.hid ok
  have H1 := Lib.hid hbox
  have HFF := Lib.hid hF
  have HZ := Lib.hid hz
  clear hbox hb hW1 H hF hz ok his
  go_enter Try.func14, Try.ntmps14
  go_wp2_with (refine Own.wpList_allocZ rfl 38 rfl z.toArray ZP.out ?_; rw [← HB.out, ← HW1.out])
  refine CF.out.mono ?_
  clear CF HB HW1
  rintro e w2 ⟨rfl, h2⟩
  have h2' := H1.out.later h2
  have h3 := h2'.boxV 38 z
  obtain ⟨b4, hb4⟩ : ∃ b, b = w2.heap.size := ⟨_, rfl⟩
  obtain ⟨W3, hW3⟩ : ∃ W, W = w2.alloc (.cells z.toArray 38) := ⟨_, rfl⟩
  rw [← hb4, ← hW3] at h3
  have ws := wr_store h3 0 rfl ZL.out F FL.out
  obtain ⟨W4, hW4⟩ : ∃ W, W = W3.setCells b4 0 F.toArray.toList := ⟨_, rfl⟩
  rw [← hW4] at ws
  have TH := Lib.hid ws.1
  have h4 := ws.2
  simp only [List.set_cons_zero] at h4
  have h5 : Own.St B w0 W4 (A p q :: AVals b4 38 F :: AVals b 38 z :: Ps) := h4.perm (List.perm_middle (l₁ := [_, _]))
  have H4 := Lib.hid h5
  have HB4 := Lib.hid hb4
  have HW3 := Lib.hid hW3
  have HW4 := Lib.hid hW4
  clear h2 h2' h3 ws h4 h5 hb4 hW3 hW4 H1
  cases is
  · have hl : q.L = [] := by
      have h := HIS.out
      unfold isW at h
      have := of_decide_eq_false h.symm
      exact List.eq_nil_of_length_eq_zero (by omega)
    have he : pop q = q := by
      cases q with
      | mk L nx => simp only at hl; subst hl; rfl
    have hFz : F = z := by rw [HFF.out, HZ.out]; unfold frontW; rw [hl]; rfl
    have HE := Lib.hid he
    have HFZ := Lib.hid hFz
    have ws := wr_store H4.out 2 rfl ZL.out z ZL.out
    obtain ⟨W5, hW5⟩ : ∃ W, W = W4.setCells b 0 z.toArray.toList := ⟨_, rfl⟩
    rw [← hW5] at ws
    have TH5 := Lib.hid ws.1
    have H5 := Lib.hid ws.2
    have HW5 := Lib.hid hW5
    clear he ws hW5 hl hFz H4
    go_wp2_with (first
      | (refine Own.wpList_allocZ rfl 38 rfl z.toArray ZP.out ?_; rw [← HB4.out, ← HW3.out])
      | (refine wpList_store_mid rfl 38 (.tmp 4) (.tmp 10) rfl b4 0 F.toArray rfl rfl TH.out IW.out FO.out ?_; rw [← HW4.out])
      | (refine Own.wpList_built rfl 38 #[] rfl z.toArray ?_ ?_; · (simp only [List.map_toArray, List.map_nil, List.toList_toArray]; exact ZB.out))
      | (refine wpList_store_mid rfl 38 (.tmp 2) (.tmp 14) rfl b 0 z.toArray rfl rfl TH5.out IZ.out ZO.out ?_; rw [← HW5.out]))
    refine bodyPost_ret (results_cell_two rfl _ _ b 38 _ (0, 0) _ _ rfl rfl (H5.out.rowV 2 rfl) Try.underlying38 rfl (info_wr z ZL.out)) rfl ?_
    refine ⟨by rw [HFZ.out]; rfl, ?_⟩
    rw [HE.out]
    have h := H5.out
    simp only [List.set_cons_zero, List.set_cons_succ] at h
    exact (h.perm (Qs := AVals b4 38 F :: AVals b 38 z :: A p q :: Ps) (List.perm_middle (l₁ := [_, _])).symm).drop 2
  · have hl : 0 < q.L.length := by
      have h := HIS.out
      unfold isW at h
      exact of_decide_eq_true h.symm
    obtain ⟨x, L', hqL⟩ := List.exists_cons_of_length_pos hl
    have hFx : F = wrC x := by rw [HFF.out]; unfold frontW; rw [hqL]; rfl
    obtain ⟨a, ha⟩ : ∃ a, a = x.addr := ⟨_, rfl⟩
    have hxf : Fits x := HOK.out.fits x (by rw [hqL]; exact List.mem_cons_self ..)
    have ha32 : a < 4294967296 := by rw [ha]; exact hxf.addr
    obtain ⟨vw, m, h6⟩ := A_open H4.out
    obtain ⟨ao, c, rfl, hxl, hnc, hcm, _⟩ := h6.winForm 1 rfl
    obtain ⟨g, o, hgo, _, _⟩ := h6.winAt 1 rfl 0 (by omega)
    subst hgo
    obtain ⟨n, hn⟩ : ∃ n, n = q.L.length := ⟨_, rfl⟩
    obtain ⟨gv, hgv⟩ : ∃ n, n = q.next - 1 := ⟨_, rfl⟩
    obtain ⟨qc1, qc2⟩ := h6.cellV 0 rfl 1 rfl
    have tl := h6.winTail 1 (k := 1) rfl (by omega)
    simp only [Nat.one_mul] at tl
    rw [← hn] at qc1 hl hnc
    have hcm2 : c ≤ 9223372036854775807 := by unfold maxLen at hcm; omega
    obtain ⟨o', ho'⟩ : ∃ o', o' = if c = 1 then o else o + 36 := ⟨_, rfl⟩
    have h7 : Own.St B w0 W4 (AVals p 95 (qC gv (.slice (some ⟨g, o, none⟩) n c) m) :: AWin 36 (.slice (some ⟨g, o', none⟩) (n - 1) (c - 1)) (n - 1) ((q.L.flatMap wrC).drop 36) :: AT m q.L :: AVals b4 38 F :: AVals b 38 z :: Ps) := by
      by_cases hc1 : c = 1
      · rw [ho', if_pos hc1, hn, hgv]
        exact tl.2 hc1.symm
      · rw [ho', if_neg hc1, hn, hgv]
        exact tl.1
    have e1 : (L').length = n - 1 := by rw [hn, hqL]; rfl
    have e2 : (q.L.flatMap wrC).drop 36 = L'.flatMap wrC := by rw [hqL, List.flatMap_cons, List.drop_left' (wrC_len x hxf.sum)]
    rw [e2] at h7
    have h8 := h7.storeV 0 rfl 1 (.slice (some ⟨g, o', none⟩) (n - 1) (c - 1))
    simp only [List.set_cons_zero, List.set_cons_succ] at h8
    obtain ⟨W6, hW6⟩ : ∃ W, W = W4.setCell ⟨p, 1, none⟩ (.slice (some ⟨g, o', none⟩) (n - 1) (c - 1)) := ⟨_, rfl⟩
    rw [← hW6] at h8
    have h9 : Own.St B w0 W6 (AT m q.L :: AVals p 95 (qC gv (.slice (some ⟨g, o', none⟩) (n - 1) (c - 1)) m) :: AWin 36 (.slice (some ⟨g, o', none⟩) (n - 1) (c - 1)) (n - 1) (L'.flatMap wrC) :: AVals b4 38 F :: AVals b 38 z :: Ps) := h8.perm (List.perm_middle (l₁ := [_, _]))
    obtain ⟨va, pres, hpr, h10⟩ := tab_out h9 (fun w hw => (HOK.out.fits w hw).addr) a
    have eo : ofA q.L a = x :: ofA L' a := by rw [hqL]; unfold ofA; rw [List.filter_cons]; simp [ha]
    obtain ⟨K, hK⟩ : ∃ K, K = ofA L' a := ⟨_, rfl⟩
    rw [← hK] at eo
    have hpt : pres = true := by
      cases pres
      · have := hpr rfl; rw [eo] at this; cases this
      · rfl
    subst hpt
    obtain ⟨bm, hbm⟩ := rest_some (h10.perm (List.Perm.swap _ _ _))
    subst hbm
    obtain ⟨ag, ca, rfl, hxl2, hnc2, hcma, _⟩ := h10.winForm 0 rfl
    rw [eo] at h10 hxl2 hnc2
    obtain ⟨ga, oa, hgo, _, _⟩ := h10.winAt 0 rfl 0 (by simp)
    subst hgo
    obtain ⟨na, hna⟩ : ∃ n, n = K.length := ⟨_, rfl⟩
    have hcma2 : ca ≤ 9223372036854775807 := by unfold maxLen at hcma; omega
    have hnc3 : na + 1 ≤ ca := by rw [hna]; exact hnc2
    obtain ⟨oa', hoa'⟩ : ∃ o', o' = if ca = 1 then oa else oa + 36 := ⟨_, rfl⟩
    have LK : Hid (∀ wx, Below W6.heap.size W6 wx → (Instr.lookup 93 (.map (some bm)) (.int .u32 (a : Int)) false).run Try.prog wx = .ok (.slice (some ⟨ga, oa, none⟩) (na + 1) ca) wx) := by
      intro wx hwx
      rw [hna]
      exact rest_look ((h10.later hwx).perm (List.Perm.swap _ _ _)) ha32
    have tl2 := h10.winTail 0 (k := 1) rfl (by simp)
    simp only [Nat.one_mul, List.length_cons, Nat.add_sub_cancel, List.flatMap_cons, List.drop_left' (wrC_len x hxf.sum)] at tl2
    rw [← hna] at tl2
    have h11 : Own.St B w0 W6 (WinQ (.slice (some ⟨ga, oa', none⟩) na (ca - 1)) K :: ARest (some bm) a (.slice (some ⟨ga, oa, none⟩) (na + 1) ca) true q.L :: AVals p 95 (qC gv (.slice (some ⟨g, o', none⟩) (n - 1) (c - 1)) (some bm)) :: AWin 36 (.slice (some ⟨g, o', none⟩) (n - 1) (c - 1)) (n - 1) (L'.flatMap wrC) :: AVals b4 38 F :: AVals b 38 z :: Ps) := by
      show Own.St B w0 W6 (AWin 36 (.slice (some ⟨ga, oa', none⟩) na (ca - 1)) K.length (K.flatMap wrC) :: _)
      rw [← hna]
      by_cases hc1 : ca = 1
      · rw [hoa', if_pos hc1]
        have h := tl2.2 hc1.symm
        simpa [hna] using h
      · rw [hoa', if_neg hc1]
        simpa [hna] using tl2.1
    have CM : Hid (∀ wx, Below W6.heap.size W6 wx → wx.cell? ⟨p, 2, none⟩ = some (.map (some bm)) ∧ wx.cell? ⟨b4, 0, none⟩ = some (.int .u32 (a : Int))) := fun wx hwx =>
      ⟨((h11.later hwx).cellV 2 rfl 2 rfl).1, ((h11.later hwx).cellV 4 rfl 0 (by rw [hFx, ha]; rfl)).1⟩
    have hoth : ∀ c', c' ≠ a → ofA L' c' = ofA q.L c' := by
      intro c' hc'
      rw [hqL]; unfold ofA; rw [List.filter_cons]
      rw [if_neg]
      simp only [decide_eq_true_eq]
      exact fun e => hc' (by rw [ha, e])
    have epop : pop q = ⟨L', q.next⟩ := by unfold pop; rw [hqL]; rfl
    have eqn : (⟨L', q.next⟩ : Q).next - 1 = gv := hgv.symm
    have CLS : Hid (∀ (wx : World) (va vb : Value) (F' : List Value), (0 < na → va = vb) → Own.St B w0 wx (ARest (some bm) a va (decide (0 < na)) q.L :: WinQ vb K :: AVals p 95 (qC gv (.slice (some ⟨g, o', none⟩) (n - 1) (c - 1)) (some bm)) :: AWin 36 (.slice (some ⟨g, o', none⟩) (n - 1) (c - 1)) (n - 1) (L'.flatMap wrC) :: AVals b4 38 F :: AVals b 38 F' :: Ps) → Own.St B w0 wx (A p (pop q) :: Ps)) := by
      intro wx va vb F' hv h
      have g1 := rest_to h (L' := L') hoth
      have g2 : Own.St B w0 wx (AT (some bm) L' :: AVals p 95 (qC gv (.slice (some ⟨g, o', none⟩) (n - 1) (c - 1)) (some bm)) :: AWin 36 (.slice (some ⟨g, o', none⟩) (n - 1) (c - 1)) (n - 1) (L'.flatMap wrC) :: AVals b4 38 F :: AVals b 38 F' :: Ps) := by
        by_cases h0 : 0 < na
        · obtain rfl := hv h0
          rw [decide_eq_true h0] at g1
          have g3 := g1.perm (List.Perm.swap _ _ _)
          rw [hK] at g3
          exact tab_back ha32 (by rw [← hK]; intro e; rw [e] at hna; simp at hna; omega) g3
        · rw [decide_eq_false h0] at g1
          have hKn : K = [] := List.eq_nil_of_length_eq_zero (by omega)
          exact tab_back0 (by rw [← hK]; exact hKn) ((g1.perm (List.Perm.swap _ _ _)).drop 1)
      have g4 : Own.St B w0 wx (AVals b4 38 F :: AVals b 38 F' :: (AVals p 95 (qC gv (.slice (some ⟨g, o', none⟩) (n - 1) (c - 1)) (some bm)) :: AWin 36 (.slice (some ⟨g, o', none⟩) (n - 1) (c - 1)) (n - 1) (L'.flatMap wrC) :: AT (some bm) L' :: Ps)) := by
        refine g2.perm ?_
        refine (List.perm_middle (l₁ := [_, _])).symm.trans ?_
        exact (List.perm_append_comm (l₁ := [_, _, _]) (l₂ := [_, _])).append_right Ps
      have g5 := g4.drop 2
      simp only [List.drop_succ_cons, List.drop_zero] at g5
      rw [epop]
      refine A_close (q := ⟨L', q.next⟩) (v := .slice (some ⟨g, o', none⟩) (n - 1) (c - 1)) (m := some bm) ?_
      rw [eqn]
      show Own.St B w0 wx (_ :: AWin 36 (.slice (some ⟨g, o', none⟩) (n - 1) (c - 1)) L'.length (L'.flatMap wrC) :: _)
      rw [e1]
      exact g5
    have HN := Lib.hid hn
    have HO := Lib.hid ho'
    have HOA := Lib.hid hoa'
    have HW6 := Lib.hid hW6.symm
    have H11 := Lib.hid h11
    have hqn : q.L.length ≤ 1000000 := Nat.le_trans HOK.out.len (by omega)
    have hna1 : 1 ≤ na + 1 := by omega
    clear hW6 h6 h7 h8 h9 h10 h11 tl tl2 hn ho' hoa' H4 hqL e1 e2 epop eqn hoth hpr eo hK hxl hxl2 hna hgv hFx hxf ha HFF HIS
    go_wp2_with (first
      | (refine Own.wpList_allocZ rfl 38 rfl z.toArray ZP.out ?_; rw [← HB4.out, ← HW3.out])
      | (refine wpList_store_mid rfl 38 (.tmp 4) (.tmp 10) rfl b4 0 F.toArray rfl rfl TH.out IW.out FO.out ?_; rw [← HW4.out])
      | (refine wpList_val rfl (cut_wr hl hnc hcm2 rfl _ _ rfl rfl) ?_; rw [← HO.out]))
    rw [HW6.out]
    refine wp_lax_list (by kernel_rfl) (by kernel_rfl) (by kernel_rfl) ?_
    refine wpL_move (ptr p) rfl (by kernel_rfl) (by kernel_rfl) (by kernel_rfl) (by kernel_rfl) ?_
    refine wpL_run1 (x := .tmp 23) (ptr p) (ptr p) (by kernel_rfl) (by kernel_rfl) (by kernel_rfl) (by kernel_rfl) (by kernel_rfl) (fun wx ρ hwx h0 hc => nilC rfl ρ wx h0) ?_
    refine wpL_run1 (x := .tmp 24) (ptr p) (.pointer (some ⟨p, 2, none⟩)) (by kernel_rfl) (by kernel_rfl) (by kernel_rfl) (by kernel_rfl) (by kernel_rfl) (fun wx ρ hwx h0 hc => fldQ rfl (by decide) ρ wx h0) ?_
    refine wpL_run1 (x := .tmp 25) (.pointer (some ⟨p, 2, none⟩)) (.map (some bm)) (by kernel_rfl) (by kernel_rfl) (by kernel_rfl) (by kernel_rfl) (by kernel_rfl) (fun wx ρ hwx h0 hc => by simp [go_sem, h0, (CM.out wx hwx).1]) ?_
    refine wpL_run1 (x := .tmp 4) (ptr b4) (ptr b4) (by kernel_rfl) (by kernel_rfl) (by kernel_rfl) (by kernel_rfl) (by kernel_rfl) (fun wx ρ hwx h0 hc => fldW rfl ρ wx h0) ?_
    refine wpL_run1 (x := .tmp 27) (ptr b4) (.int .u32 (a : Int)) (by kernel_rfl) (by kernel_rfl) (by kernel_rfl) (by kernel_rfl) (by kernel_rfl) (fun wx ρ hwx h0 hc => by simp [go_sem, h0, (CM.out wx hwx).2]) ?_
    refine wpL_run2 (x := .tmp 26) (y := .tmp 28) (.map (some bm)) (.int .u32 (a : Int)) (.slice (some ⟨ga, oa, none⟩) (na + 1) ca) (by kernel_rfl) (by kernel_rfl) (by kernel_rfl) (by kernel_rfl) (by kernel_rfl) (by kernel_rfl) (fun wx ρ hwx h0 h1 hc => look_exec rfl (LK.out wx hwx) ρ h0 h1) ?_
    refine wpL_run1 (x := .tmp 29) (.slice (some ⟨ga, oa, none⟩) (na + 1) ca) (.slice (some ⟨ga, oa', none⟩) na (ca - 1)) (by kernel_rfl) (by kernel_rfl) (by kernel_rfl) (by kernel_rfl) (by kernel_rfl) (fun wx ρ hwx h0 hc => by rw [HOA.out]; exact cut_wr hna1 hnc3 hcma2 rfl ρ wx h0 (hc _)) ?_
    refine wpL_assign (.slice (some ⟨ga, oa', none⟩) na (ca - 1)) rfl (by kernel_rfl) (by kernel_rfl) (by kernel_rfl) (by kernel_rfl) ?_
    refine wpL_end (by kernel_rfl) (fun w7 hw7 => ?_)
    simp only [FinL, setL, List.set_cons_zero, List.set_cons_succ]
    have H7 := Lib.hid (H11.out.later hw7)
    have hb7 := hw7
    clear H11
    by_cases hn0 : 0 < na
    · have hnI : (0 : Int) < (na : Int) := by omega
      rw [decide_eq_true hn0] at CLS
      go_wp2_with (fail)
      have CM7 : Hid (∀ wx, Below w7.heap.size w7 wx → wx.cell? ⟨p, 2, none⟩ = some (.map (some bm)) ∧ wx.cell? ⟨b4, 0, none⟩ = some (.int .u32 (a : Int))) := fun wx hwx => CM.out wx (hb7.trans (hwx.mono hb7.size))
      refine wp_laxT_list 7 (by kernel_rfl) (by kernel_rfl) (by kernel_rfl) (by kernel_rfl) (by kernel_rfl) ?_
      simp only [List.take_succ_cons, List.take_zero, List.drop_succ_cons, List.drop_zero]
      refine wpL_move (ptr p) rfl (by kernel_rfl) (by kernel_rfl) (by kernel_rfl) (by kernel_rfl) ?_
      refine wpL_run1 (x := .tmp 34) (ptr p) (ptr p) (by kernel_rfl) (by kernel_rfl) (by kernel_rfl) (by kernel_rfl) (by kernel_rfl) (fun wx ρ hwx h0 hc => nilC rfl ρ wx h0) ?_
      refine wpL_run1 (x := .tmp 35) (ptr p) (.pointer (some ⟨p, 2, none⟩)) (by kernel_rfl) (by kernel_rfl) (by kernel_rfl) (by kernel_rfl) (by kernel_rfl) (fun wx ρ hwx h0 hc => fldQ rfl (by decide) ρ wx h0) ?_
      refine wpL_run1 (x := .tmp 36) (.pointer (some ⟨p, 2, none⟩)) (.map (some bm)) (by kernel_rfl) (by kernel_rfl) (by kernel_rfl) (by kernel_rfl) (by kernel_rfl) (fun wx ρ hwx h0 hc => by simp [go_sem, h0, (CM7.out wx hwx).1]) ?_
      refine wpL_run1 (x := .tmp 4) (ptr b4) (ptr b4) (by kernel_rfl) (by kernel_rfl) (by kernel_rfl) (by kernel_rfl) (by kernel_rfl) (fun wx ρ hwx h0 hc => fldW rfl ρ wx h0) ?_
      refine wpL_run1 (x := .tmp 38) (ptr b4) (.int .u32 (a : Int)) (by kernel_rfl) (by kernel_rfl) (by kernel_rfl) (by kernel_rfl) (by kernel_rfl) (fun wx ρ hwx h0 hc => by simp [go_sem, h0, (CM7.out wx hwx).2]) ?_
      refine wpL_move (.slice (some ⟨ga, oa', none⟩) na (ca - 1)) rfl (by kernel_rfl) (by kernel_rfl) (by kernel_rfl) (by kernel_rfl) ?_
      refine wpL_end (by kernel_rfl) (fun w8 hw8 => ?_)
      simp only [FinL, setL, List.set_cons_zero, List.set_cons_succ]
      obtain ⟨wz, ez, kz⟩ := rest_put ((H7.out.later hw8).perm (List.Perm.swap _ _ _)) ha32 hqn (.slice (some ⟨ga, oa', none⟩) na (ca - 1))
      have RF : Hid (wz.rangeAt b4 0 F) := fun j u hu => by rw [Nat.zero_add]; exact (kz.cellV 4 rfl j hu).1
      have ws := wr_store kz 5 rfl ZL.out F FL.out
      obtain ⟨W9, hW9⟩ : ∃ W, W = wz.setCells b 0 F.toArray.toList := ⟨_, rfl⟩
      rw [← hW9] at ws
      have TH9 := Lib.hid ws.1
      have H9 := Lib.hid ws.2
      have HW9 := Lib.hid hW9
      clear ws hW9 kz hw8 H7 CM CM7 LK
      go_wp2_with (first
        | (refine wpList_val rfl (load_wr F FL.out rfl _ (b := b4) (k := 0) RF.out rfl) ?_)
        | (refine wpList_store_mid rfl 38 (.tmp 2) (.tmp 47) rfl b 0 F.toArray rfl rfl TH9.out IW.out FO.out ?_; rw [← HW9.out]))
      refine bodyPost_ret (results_cell_two rfl _ _ b 38 _ (0, 0) _ _ rfl rfl (H9.out.rowV 5 rfl) Try.underlying38 rfl (info_wr F FL.out)) rfl ?_
      refine ⟨rfl, ?_⟩
      have h := H9.out
      simp only [List.set_cons_zero, List.set_cons_succ] at h
      exact CLS.out _ _ _ _ (fun _ => rfl) h
    · have hnI : ¬ (0 : Int) < (na : Int) := by omega
      rw [decide_eq_false hn0] at CLS
      go_wp2_with (fail)
      obtain ⟨wz, ez, kz⟩ := rest_del (H7.out.drew.perm (List.Perm.swap _ _ _)) ha32 0
      have CM7 : Hid (w7.drew.cell? ⟨p, 2, none⟩ = some (.map (some bm)) ∧ w7.drew.cell? ⟨b4, 0, none⟩ = some (.int .u32 (a : Int))) := CM.out _ (hb7.trans (((Own.St.start w7).drew).below.mono hb7.size))
      have EZ := Lib.hid ez
      refine wp_chain_list [6] (fun j wx => wx = match j with | 0 => w7.drew | _ => wz) (by kernel_rfl) (by kernel_rfl) (by kernel_rfl) (by kernel_rfl) rfl ?_
      refine wpG_move (ptr p) rfl (by kernel_rfl) (by kernel_rfl) (by kernel_rfl) ?_
      refine wpG_run1 (x := .tmp 41) (ptr p) (ptr p) (by kernel_rfl) (by kernel_rfl) (by kernel_rfl) (by kernel_rfl) (fun j wx ρ hC h0 hc => nilC rfl ρ wx h0) ?_
      refine wpG_run1 (x := .tmp 42) (ptr p) (.pointer (some ⟨p, 2, none⟩)) (by kernel_rfl) (by kernel_rfl) (by kernel_rfl) (by kernel_rfl) (fun j wx ρ hC h0 hc => fldQ rfl (by decide) ρ wx h0) ?_
      refine wpG_runU1 (x := .tmp 43) 0 (.pointer (some ⟨p, 2, none⟩)) (.map (some bm)) (by kernel_rfl) (by kernel_rfl) (by kernel_rfl) (by kernel_rfl) (by kernel_rfl) (by kernel_rfl) (fun j wx ρ hj hC h0 hc => ?_) ?_
      · obtain rfl : j = 0 := by omega
        subst hC
        simp [go_sem, h0, CM7.out.1]
      refine wpG_run1 (x := .tmp 4) (ptr b4) (ptr b4) (by kernel_rfl) (by kernel_rfl) (by kernel_rfl) (by kernel_rfl) (fun j wx ρ hC h0 hc => fldW rfl ρ wx h0) ?_
      refine wpG_runU1 (x := .tmp 45) 0 (ptr b4) (.int .u32 (a : Int)) (by kernel_rfl) (by kernel_rfl) (by kernel_rfl) (by kernel_rfl) (by kernel_rfl) (by kernel_rfl) (fun j wx ρ hj hC h0 hc => ?_) ?_
      · obtain rfl : j = 0 := by omega
        subst hC
        simp [go_sem, h0, CM7.out.2]
      refine wpG_op 0 (.tuple #[]) _ (.inl rfl) (by kernel_rfl) (by kernel_rfl) (by kernel_rfl) (by kernel_rfl) (by kernel_rfl) (fun wx hC => ⟨wz, by subst hC; exact del_E (m := .map (some bm)) (k := .int .u32 (a : Int)) rfl (by kernel_rfl) (by kernel_rfl) EZ.out, rfl⟩) ?_
      refine wpG_end (fun w8 hw8 => ?_)
      obtain rfl : w8 = wz := hw8
      simp only [setL, List.set_cons_zero, List.set_cons_succ]
      have RF : Hid (w8.rangeAt b4 0 F) := fun j u hu => by rw [Nat.zero_add]; exact (kz.cellV 4 rfl j hu).1
      have ws := wr_store kz 5 rfl ZL.out F FL.out
      obtain ⟨W9, hW9⟩ : ∃ W, W = w8.setCells b 0 F.toArray.toList := ⟨_, rfl⟩
      rw [← hW9] at ws
      have TH9 := Lib.hid ws.1
      have H9 := Lib.hid ws.2
      have HW9 := Lib.hid hW9
      clear ws hW9 kz H7 CM CM7 LK ez EZ
      go_wp2_with (first
        | (refine wpList_val rfl (load_wr F FL.out rfl _ (b := b4) (k := 0) RF.out rfl) ?_)
        | (refine wpList_store_mid rfl 38 (.tmp 2) (.tmp 47) rfl b 0 F.toArray rfl rfl TH9.out IW.out FO.out ?_; rw [← HW9.out]))
      refine bodyPost_ret (results_cell_two rfl _ _ b 38 _ (0, 0) _ _ rfl rfl (H9.out.rowV 5 rfl) Try.underlying38 rfl (info_wr F FL.out)) rfl ?_
      refine ⟨rfl, ?_⟩
      have h := H9.out
      simp only [List.set_cons_zero, List.set_cons_succ] at h
      exact CLS.out _ _ _ _ (fun h0 => absurd h0 hn0) h
end
end Qua
end Go.Proofs.Ytepbdjgfaljbgaa

end
section
namespace Go.Proofs.Ytepbdjgfaljbgaa
open Go.RowKit Go.Own
namespace Qua
open Go.QueM Byt Que
theorem fldW1 {o : Oper} {X : Operand} (ho : o.op = .fieldAddr 38 X 1) {p : Nat} (ρ : Operand → Value) (w : World) (h0 : ρ X = ptr p) : (execOp ρ o).run Try.prog w = .ok (.value (.pointer (some ⟨p, 1, none⟩))) w := by
  simp [execOp, ho, h0, go_sem, add_of]
section
variable {B : Nat} {w0 w : World} {Ps : List Asn} {p : Nat} {q : Q} {N : Nat}
set_option maxRecDepth 10000 in
set_option maxHeartbeats 12800000 in
theorem load_any (L : List Wr) (next : Nat) (ao : Option Addr) (n c : Nat) (H : Own.St B w0 w (RowW (.slice ao n c) L n :: Ps)) (hl : L.length = n) (hn : n ≤ 10000) (hf : ∀ r ∈ L, Fits r) (hx : next < 18446744073709551616) :
    Calls Try.prog 19 #[.slice ao n c, .int .u64 (next : Int)] w fun e w' => if loadB L next = true then ∃ p, e = .returned (.tuple #[ptr p, errQ 0]) ∧ Own.St B w0 w' (A p ⟨L, next⟩ :: RowW (.slice ao n c) L n :: Ps) else e = .returned (.tuple #[.pointer none, errQ 1]) ∧ Own.St B w0 w' (RowW (.slice ao n c) L n :: Ps) := by
  obtain ⟨X, hX⟩ : ∃ X, X = loadB L next := ⟨_, rfl⟩
  rw [← hX]
  unfold loadB at hX
  have H0 := Lib.hid H
  have HL := Lib.hid hl
  have HF := Lib.hid hf
  have HX := Lib.hid hX
  clear hX H hl hf
  by_cases hnx : next = 0
  · subst hnx
    have hXf : X = false := by rw [HX.out]; rfl
    subst hXf
    clear HX
    go_enter Try.func19, Try.ntmps19
    go_wp2_with (fail)
    go_ret2
    exact ⟨rfl, H0.out⟩
  have hnz : ((next : Int) == 0) = false := by simp; omega
  go_enter Try.func19, Try.ntmps19
  go_wp2_with (fail)
  refine (new_any H0.out).mono ?_
  rintro e w1 ⟨p, rfl, h⟩
  have H1 := Lib.hid h
  clear h H0
  go_wp2_with (fail)
  go_loopw [14] (fun v14 wr => ∃ last i : Nat, last < 18446744073709551616 ∧ i ≤ n ∧ v14 = .int .i64 (i : Int) ∧ Own.St B w0 wr (A p ⟨L.take i, last + 1⟩ :: RowW (.slice ao n c) L n :: Ps) ∧ riseB next 0 L = riseB next last (L.drop i)) (fun v14 _ => n - (intOf v14).toNat)
  case atStart => exact ⟨0, 0, by decide, Nat.zero_le _, rfl, H1.out, rfl⟩
  case round =>
    obtain ⟨last, i, hla, hin, rfl, hst, hr⟩ := hrel
    have H := Lib.hid hst
    have HR := Lib.hid hr
    clear hst hr H1
    by_cases hi : (i : Int) < (n : Int)
    · have hin2 : i < n := by omega
      have hil : i < L.length := by rw [HL.out]; exact hin2
      obtain ⟨g, hg, _, _⟩ := H.out.rowAt 1 rfl (i * 36) (by omega)
      subst hg
      obtain ⟨F, hF⟩ : ∃ F, F = at_ L i := ⟨_, rfl⟩
      have hFf : Fits F := by rw [hF]; exact HF.out _ (at_mem hil)
      obtain ⟨cs, hcs⟩ : ∃ cs, cs = wrC F := ⟨_, rfl⟩
      have CL : Hid (cs.length = 36) := by show _ = 36; rw [hcs]; exact wrC_len _ hFf.sum
      have CO : Hid (∀ u ∈ cs, u.oneCell' = true) := by show ∀ u ∈ cs, _; rw [hcs]; exact wrC_one F
      have R0 : Hid (wr.rangeAt g (i * 36) cs) := by
        intro k u hu
        have hk : k < 36 := by rw [← CL.out]; exact (List.getElem?_eq_some_iff.1 hu).1
        obtain ⟨g', hg', ⟨u', h1, h2⟩, _⟩ := H.out.rowAt 1 rfl (i * 36 + k) (by omega)
        cases hg'
        rw [flat_at wrC 36 L (wrs_len L HF.out) i _ (at_get hil) k hk, ← hF, ← hcs, hu] at h1
        cases h1
        exact h2
      have hra := rise_at next L hil last
      rw [← hF] at hra
      have HRA := Lib.hid hra
      obtain ⟨sq, hsq⟩ : ∃ s, s = F.seq := ⟨_, rfl⟩
      have hsqb : sq < 18446744073709551616 := by rw [hsq]; exact hFf.seq
      have S1 : Hid (cs[1]? = some (.int .u64 (sq : Int))) := by show _ = _; rw [hcs, hsq]; rfl
      obtain ⟨rt, hrt⟩ : ∃ b, b = rightW F := ⟨_, rfl⟩
      have CV : Hid (∀ wx, Calls Try.prog 41 #[.agg cs.toArray] wx fun e w' => e = .returned (.bool rt) ∧ Below wx.heap.size wx w') := by
        rw [hcs, hrt]
        exact valid_any F hFf.sum
      rw [← hsq, ← hrt] at HRA
      have e2 : (L.take i).length = i := by rw [List.length_take]; omega
      have e1 : L.take (i + 1) = L.take i ++ [F] := by rw [hF]; exact take_at hil
      have CP : Hid (∀ wx (Qs : List Asn), Own.St B w0 wx (A p ⟨L.take i, last + 1⟩ :: Qs) → Calls Try.prog 42 #[ptr p, .agg cs.toArray] wx fun e w' => e = .returned (.tuple #[]) ∧ Own.St B w0 w' (A p ⟨L.take (i + 1), sq + 1⟩ :: Qs)) := by
        rw [hcs, hsq, e1]
        exact fun wx Qs h => put_any h (fun r hr => HF.out r (List.mem_of_mem_take hr)) (by show (L.take i).length ≤ _; rw [e2]; omega) F hFf
      have RBH : Hid (∀ (b8 : Nat) (w3 : World), Own.St B w0 w3 (AVals b8 38 cs :: A p ⟨L.take i, last + 1⟩ :: RowW (.slice (some ⟨g, 0, none⟩) n c) L n :: Ps) → ∀ wx, Below w3.heap.size w3 wx → wx.rangeAt b8 0 cs ∧ wx.cell? ⟨b8, 1, none⟩ = some (.int .u64 (sq : Int)) ∧ wx.cell? ⟨p, 0, none⟩ = some (.int .u64 (last : Int))) := by
        show ∀ (b8 : Nat) (w3 : World), _
        intro b8 w3 h wx hwx
        have h2 := h.later hwx
        obtain ⟨v, m, h3⟩ := A_open h2.swap2
        exact ⟨h2.boxRange 0 rfl, (h2.cellV 0 rfl 1 S1.out).1, (h3.cellV 0 rfl 0 rfl).1⟩
      clear hF hFf hcs hra hsq hrt hil e1 e2
      by_cases hbad : rt = false ∨ sq ≤ last ∨ next ≤ sq
      · have hXf : X = false := by
          rw [HX.out, HR.out, HRA.out]
          rcases hbad with h | h | h
          · rw [h]; simp
          · rw [decide_eq_false (show ¬ last < sq by omega)]; simp
          · rw [decide_eq_false (show ¬ sq < next by omega)]; simp
        subst hXf
        cases rt
        · clear hbad
          go_wp2_with (first
            | (refine wpList_val rfl (load_wr cs CL.out rfl _ (b := g) (k := i * 36) R0.out rfl) ?_)
            | (refine wpList_box2 boxy_wr rfl rfl rfl (.tmp 8) (.tmp 17) rfl rfl cs (fun _ => rfl) (fun _ => rfl) CL.out CO.out H.out ?_; intro b8 w3 h; have H3 := Lib.hid h; have RB := Lib.hid (RBH.out _ _ h); clear h))
          go_simp
          refine wp_lax_list (by kernel_rfl) (by kernel_rfl) (by kernel_rfl) ?_
          refine wpL_run1 (x := .tmp 8) (ptr b8) (.agg cs.toArray) (by kernel_rfl) (by kernel_rfl) (by kernel_rfl) (by kernel_rfl) (by kernel_rfl) (fun wx ρ hwx h0 hc => load_wr cs CL.out rfl ρ (RB.out wx hwx).1 h0) ?_
          refine wpL_fn (.bool false) [.agg cs.toArray] rfl (by kernel_rfl) (by kernel_rfl) (by kernel_rfl) (by kernel_rfl) (fun _ _ => by simp [go_sem]) (fun wx hwx => CV.out wx) ?_
          refine wpL_run1 (x := .tmp 19) (.bool false) (.bool true) (by kernel_rfl) (by kernel_rfl) (by kernel_rfl) (by kernel_rfl) (by kernel_rfl) (fun wx ρ hwx h0 hc => by simp [go_sem, h0]) ?_
          refine wpL_move (.bool true) rfl (by kernel_rfl) (by kernel_rfl) (by kernel_rfl) (by kernel_rfl) ?_
          refine wpL_skip (by kernel_rfl) (by kernel_rfl) ?_
          refine wpL_skip (by kernel_rfl) (by kernel_rfl) ?_
          refine wpL_skip (by kernel_rfl) (by kernel_rfl) ?_
          refine wpL_skip (by kernel_rfl) (by kernel_rfl) ?_
          refine wpL_skip (by kernel_rfl) (by kernel_rfl) ?_
          refine wpL_skip (by kernel_rfl) (by kernel_rfl) ?_
          refine wpL_skip (by kernel_rfl) (by kernel_rfl) ?_
          refine wpL_run2 (x := .tmp 21) (y := .tmp 28) (.bool true) (undef) (.bool true) (by kernel_rfl) (by kernel_rfl) (by kernel_rfl) (by kernel_rfl) (by kernel_rfl) (by kernel_rfl) (fun wx ρ hwx h0 h1 hc => by simp [go_sem, h0, h1, hc]) ?_
          refine wpL_move (.bool true) rfl (by kernel_rfl) (by kernel_rfl) (by kernel_rfl) (by kernel_rfl) ?_
          refine wpL_skip (by kernel_rfl) (by kernel_rfl) ?_
          refine wpL_skip (by kernel_rfl) (by kernel_rfl) ?_
          refine wpL_skip (by kernel_rfl) (by kernel_rfl) ?_
          refine wpL_skip (by kernel_rfl) (by kernel_rfl) ?_
          refine wpL_run2 (x := .tmp 30) (y := .tmp 34) (.bool true) (undef) (.bool true) (by kernel_rfl) (by kernel_rfl) (by kernel_rfl) (by kernel_rfl) (by kernel_rfl) (by kernel_rfl) (fun wx ρ hwx h0 h1 hc => by simp [go_sem, h0, h1, hc]) ?_
          refine wpL_end (by kernel_rfl) (fun w4 hw4 => ?_)
          simp only [FinL, setL, List.set_cons_zero, List.set_cons_succ]
          have H4 := Lib.hid (H3.out.later hw4)
          clear hw4 RB H3 RBH
          go_wp2_with (fail)
          go_ret2
          exact ⟨rfl, (H4.out.drop 2)⟩
        · by_cases hle : (sq : Int) ≤ (last : Int)
          · clear hbad
            go_wp2_with (first
              | (refine wpList_val rfl (load_wr cs CL.out rfl _ (b := g) (k := i * 36) R0.out rfl) ?_)
              | (refine wpList_box2 boxy_wr rfl rfl rfl (.tmp 8) (.tmp 17) rfl rfl cs (fun _ => rfl) (fun _ => rfl) CL.out CO.out H.out ?_; intro b8 w3 h; have H3 := Lib.hid h; have RB := Lib.hid (RBH.out _ _ h); clear h))
            go_simp
            refine wp_lax_list (by kernel_rfl) (by kernel_rfl) (by kernel_rfl) ?_
            refine wpL_run1 (x := .tmp 8) (ptr b8) (.agg cs.toArray) (by kernel_rfl) (by kernel_rfl) (by kernel_rfl) (by kernel_rfl) (by kernel_rfl) (fun wx ρ hwx h0 hc => load_wr cs CL.out rfl ρ (RB.out wx hwx).1 h0) ?_
            refine wpL_fn (.bool true) [.agg cs.toArray] rfl (by kernel_rfl) (by kernel_rfl) (by kernel_rfl) (by kernel_rfl) (fun _ _ => by simp [go_sem]) (fun wx hwx => CV.out wx) ?_
            refine wpL_run1 (x := .tmp 19) (.bool true) (.bool false) (by kernel_rfl) (by kernel_rfl) (by kernel_rfl) (by kernel_rfl) (by kernel_rfl) (fun wx ρ hwx h0 hc => by simp [go_sem, h0]) ?_
            refine wpL_move (.bool false) rfl (by kernel_rfl) (by kernel_rfl) (by kernel_rfl) (by kernel_rfl) ?_
            refine wpL_run1 (x := .tmp 8) (ptr b8) (.pointer (some ⟨b8, 1, none⟩)) (by kernel_rfl) (by kernel_rfl) (by kernel_rfl) (by kernel_rfl) (by kernel_rfl) (fun wx ρ hwx h0 hc => fldW1 rfl ρ wx h0) ?_
            refine wpL_run1 (x := .tmp 22) (.pointer (some ⟨b8, 1, none⟩)) (.int .u64 (sq : Int)) (by kernel_rfl) (by kernel_rfl) (by kernel_rfl) (by kernel_rfl) (by kernel_rfl) (fun wx ρ hwx h0 hc => by simp [go_sem, h0, (RB.out wx hwx).2.1]) ?_
            refine wpL_move (ptr p) rfl (by kernel_rfl) (by kernel_rfl) (by kernel_rfl) (by kernel_rfl) ?_
            refine wpL_run1 (x := .tmp 24) (ptr p) (ptr p) (by kernel_rfl) (by kernel_rfl) (by kernel_rfl) (by kernel_rfl) (by kernel_rfl) (fun wx ρ hwx h0 hc => nilC rfl ρ wx h0) ?_
            refine wpL_run1 (x := .tmp 25) (ptr p) (.pointer (some ⟨p, 0, none⟩)) (by kernel_rfl) (by kernel_rfl) (by kernel_rfl) (by kernel_rfl) (by kernel_rfl) (fun wx ρ hwx h0 hc => fldQ rfl (by decide) ρ wx h0) ?_
            refine wpL_run1 (x := .tmp 26) (.pointer (some ⟨p, 0, none⟩)) (.int .u64 (last : Int)) (by kernel_rfl) (by kernel_rfl) (by kernel_rfl) (by kernel_rfl) (by kernel_rfl) (fun wx ρ hwx h0 hc => by simp [go_sem, h0, (RB.out wx hwx).2.2]) ?_
            refine wpL_run2 (x := .tmp 23) (y := .tmp 27) (.int .u64 (sq : Int)) (.int .u64 (last : Int)) (.bool true) (by kernel_rfl) (by kernel_rfl) (by kernel_rfl) (by kernel_rfl) (by kernel_rfl) (by kernel_rfl) (fun wx ρ hwx h0 h1 hc => by simp [h0, h1, go_sem]; omega) ?_
            refine wpL_run2 (x := .tmp 21) (y := .tmp 28) (.bool false) (.bool true) (.bool true) (by kernel_rfl) (by kernel_rfl) (by kernel_rfl) (by kernel_rfl) (by kernel_rfl) (by kernel_rfl) (fun wx ρ hwx h0 h1 hc => by simp [go_sem, h0, h1, hc]) ?_
            refine wpL_move (.bool true) rfl (by kernel_rfl) (by kernel_rfl) (by kernel_rfl) (by kernel_rfl) ?_
            refine wpL_skip (by kernel_rfl) (by kernel_rfl) ?_
            refine wpL_skip (by kernel_rfl) (by kernel_rfl) ?_
            refine wpL_skip (by kernel_rfl) (by kernel_rfl) ?_
            refine wpL_skip (by kernel_rfl) (by kernel_rfl) ?_
            refine wpL_run2 (x := .tmp 30) (y := .tmp 34) (.bool true) (undef) (.bool true) (by kernel_rfl) (by kernel_rfl) (by kernel_rfl) (by kernel_rfl) (by kernel_rfl) (by kernel_rfl) (fun wx ρ hwx h0 h1 hc => by simp [go_sem, h0, h1, hc]) ?_
            refine wpL_end (by kernel_rfl) (fun w4 hw4 => ?_)
            simp only [FinL, setL, List.set_cons_zero, List.set_cons_succ]
            have H4 := Lib.hid (H3.out.later hw4)
            clear hw4 RB H3 RBH
            go_wp2_with (fail)
            go_ret2
            exact ⟨rfl, (H4.out.drop 2)⟩
          · have hge : (sq : Int) ≥ (next : Int) := by
              rcases hbad with h | h | h
              · cases h
              · omega
              · omega
            clear hbad
            go_wp2_with (first
              | (refine wpList_val rfl (load_wr cs CL.out rfl _ (b := g) (k := i * 36) R0.out rfl) ?_)
              | (refine wpList_box2 boxy_wr rfl rfl rfl (.tmp 8) (.tmp 17) rfl rfl cs (fun _ => rfl) (fun _ => rfl) CL.out CO.out H.out ?_; intro b8 w3 h; have H3 := Lib.hid h; have RB := Lib.hid (RBH.out _ _ h); clear h))
            go_simp
            refine wp_lax_list (by kernel_rfl) (by kernel_rfl) (by kernel_rfl) ?_
            refine wpL_run1 (x := .tmp 8) (ptr b8) (.agg cs.toArray) (by kernel_rfl) (by kernel_rfl) (by kernel_rfl) (by kernel_rfl) (by kernel_rfl) (fun wx ρ hwx h0 hc => load_wr cs CL.out rfl ρ (RB.out wx hwx).1 h0) ?_
            refine wpL_fn (.bool true) [.agg cs.toArray] rfl (by kernel_rfl) (by kernel_rfl) (by kernel_rfl) (by kernel_rfl) (fun _ _ => by simp [go_sem]) (fun wx hwx => CV.out wx) ?_
            refine wpL_run1 (x := .tmp 19) (.bool true) (.bool false) (by kernel_rfl) (by kernel_rfl) (by kernel_rfl) (by kernel_rfl) (by kernel_rfl) (fun wx ρ hwx h0 hc => by simp [go_sem, h0]) ?_
            refine wpL_move (.bool false) rfl (by kernel_rfl) (by kernel_rfl) (by kernel_rfl) (by kernel_rfl) ?_
            refine wpL_run1 (x := .tmp 8) (ptr b8) (.pointer (some ⟨b8, 1, none⟩)) (by kernel_rfl) (by kernel_rfl) (by kernel_rfl) (by kernel_rfl) (by kernel_rfl) (fun wx ρ hwx h0 hc => fldW1 rfl ρ wx h0) ?_
            refine wpL_run1 (x := .tmp 22) (.pointer (some ⟨b8, 1, none⟩)) (.int .u64 (sq : Int)) (by kernel_rfl) (by kernel_rfl) (by kernel_rfl) (by kernel_rfl) (by kernel_rfl) (fun wx ρ hwx h0 hc => by simp [go_sem, h0, (RB.out wx hwx).2.1]) ?_
            refine wpL_move (ptr p) rfl (by kernel_rfl) (by kernel_rfl) (by kernel_rfl) (by kernel_rfl) ?_
            refine wpL_run1 (x := .tmp 24) (ptr p) (ptr p) (by kernel_rfl) (by kernel_rfl) (by kernel_rfl) (by kernel_rfl) (by kernel_rfl) (fun wx ρ hwx h0 hc => nilC rfl ρ wx h0) ?_
            refine wpL_run1 (x := .tmp 25) (ptr p) (.pointer (some ⟨p, 0, none⟩)) (by kernel_rfl) (by kernel_rfl) (by kernel_rfl) (by kernel_rfl) (by kernel_rfl) (fun wx ρ hwx h0 hc => fldQ rfl (by decide) ρ wx h0) ?_
            refine wpL_run1 (x := .tmp 26) (.pointer (some ⟨p, 0, none⟩)) (.int .u64 (last : Int)) (by kernel_rfl) (by kernel_rfl) (by kernel_rfl) (by kernel_rfl) (by kernel_rfl) (fun wx ρ hwx h0 hc => by simp [go_sem, h0, (RB.out wx hwx).2.2]) ?_
            refine wpL_run2 (x := .tmp 23) (y := .tmp 27) (.int .u64 (sq : Int)) (.int .u64 (last : Int)) (.bool false) (by kernel_rfl) (by kernel_rfl) (by kernel_rfl) (by kernel_rfl) (by kernel_rfl) (by kernel_rfl) (fun wx ρ hwx h0 h1 hc => by simp [h0, h1, go_sem]; omega) ?_
            refine wpL_run2 (x := .tmp 21) (y := .tmp 28) (.bool false) (.bool false) (.bool false) (by kernel_rfl) (by kernel_rfl) (by kernel_rfl) (by kernel_rfl) (by kernel_rfl) (by kernel_rfl) (fun wx ρ hwx h0 h1 hc => by simp [go_sem, h0, h1, hc]) ?_
            refine wpL_move (.bool false) rfl (by kernel_rfl) (by kernel_rfl) (by kernel_rfl) (by kernel_rfl) ?_
            refine wpL_run1 (x := .tmp 8) (ptr b8) (.pointer (some ⟨b8, 1, none⟩)) (by kernel_rfl) (by kernel_rfl) (by kernel_rfl) (by kernel_rfl) (by kernel_rfl) (fun wx ρ hwx h0 hc => fldW1 rfl ρ wx h0) ?_
            refine wpL_run1 (x := .tmp 31) (.pointer (some ⟨b8, 1, none⟩)) (.int .u64 (sq : Int)) (by kernel_rfl) (by kernel_rfl) (by kernel_rfl) (by kernel_rfl) (by kernel_rfl) (fun wx ρ hwx h0 hc => by simp [go_sem, h0, (RB.out wx hwx).2.1]) ?_
            refine wpL_move (.int .u64 (next : Int)) rfl (by kernel_rfl) (by kernel_rfl) (by kernel_rfl) (by kernel_rfl) ?_
            refine wpL_run2 (x := .tmp 32) (y := .tmp 33) (.int .u64 (sq : Int)) (.int .u64 (next : Int)) (.bool true) (by kernel_rfl) (by kernel_rfl) (by kernel_rfl) (by kernel_rfl) (by kernel_rfl) (by kernel_rfl) (fun wx ρ hwx h0 h1 hc => by simp [h0, h1, go_sem]; omega) ?_
            refine wpL_run2 (x := .tmp 30) (y := .tmp 34) (.bool false) (.bool true) (.bool true) (by kernel_rfl) (by kernel_rfl) (by kernel_rfl) (by kernel_rfl) (by kernel_rfl) (by kernel_rfl) (fun wx ρ hwx h0 h1 hc => by simp [go_sem, h0, h1, hc]) ?_
            refine wpL_end (by kernel_rfl) (fun w4 hw4 => ?_)
            simp only [FinL, setL, List.set_cons_zero, List.set_cons_succ]
            have H4 := Lib.hid (H3.out.later hw4)
            clear hw4 RB H3 RBH
            go_wp2_with (fail)
            go_ret2
            exact ⟨rfl, (H4.out.drop 2)⟩
      · obtain ⟨hrt, h1, h2⟩ : rt = true ∧ last < sq ∧ sq < next := ⟨by cases rt <;> simp at hbad ⊢, by omega, by omega⟩
        subst hrt
        have hle : ¬ (sq : Int) ≤ (last : Int) := by omega
        have hge : ¬ (sq : Int) ≥ (next : Int) := by omega
        have HRN : Hid (riseB next 0 L = riseB next sq (L.drop (i + 1))) := by
          show _ = _
          rw [HR.out, HRA.out, decide_eq_true h1, decide_eq_true h2]
          simp
        clear hbad HR HRA
        go_wp2_with (first
          | (refine wpList_val rfl (load_wr cs CL.out rfl _ (b := g) (k := i * 36) R0.out rfl) ?_)
          | (refine wpList_box2 boxy_wr rfl rfl rfl (.tmp 8) (.tmp 17) rfl rfl cs (fun _ => rfl) (fun _ => rfl) CL.out CO.out H.out ?_; intro b8 w3 h; have H3 := Lib.hid h; have RB := Lib.hid (RBH.out _ _ h); clear h))
        go_simp
        refine wp_lax_list (by kernel_rfl) (by kernel_rfl) (by kernel_rfl) ?_
        refine wpL_run1 (x := .tmp 8) (ptr b8) (.agg cs.toArray) (by kernel_rfl) (by kernel_rfl) (by kernel_rfl) (by kernel_rfl) (by kernel_rfl) (fun wx ρ hwx h0 hc => load_wr cs CL.out rfl ρ (RB.out wx hwx).1 h0) ?_
        refine wpL_fn (.bool true) [.agg cs.toArray] rfl (by kernel_rfl) (by kernel_rfl) (by kernel_rfl) (by kernel_rfl) (fun _ _ => by simp [go_sem]) (fun wx hwx => CV.out wx) ?_
        refine wpL_run1 (x := .tmp 19) (.bool true) (.bool false) (by kernel_rfl) (by kernel_rfl) (by kernel_rfl) (by kernel_rfl) (by kernel_rfl) (fun wx ρ hwx h0 hc => by simp [go_sem, h0]) ?_
        refine wpL_move (.bool false) rfl (by kernel_rfl) (by kernel_rfl) (by kernel_rfl) (by kernel_rfl) ?_
        refine wpL_run1 (x := .tmp 8) (ptr b8) (.pointer (some ⟨b8, 1, none⟩)) (by kernel_rfl) (by kernel_rfl) (by kernel_rfl) (by kernel_rfl) (by kernel_rfl) (fun wx ρ hwx h0 hc => fldW1 rfl ρ wx h0) ?_
        refine wpL_run1 (x := .tmp 22) (.pointer (some ⟨b8, 1, none⟩)) (.int .u64 (sq : Int)) (by kernel_rfl) (by kernel_rfl) (by kernel_rfl) (by kernel_rfl) (by kernel_rfl) (fun wx ρ hwx h0 hc => by simp [go_sem, h0, (RB.out wx hwx).2.1]) ?_
        refine wpL_move (ptr p) rfl (by kernel_rfl) (by kernel_rfl) (by kernel_rfl) (by kernel_rfl) ?_
        refine wpL_run1 (x := .tmp 24) (ptr p) (ptr p) (by kernel_rfl) (by kernel_rfl) (by kernel_rfl) (by kernel_rfl) (by kernel_rfl) (fun wx ρ hwx h0 hc => nilC rfl ρ wx h0) ?_
        refine wpL_run1 (x := .tmp 25) (ptr p) (.pointer (some ⟨p, 0, none⟩)) (by kernel_rfl) (by kernel_rfl) (by kernel_rfl) (by kernel_rfl) (by kernel_rfl) (fun wx ρ hwx h0 hc => fldQ rfl (by decide) ρ wx h0) ?_
        refine wpL_run1 (x := .tmp 26) (.pointer (some ⟨p, 0, none⟩)) (.int .u64 (last : Int)) (by kernel_rfl) (by kernel_rfl) (by kernel_rfl) (by kernel_rfl) (by kernel_rfl) (fun wx ρ hwx h0 hc => by simp [go_sem, h0, (RB.out wx hwx).2.2]) ?_
        refine wpL_run2 (x := .tmp 23) (y := .tmp 27) (.int .u64 (sq : Int)) (.int .u64 (last : Int)) (.bool false) (by kernel_rfl) (by kernel_rfl) (by kernel_rfl) (by kernel_rfl) (by kernel_rfl) (by kernel_rfl) (fun wx ρ hwx h0 h1 hc => by simp [h0, h1, go_sem]; omega) ?_
        refine wpL_run2 (x := .tmp 21) (y := .tmp 28) (.bool false) (.bool false) (.bool false) (by kernel_rfl) (by kernel_rfl) (by kernel_rfl) (by kernel_rfl) (by kernel_rfl) (by kernel_rfl) (fun wx ρ hwx h0 h1 hc => by simp [go_sem, h0, h1, hc]) ?_
        refine wpL_move (.bool false) rfl (by kernel_rfl) (by kernel_rfl) (by kernel_rfl) (by kernel_rfl) ?_
        refine wpL_run1 (x := .tmp 8) (ptr b8) (.pointer (some ⟨b8, 1, none⟩)) (by kernel_rfl) (by kernel_rfl) (by kernel_rfl) (by kernel_rfl) (by kernel_rfl) (fun wx ρ hwx h0 hc => fldW1 rfl ρ wx h0) ?_
        refine wpL_run1 (x := .tmp 31) (.pointer (some ⟨b8, 1, none⟩)) (.int .u64 (sq : Int)) (by kernel_rfl) (by kernel_rfl) (by kernel_rfl) (by kernel_rfl) (by kernel_rfl) (fun wx ρ hwx h0 hc => by simp [go_sem, h0, (RB.out wx hwx).2.1]) ?_
        refine wpL_move (.int .u64 (next : Int)) rfl (by kernel_rfl) (by kernel_rfl) (by kernel_rfl) (by kernel_rfl) ?_
        refine wpL_run2 (x := .tmp 32) (y := .tmp 33) (.int .u64 (sq : Int)) (.int .u64 (next : Int)) (.bool false) (by kernel_rfl) (by kernel_rfl) (by kernel_rfl) (by kernel_rfl) (by kernel_rfl) (by kernel_rfl) (fun wx ρ hwx h0 h1 hc => by simp [h0, h1, go_sem]; omega) ?_
        refine wpL_run2 (x := .tmp 30) (y := .tmp 34) (.bool false) (.bool false) (.bool false) (by kernel_rfl) (by kernel_rfl) (by kernel_rfl) (by kernel_rfl) (by kernel_rfl) (by kernel_rfl) (fun wx ρ hwx h0 h1 hc => by simp [go_sem, h0, h1, hc]) ?_
        refine wpL_end (by kernel_rfl) (fun w4 hw4 => ?_)
        simp only [FinL, setL, List.set_cons_zero, List.set_cons_succ]
        have H4 := Lib.hid (H3.out.later hw4)
        have R4 := Lib.hid (H4.out.boxRange 0 rfl)
        clear hw4 RB H3 RBH
        go_wp2_with (refine wpList_val rfl (load_wr cs CL.out rfl _ (b := b8) (k := 0) R4.out rfl) ?_)
        refine (CP.out _ _ H4.out.swap2).mono ?_
        rintro e w5 ⟨rfl, h5⟩
        have H5 := Lib.hid h5.drop2
        clear h5 CP
        go_wp2_with (fail)
        go_roundw
        case rel => exact ⟨sq, i + 1, hsqb, by omega, by go_num, H5.out, HRN.out⟩
        case measure => simp [intOf]; omega
    · have hi2 : i = n := by omega
      subst hi2
      have HRR : Hid (riseB next 0 L = true) := by
        show _ = _
        rw [HR.out, ← HL.out, List.drop_length]
        rfl
      have hXt : X = true := by rw [HX.out, HRR.out]; simp [hnx]
      subst hXt
      have ht : L.take i = L := by rw [← HL.out, List.take_length]
      obtain ⟨v, m, h3⟩ := A_open H.out
      obtain ⟨d1, d2⟩ := h3.cellV 0 rfl 0 rfl
      obtain ⟨x, hx1⟩ : ∃ x, x = next - 1 := ⟨_, rfl⟩
      have hsub : (next : Int) - 1 = (x : Int) := by omega
      have hsub2 : ((next : Int) - 1) % 18446744073709551616 = (x : Int) := by omega
      have hw64 : IntKind.u64.wrap ((next : Int) - 1) = (x : Int) := by simp [IntKind.wrap, IntKind.signed, IntKind.bits]; omega
      have h4 := h3.storeV 0 rfl 0 (.int .u64 (x : Int))
      simp only [List.set_cons_zero] at h4
      have h5 : Own.St B w0 (wr.setCell ⟨p, 0, none⟩ (.int .u64 (x : Int))) (A p ⟨L, next⟩ :: RowW (.slice ao i c) L i :: Ps) := by
        refine A_close (q := ⟨L, next⟩) (v := v) (m := m) ?_
        rw [show (⟨L, next⟩ : Q).next - 1 = x from hx1.symm]
        rw [ht] at h4
        exact h4
      have H5 := Lib.hid h5
      clear h3 h4 h5 HR HRR HX ht hx1 H
      go_wp2_with (fail)
      go_ret2
      exact ⟨p, rfl, H5.out⟩
end
end Qua
end Go.Proofs.Ytepbdjgfaljbgaa

end
section
namespace Go.Proofs.Ytepbdjgfaljbgaa
open Go.RowKit Go.Own
namespace Qua
open Go.QueM Byt Que
theorem nil_len (w : World) : Calls Try.prog 27 #[.pointer none] w fun e w' => e = .returned (.int .i64 0) ∧ Below w.heap.size w w' := by
  go_enter Try.func27, Try.ntmps27
  go_wp2
  go_ret
  exact ⟨rfl, Below.refl _ _⟩
theorem nil_next (w : World) : Calls Try.prog 25 #[.pointer none] w fun e w' => e = .returned (.int .u64 0) ∧ Below w.heap.size w w' := by
  go_enter Try.func25, Try.ntmps25
  go_wp2
  go_ret
  exact ⟨rfl, Below.refl _ _⟩
theorem nil_all (w : World) : Calls Try.prog 23 #[.pointer none] w fun e w' => ∃ ao cap, e = .returned (.slice ao 0 cap) ∧ Below w.heap.size w w' := by
  go_enter Try.func23, Try.ntmps23
  go_wp2
  go_ret
  exact ⟨none, 0, rfl, Below.refl _ _⟩
theorem nil_push (r : Wr) (w : World) : Calls Try.prog 16 #[.pointer none, wrV r] w fun e w' => e = .returned (.tuple #[.int .u64 0, errQ 2]) ∧ Below w.heap.size w w' := by
  obtain ⟨cs, hcs⟩ : ∃ cs, cs = wrC r := ⟨_, rfl⟩
  show Calls Try.prog _ #[_, .agg (wrC r).toArray] w _
  rw [← hcs]
  have HB := Lib.hid ((Own.St.start w).boxV 38 cs).below
  go_enter Try.func16, Try.ntmps16
  go_wp2
  go_ret2
  exact ⟨rfl, by rw [← hcs]; exact HB.out⟩
set_option maxHeartbeats 1600000 in
theorem nil_last (a : Nat) (w : World) : Calls Try.prog 21 #[.pointer none, .int .u32 (a : Int)] w fun e w' => e = .returned (.tuple #[wrV zeroW, .bool false]) ∧ Below w.heap.size w w' := by
  obtain ⟨z, hz⟩ : ∃ z, z = zW := ⟨_, rfl⟩
  have ZL : Hid (z.length = 36) := by show z.length = 36; rw [hz]; exact zW_len
  have ZP : Hid ((Try.prog.info? 38).bind (·.zero) = some (.agg z.toArray)) := by rw [hz]; exact zero_wr
  have ZB : Hid (Try.prog.built 38 [] = some z.toArray) := by rw [hz]; exact built_wr
  have ZO : Hid (z.toArray.all (·.oneCell') = true) := by show _ = true; rw [hz]; exact all_oneCell_toArray (wrC_one _)
  have hbox := (Own.St.start w).boxV 38 z
  obtain ⟨b, hb⟩ : ∃ b, b = w.heap.size := ⟨_, rfl⟩
  obtain ⟨W1, hW1⟩ : ∃ W, W = w.alloc (.cells z.toArray 38) := ⟨_, rfl⟩
  rw [← hb, ← hW1] at hbox
  show Calls Try.prog _ _ w fun e w' => e = .returned (.tuple #[.agg zW.toArray, .bool false]) ∧ _
  rw [← hz, ← hb]
  have ws := wr_store hbox 0 rfl ZL.out z ZL.out
  obtain ⟨W2, hW2⟩ : ∃ W, W = W1.setCells b 0 z.toArray.toList := ⟨_, rfl⟩
  rw [← hW2] at ws
  have TH := Lib.hid ws.1
  have H2 := Lib.hid ws.2
  have HW2 := Lib.hid hW2
  have HB := Lib.hid hb
  have HW1 := Lib.hid hW1
  have IW := Lib.hid (info_wrA z ZL.out)
  clear ws hbox hb hW1 hW2 hz
  go_enter Try.func21, Try.ntmps21
  go_wp2_with (first
    | (refine Own.wpList_allocZ rfl 38 rfl z.toArray ZP.out ?_; rw [← HB.out, ← HW1.out])
    | (refine Own.wpList_built rfl 38 #[] rfl z.toArray ?_ ?_; · (simp only [List.map_toArray, List.map_nil, List.toList_toArray]; exact ZB.out))
    | (refine wpList_store_mid rfl 38 (.tmp 4) (.tmp 9) rfl b 0 z.toArray rfl rfl TH.out IW.out ZO.out ?_; rw [← HW2.out]))
  refine bodyPost_ret (results_cell_two rfl _ _ b 38 _ (0, 0) _ _ rfl rfl (H2.out.rowV 0 rfl) Try.underlying38 rfl (info_wr z ZL.out)) rfl ?_
  exact ⟨rfl, H2.out.below⟩
set_option maxHeartbeats 1600000 in
theorem nil_front (w : World) : Calls Try.prog 26 #[.pointer none] w fun e w' => e = .returned (.tuple #[wrV zeroW, .bool false]) ∧ Below w.heap.size w w' := by
  obtain ⟨z, hz⟩ : ∃ z, z = zW := ⟨_, rfl⟩
  have ZL : Hid (z.length = 36) := by show z.length = 36; rw [hz]; exact zW_len
  have ZP : Hid ((Try.prog.info? 38).bind (·.zero) = some (.agg z.toArray)) := by rw [hz]; exact zero_wr
  have ZB : Hid (Try.prog.built 38 [] = some z.toArray) := by rw [hz]; exact built_wr
  have ZO : Hid (z.toArray.all (·.oneCell') = true) := by show _ = true; rw [hz]; exact all_oneCell_toArray (wrC_one _)
  have hbox := (Own.St.start w).boxV 38 z
  obtain ⟨b, hb⟩ : ∃ b, b = w.heap.size := ⟨_, rfl⟩
  obtain ⟨W1, hW1⟩ : ∃ W, W = w.alloc (.cells z.toArray 38) := ⟨_, rfl⟩
  rw [← hb, ← hW1] at hbox
  show Calls Try.prog _ _ w fun e w' => e = .returned (.tuple #[.agg zW.toArray, .bool false]) ∧ _
  rw [← hz, ← hb]
  have HX := Lib.hid hbox
  have HB := Lib.hid hb
  have HW1 := Lib.hid hW1
  have IW := Lib.hid (info_wrA z ZL.out)
  clear hbox hb hW1 hz
  go_enter Try.func26, Try.ntmps26
  go_wp2_with (refine Own.wpList_allocZ rfl 38 rfl z.toArray ZP.out ?_; rw [← HB.out, ← HW1.out])
  refine (nil_len W1).mono ?_
  rintro e w2 ⟨rfl, h2⟩
  have ws := wr_store (HX.out.later h2) 0 rfl ZL.out z ZL.out
  obtain ⟨W2, hW2⟩ : ∃ W, W = w2.setCells b 0 z.toArray.toList := ⟨_, rfl⟩
  rw [← hW2] at ws
  have TH := Lib.hid ws.1
  have H2 := Lib.hid ws.2
  have HW2 := Lib.hid hW2
  clear ws hW2 h2 HX
  go_wp2_with (first
    | (refine Own.wpList_built rfl 38 #[] rfl z.toArray ?_ ?_; · (simp only [List.map_toArray, List.map_nil, List.toList_toArray]; exact ZB.out))
    | (refine wpList_store_mid rfl 38 (.tmp 2) (.tmp 7) rfl b 0 z.toArray rfl rfl TH.out IW.out ZO.out ?_; rw [← HW2.out]))
  refine bodyPost_ret (results_cell_two rfl _ _ b 38 _ (0, 0) _ _ rfl rfl (H2.out.rowV 0 rfl) Try.underlying38 rfl (info_wr z ZL.out)) rfl ?_
  exact ⟨rfl, H2.out.below⟩
set_option maxHeartbeats 1600000 in
theorem nil_pop (w : World) : Calls Try.prog 14 #[.pointer none] w fun e w' => e = .returned (.tuple #[wrV zeroW, .bool false]) ∧ Below w.heap.size w w' := by
  obtain ⟨z, hz⟩ : ∃ z, z = zW := ⟨_, rfl⟩
  have ZL : Hid (z.length = 36) := by show z.length = 36; rw [hz]; exact zW_len
  have ZP : Hid ((Try.prog.info? 38).bind (·.zero) = some (.agg z.toArray)) := by rw [hz]; exact zero_wr
  have ZB : Hid (Try.prog.built 38 [] = some z.toArray) := by rw [hz]; exact built_wr
  have ZO : Hid (z.toArray.all (·.oneCell') = true) := by show _ = true; rw [hz]; exact all_oneCell_toArray (wrC_one _)
  have CF : Hid (∀ wx, Calls Try.prog 26 #[.pointer none] wx fun e w' => e = .returned (.tuple #[.agg z.toArray, .bool false]) ∧ Below wx.heap.size wx w') := by rw [hz]; exact nil_front
  have hbox := (Own.St.start w).boxV 38 z
  obtain ⟨b, hb⟩ : ∃ b, b = w.heap.size := ⟨_, rfl⟩
  obtain ⟨W1, hW1⟩ : ∃ W, W = w.alloc (.cells z.toArray 38) := ⟨_, rfl⟩
  rw [← hb, ← hW1] at hbox
  show Calls Try.prog _ _ w fun e w' => e = .returned (.tuple #[.agg zW.toArray, .bool false]) ∧ _
  rw [← hz, ← hb]
  have HX := Lib.hid hbox
  have HB := Lib.hid hb
  have HW1 := Lib.hid hW1
  have IW := Lib.hid (info_wrA z ZL.out)
  clear hbox hb hW1 hz
  go_enter Try.func14, Try.ntmps14
  go_wp2_with (refine Own.wpList_allocZ rfl 38 rfl z.toArray ZP.out ?_; rw [← HB.out, ← HW1.out])
  refine (CF.out W1).mono ?_
  rintro e w2 ⟨rfl, h2⟩
  have h3 := (HX.out.later h2).boxV 38 z
  obtain ⟨b4, hb4⟩ : ∃ b, b = w2.heap.size := ⟨_, rfl⟩
  obtain ⟨W3, hW3⟩ : ∃ W, W = w2.alloc (.cells z.toArray 38) := ⟨_, rfl⟩
  rw [← hb4, ← hW3] at h3
  have ws := wr_store h3 0 rfl ZL.out z ZL.out
  obtain ⟨W4, hW4⟩ : ∃ W, W = W3.setCells b4 0 z.toArray.toList := ⟨_, rfl⟩
  rw [← hW4] at ws
  have ws2 := wr_store ws.2 1 rfl ZL.out z ZL.out
  obtain ⟨W5, hW5⟩ : ∃ W, W = W4.setCells b 0 z.toArray.toList := ⟨_, rfl⟩
  rw [← hW5] at ws2
  have TH := Lib.hid ws.1
  have TH5 := Lib.hid ws2.1
  have H5 := Lib.hid ws2.2
  have HB4 := Lib.hid hb4
  have HW3 := Lib.hid hW3
  have HW4 := Lib.hid hW4
  have HW5 := Lib.hid hW5
  clear ws ws2 h2 h3 hb4 hW3 hW4 hW5 HX CF
  go_wp2_with (first
    | (refine Own.wpList_allocZ rfl 38 rfl z.toArray ZP.out ?_; rw [← HB4.out, ← HW3.out])
    | (refine wpList_store_mid rfl 38 (.tmp 4) (.tmp 10) rfl b4 0 z.toArray rfl rfl TH.out IW.out ZO.out ?_; rw [← HW4.out])
    | (refine Own.wpList_built rfl 38 #[] rfl z.toArray ?_ ?_; · (simp only [List.map_toArray, List.map_nil, List.toList_toArray]; exact ZB.out))
    | (refine wpList_store_mid rfl 38 (.tmp 2) (.tmp 14) rfl b 0 z.toArray rfl rfl TH5.out IW.out ZO.out ?_; rw [← HW5.out]))
  refine bodyPost_ret (results_cell_two rfl _ _ b 38 _ (0, 0) _ _ rfl rfl (H5.out.rowV 1 rfl) Try.underlying38 rfl (info_wr z ZL.out)) rfl ?_
  exact ⟨rfl, H5.out.below⟩
end Qua
namespace Que
open Go.QueM Byt
def kept (W : World) : Kept W where
  A := Qua.A
  new _ H := Qua.new_any H
  load L next ao n c _ H hl hn hf hx := Qua.load_any L next ao n c H hl hn hf hx
  push r _ H ok hN f := Qua.push_any H ok hN r f
  pop _ H ok hN := Qua.pop_any H ok hN
  last a _ H ok hN ha := Qua.last_any H ok hN a ha
  front _ H ok hN := Qua.front_any H ok hN
  len _ H _ _ := (Qua.len_any H).mono fun _ _ h => ⟨h.1, h.2 ▸ Below.refl _ _⟩
  next _ H ok _ := (Qua.next_any H ok.pos ok.next).mono fun _ _ h => ⟨h.1, h.2 ▸ Below.refl _ _⟩
  all _ H ok hN := Qua.all_any H ok hN
  nilPush r _ w := Qua.nil_push r w
  nilPop w := Qua.nil_pop w
  nilLast a _ w := Qua.nil_last a w
  nilFront w := Qua.nil_front w
  nilLen w := Qua.nil_len w
  nilNext w := Qua.nil_next w
  nilAll w := Qua.nil_all w
end Que
end Go.Proofs.Ytepbdjgfaljbgaa

end
