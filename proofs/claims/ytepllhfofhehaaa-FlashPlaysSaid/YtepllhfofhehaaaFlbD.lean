/- The landed flash: perform. -/
import Derived.Test.YtepllhfofhehaaaFlbC
import Derived.Test.YtepllhfofhehaaaLaxH
import Derived.Great.Walk
namespace Go.Proofs.Ytepllhfofhehaaa
open Go.RowKit Go.Own
namespace Fla
open Go.FlaM Byt

theorem range_map (l : List Value) (n : Nat) (h : l.length = n) : (List.range n).map (fun i => l.getD i undef) = l := by
  apply List.ext_getElem
  · simp [h]
  · intro i h1 h2
    simp [List.getD, h2]
theorem zero_op : (Try.prog.info? 78).map (fun i => (i.size, i.bytes)) = some (131, 152) := by kernel_rfl
theorem slot_op (f : Nat → Value) : Try.prog.builtSlice 78 1 [(0, .agg ((List.range 131).map f).toArray)] = some ((List.range 131).map f).toArray := by kernel_rfl
theorem run_slot_op (cs : List Value) (hl : cs.length = 131) (w : World) : (Instr.buildSlice 63 1 #[(0, .agg cs.toArray)]).run Try.prog w = .ok (.slice (some ⟨w.heap.size, 0, none⟩) 1 1) (w.alloc (.cells cs.toArray 78)) := by
  have h : Try.prog.builtSlice 78 1 [(0, .agg cs.toArray)] = some cs.toArray := by
    have h := slot_op (fun i => cs.getD i undef)
    rw [range_map cs 131 hl] at h
    exact h
  unfold Program.builtSlice at h
  cases hie : Try.prog.info? 78 with
  | none => simp [hie] at h
  | some ie =>
    simp only [hie] at h
    cases hz : ie.zero with
    | none => simp [hz] at h
    | some z =>
      simp only [hz] at h
      by_cases hc : 1 * ie.size > 2 ^ 24 ∨ 1 * ie.size = 0
      · simp only [Nat.one_mul] at hc
        simp at h
        omega
      · rw [if_neg hc] at h
        have h1 : ¬ (1 * ie.size > 2 ^ 24) := fun h' => hc (Or.inl h')
        have h2 : ¬ (1 * ie.size = 0) := fun h' => hc (Or.inr h')
        simp only [Nat.one_mul] at h1 h2 h
        simp [Instr.buildSlice, run_underlying Try.underlying63, sizeOf, typeInfo, zeroValue, hie, hz, newRow, h1, h2, h]
theorem one_op {n pp : Nat} {a : FlaM.Act} : ∀ u ∈ opCells a, u.oneCell' = true := by
  intro u hu
  unfold opCells at hu
  rcases List.mem_append.1 hu with h | h
  · simp at h
    rcases h with rfl | rfl | rfl <;> rfl
  · exact byteV_one _ u h
theorem load_op (cs : List Value) (hl : cs.length = 131) {w : World} {b o : Nat} (hr : w.rangeAt b o cs) : (Instr.loadAt 78 (.pointer (some ⟨b, o, none⟩))).run Try.prog w = .ok (.agg cs.toArray) w := by
  obtain ⟨i, h1, h2⟩ := Option.map_eq_some_iff.1 zero_op
  simp only [Prod.mk.injEq] at h2
  exact run_loadAt_mid (P := Try.prog) w b o 78 cs _ hr Try.underlying78 rfl (by rw [h1, hl]; simp [h2.1])
theorem load_opE (cs : List Value) (hl : cs.length = 131) {o : Oper} {x : Tmp} (ho : o.op = .load 78 (.tmp x)) {b k : Nat} (ρ : Operand → Value) {w : World} (hr : w.rangeAt b k cs) (h0 : ρ (.tmp x) = .pointer (some ⟨b, k, none⟩)) : (execOp ρ o).run Try.prog w = .ok (.value (.agg cs.toArray)) w := by
  have := load_op cs hl hr
  unfold execOp
  simp only [ho, h0, Sem.run_bind, this, Result.andThen_ok, Sem.run_pure]
theorem info_op : (Try.prog.info? 78).map (fun i => (i.zero.map (·.cells.size), i.size, i.bytes)) = some (some 131, 131, 152) := by kernel_rfl
theorem range_box {B : Nat} {w0 w : World} {Ps : List Asn} {b : Nat} {t : TypeId} {cs : List Value} (H : Own.St B w0 w Ps) (i : Nat) (hi : Ps[i]? = some (AVals b t cs)) : w.rangeAt b 0 cs := fun j v hv => by
  rw [Nat.zero_add]
  exact (H.cellV i hi j hv).1
/-- one operation onto a list of them -/
theorem run_op_append {B : Nat} {w0 w : World} {Ps : List Asn} (H : Own.St B w0 w Ps) (i : Nat) {v : Value} {n : Nat} {xs : List Value} (hi : Ps[i]? = some (ARow 78 131 v n xs)) (ty : TypeId)
    (bo : Addr) (ys : List Value) (hy : ys.length = 131) (hc : ∀ j u, ys[j]? = some u → w.cell? (bo.add j) = some u) (h1 : ∀ u ∈ ys, u.oneCell' = true) (b1 : n + 1 ≤ 20000) :
    ∃ v' w', (Builtin.append_ #[63, 63] ty #[v, .slice (some bo) 1 1]).run Try.prog w = .ok v' w' ∧ Own.St B w0 w' (Ps.set i (ARow 78 131 v' (n + 1) (xs ++ ys))) := by
  obtain ⟨i0, hi0, hz⟩ := Option.map_eq_some_iff.1 info_op
  simp only [Prod.mk.injEq] at hz
  obtain ⟨hz0, hz1, hz2⟩ := hz
  obtain ⟨z, hz3, hz4⟩ := Option.map_eq_some_iff.1 hz0
  obtain ⟨S, hS, _, put⟩ := H.at i hi
  obtain ⟨v', w', T', hr, hrow, hst⟩ := run_append_row (P := Try.prog) w 63 ty 78 i0 z 131 152 Try.underlying63 hi0 hz3 hz1 hz2 hz4 (by decide) v n xs hS (some bo) 1 1 ys (by intro h; cases h) (by rw [hy]) (fun a ha j u hu => by cases ha; exact hc j u hu) h1 (by unfold maxLen; omega) (by omega)
  exact ⟨v', w', hr, put T' w' (ARow 78 131 v' (n + 1) (xs ++ ys)) hrow hst⟩
theorem slot_opE {o : Oper} {x : Tmp} (ho : o.op = .buildSlice 63 1 #[(0, .tmp x)]) (cs : List Value) (hl : cs.length = 131) (ρ : Operand → Value) (w : World) (h0 : ρ (.tmp x) = .agg cs.toArray) : (execOp ρ o).run Try.prog w = .ok (.value (.slice (some ⟨w.heap.size, 0, none⟩) 1 1)) (w.alloc (.cells cs.toArray 78)) := by
  have := run_slot_op cs hl w
  unfold execOp
  simp [ho, h0, this]
theorem app_E {o : Oper} {s x : Tmp} {t1 t2 : TypeId} (ho : o.op = .call { callee := .builtin .append, args := #[.tmp s, .tmp x], argTypes := #[t1, t2] }) {ρ : Operand → Value} {w w' : World} {v vs vx : Value} (h0 : ρ (.tmp s) = vs) (h1 : ρ (.tmp x) = vx) (hrun : (Builtin.append_ #[t1, t2] o.type #[vs, vx]).run Try.prog w = .ok v w') : (execOp ρ o).run Try.prog w = .ok (.value v) w' := by
  unfold execOp
  simp [ho, h0, h1, resolve, invoke, builtin, hrun, Result.andThen]
theorem store_E {o : Oper} {x y : Tmp} {t : TypeId} (ho : o.op = .store t (.tmp x) (.tmp y)) {ρ : Operand → Value} {w w' : World} {a v : Value} (h0 : ρ (.tmp x) = a) (h1 : ρ (.tmp y) = v) (hrun : (Instr.storeAt t a v).run Try.prog w = .ok () w') : (execOp ρ o).run Try.prog w = .ok .skip w' := by
  unfold execOp
  simp [ho, h0, h1, hrun, Result.andThen]

set_option maxRecDepth 10000 in
set_option maxHeartbeats 800000 in
theorem perform_st {B : Nat} {w0 w : World} {Ps : List Asn} {p pp nn : Nat} {vN vS vP vW : Value} {G : List (List Bs)} {L : List FlaM.Act} {n : Nat} {off armed : Bool} {lf : Int}
    (H : Own.St B w0 w (AVals p 65 (flCells pp vN vS vP vW n off armed lf) :: PGrid 66 76 vN G :: ARow 78 131 vP L.length (L.flatMap opCells) :: Ps))
    (hs : Shape G nn pp) (hn : nn ≤ 256) (hp : 1 ≤ pp ∧ pp ≤ 64) (a : FlaM.Act) (ha : ActOk nn pp a) (hL : L.length ≤ 10000) :
    Calls Try.prog 41 #[ptr p, .agg (opCells a).toArray] w fun e w' => e = .returned (.tuple #[]) ∧ ∃ vP', Own.St B w0 w' (AVals p 65 (flCells pp vN vS vP' vW n off armed lf) :: PGrid 66 76 vN (doOne pp G a 9223372036854775807) :: ARow 78 131 vP' (L ++ [a]).length ((L ++ [a]).flatMap opCells) :: Ps) := by
  obtain ⟨cs, hcs⟩ : ∃ c, c = opCells a := ⟨_, rfl⟩
  have hcl : cs.length = 131 := by rw [hcs]; exact opCells_len ha
  have HONE : Hid (∀ u ∈ cs, u.oneCell' = true) := by rw [hcs]; exact one_op (n := nn) (pp := pp)
  have hbox := H.boxV 78 cs
  obtain ⟨bx, hbx⟩ : ∃ b, b = w.heap.size := ⟨_, rfl⟩
  obtain ⟨W1, hW1⟩ : ∃ W, W = w.alloc (.cells cs.toArray 78) := ⟨_, rfl⟩
  rw [← hbx, ← hW1] at hbox
  have H1 := Lib.hid hbox
  have HW1 := Lib.hid hW1
  have HBX := Lib.hid hbx
  have APP : Hid (∀ wx, Below W1.heap.size W1 wx → Calls Try.prog 53 #[.agg cs.toArray, vN, .int .i64 9223372036854775807] wx fun e w' => e = .returned (.tuple #[]) ∧ Own.St B w0 w' (PGrid 66 76 vN (doOne pp G a 9223372036854775807) :: AVals bx 78 cs :: AVals p 65 (flCells pp vN vS vP vW n off armed lf) :: ARow 78 131 vP L.length (L.flatMap opCells) :: Ps)) := by
    intro wx hwx
    have h1 := (H1.out.later hwx).front 2 rfl
    simp only [List.eraseIdx_cons_succ, List.eraseIdx_cons_zero] at h1
    rw [hcs]
    rw [hcs] at h1
    exact apply_st h1 hs hn hp a ha 9223372036854775807 (by unfold i64B; omega)
  have R1 : Hid (∀ wx, Below W1.heap.size W1 wx → wx.rangeAt bx 0 cs) := fun wx hwx => range_box (H1.out.later hwx) 0 rfl
  have C1 : Hid (∀ wx, Below W1.heap.size W1 wx → wx.cell? ⟨p, 1, none⟩ = some vN) := fun wx hwx => ((H1.out.later hwx).cellV 1 rfl 1 rfl).1
  have HCL := Lib.hid hcl
  have hfm : Hid ((L ++ [a]).flatMap opCells = L.flatMap opCells ++ cs) := by
    show (L ++ [a]).flatMap opCells = L.flatMap opCells ++ cs
    rw [List.flatMap_append, hcs]; simp
  rw [← hcs]
  have hll : Hid ((L ++ [a]).length = L.length + 1) := by show (L ++ [a]).length = L.length + 1; simp
  obtain ⟨xs, hxs⟩ : ∃ x, x = L.flatMap opCells := ⟨_, rfl⟩
  obtain ⟨k, hk⟩ : ∃ x, x = L.length := ⟨_, rfl⟩
  rw [← hxs, ← hk] at APP
  rw [← hxs] at hfm
  rw [← hk] at hll hL
  clear hcs hcl hbox hbx hW1 H hs hn hp ha hxs hk H1
  go_enter Try.func41, Try.ntmps41
  go_wp2_with (fail)
  rw [← HBX.out, ← HW1.out]
  clear HBX HW1
  refine wp_laxW_list 5 (by kernel_rfl) (by kernel_rfl) (by kernel_rfl) (by kernel_rfl) (by kernel_rfl) ?_
  simp only [List.take_succ_cons, List.take_zero, List.drop_succ_cons, List.drop_zero]
  refine wpL_run1 (x := .tmp 3) (.pointer (some ⟨bx, 0, none⟩)) (.agg cs.toArray) (by kernel_rfl) (by kernel_rfl) (by kernel_rfl) (by kernel_rfl) (by kernel_rfl) (fun wx ρ hwx h0 hc => load_opE cs HCL.out rfl ρ (R1.out wx hwx) h0) ?_
  refine wpL_move (.pointer (some ⟨p, 0, none⟩)) rfl (by kernel_rfl) (by kernel_rfl) (by kernel_rfl) (by kernel_rfl) ?_
  refine wpL_run1 (x := .tmp 5) (.pointer (some ⟨p, 0, none⟩)) (.pointer (some ⟨p, 0, none⟩)) (by kernel_rfl) (by kernel_rfl) (by kernel_rfl) (by kernel_rfl) (by kernel_rfl) (fun wx ρ hwx h0 hc => by simp [go_sem, h0, hc]) ?_
  refine wpL_run1 (x := .tmp 6) (.pointer (some ⟨p, 0, none⟩)) (.pointer (some ⟨p, 1, none⟩)) (by kernel_rfl) (by kernel_rfl) (by kernel_rfl) (by kernel_rfl) (by kernel_rfl) (fun wx ρ hwx h0 hc => by simp [go_sem, h0, hc]) ?_
  refine wpL_run1 (x := .tmp 7) (.pointer (some ⟨p, 1, none⟩)) vN (by kernel_rfl) (by kernel_rfl) (by kernel_rfl) (by kernel_rfl) (by kernel_rfl) (fun wx ρ hwx h0 hc => by simp [go_sem, h0, hc, C1.out wx hwx]) ?_
  refine wpL_end (by kernel_rfl) (fun w2 hw2 => ?_)
  simp only [FinL, setL, List.set_cons_zero, List.set_cons_succ]
  intro _
  have CA := Lib.hid (APP.out w2 hw2)
  clear APP R1 C1 hw2
  go_wp2_with (fail)
  refine CA.out.mono ?_
  clear CA
  rintro e w3 ⟨rfl, h3⟩
  have c3 := (h3.cellV 2 rfl 3 rfl).1
  have H3 := Lib.hid h3
  have LD := load_op cs HCL.out (range_box h3.drew 1 rfl)
  have BS := run_slot_op cs HCL.out w3.drew
  have h4 := (h3.drew).alloc (.cells cs.toArray 78)
  have CN : Hid (∀ j u, cs[j]? = some u → (w3.drew.alloc (.cells cs.toArray 78)).cell? ((⟨w3.heap.size, 0, none⟩ : Addr).add j) = some u) := by
    intro j u hu
    rw [add_of, Nat.zero_add]
    exact cell_of_block (heap_alloc_new w3.drew _) (by simpa using hu)
  have H4 := Lib.hid h4
  obtain ⟨v5, w5, hr5, h5⟩ := run_op_append h4 3 rfl 63 ⟨w3.heap.size, 0, none⟩ cs HCL.out CN.out HONE.out (by omega)
  simp only [List.set_cons_zero, List.set_cons_succ] at h5
  obtain ⟨ao5, cap5, rfl⟩ := h5.rowForm 3 rfl
  have q5 := (h5.cellV 2 rfl 3 rfl)
  have H6 := Lib.hid (h5.storeV 2 rfl 3 (.slice ao5 (k + 1) cap5))
  have HR5 := Lib.hid hr5
  have Q5 := Lib.hid q5
  have C3a := Lib.hid c3
  have C3b : Hid ((w3.drew.alloc (.cells cs.toArray 78)).cell? ⟨p, 3, none⟩ = some vP) := (h4.cellV 2 rfl 3 rfl).1
  have HLD : Hid (w3.drew.rangeAt bx 0 cs) := range_box H3.out.drew 1 rfl
  clear h3 h4 h5 q5 hr5 c3 LD BS
  go_wp2_with (fail)
  refine wp_chain_list [6, 7, 10] (fun j wx => wx = match j with | 0 => w3.drew | 1 => w3.drew.alloc (.cells cs.toArray 78) | 2 => w5 | _ => w5.setCell ⟨p, 3, none⟩ (.slice ao5 (k + 1) cap5)) (by kernel_rfl) (by kernel_rfl) (by kernel_rfl) (by kernel_rfl) rfl ?_
  refine wpG_move (.pointer (some ⟨p, 0, none⟩)) rfl (by kernel_rfl) (by kernel_rfl) (by kernel_rfl) ?_
  refine wpG_move (.pointer (some ⟨p, 0, none⟩)) rfl (by kernel_rfl) (by kernel_rfl) (by kernel_rfl) ?_
  refine wpG_run1 (x := .tmp 11) (.pointer (some ⟨p, 0, none⟩)) (.pointer (some ⟨p, 0, none⟩)) (by kernel_rfl) (by kernel_rfl) (by kernel_rfl) (by kernel_rfl) (fun j wx ρ hC h0 hc => by simp [go_sem, h0, hc]) ?_
  refine wpG_run1 (x := .tmp 12) (.pointer (some ⟨p, 0, none⟩)) (.pointer (some ⟨p, 3, none⟩)) (by kernel_rfl) (by kernel_rfl) (by kernel_rfl) (by kernel_rfl) (fun j wx ρ hC h0 hc => by simp [go_sem, h0, hc]) ?_
  refine wpG_runU1 (x := .tmp 13) 1 (.pointer (some ⟨p, 3, none⟩)) vP (by kernel_rfl) (by kernel_rfl) (by kernel_rfl) (by kernel_rfl) (by kernel_rfl) (by kernel_rfl) (fun j wx ρ hj hC h0 hc => ?_) ?_
  · have hcell : wx.cell? ⟨p, 3, none⟩ = some vP := by
      match j, hj with
      | 0, _ => subst hC; exact C3a.out
      | 1, _ => subst hC; exact C3b.out
    simp [go_sem, h0, hc, hcell]
  refine wpG_runU1 (x := .tmp 3) 0 (.pointer (some ⟨bx, 0, none⟩)) (.agg cs.toArray) (by kernel_rfl) (by kernel_rfl) (by kernel_rfl) (by kernel_rfl) (by kernel_rfl) (by kernel_rfl) (fun j wx ρ hj hC h0 hc => ?_) ?_
  · obtain rfl : j = 0 := by omega
    subst hC
    exact load_opE cs HCL.out rfl ρ HLD.out h0
  refine wpG_op 0 (.slice (some ⟨w3.heap.size, 0, none⟩) 1 1) _ (.inl rfl) (by kernel_rfl) (by kernel_rfl) (by kernel_rfl) (by kernel_rfl) (by kernel_rfl) (fun wx hC => ⟨_, by subst hC; exact slot_opE rfl cs HCL.out _ _ rfl, rfl⟩) ?_
  refine wpG_op 1 (.slice ao5 (k + 1) cap5) _ (.inl rfl) (by kernel_rfl) (by kernel_rfl) (by kernel_rfl) (by kernel_rfl) (by kernel_rfl) (fun wx hC => ⟨_, by subst hC; exact app_E rfl rfl rfl HR5.out, rfl⟩) ?_
  refine wpG_run1 (x := .tmp 10) (.pointer (some ⟨p, 0, none⟩)) (.pointer (some ⟨p, 0, none⟩)) (by kernel_rfl) (by kernel_rfl) (by kernel_rfl) (by kernel_rfl) (fun j wx ρ hC h0 hc => by simp [go_sem, h0, hc]) ?_
  refine wpG_run1 (x := .tmp 18) (.pointer (some ⟨p, 0, none⟩)) (.pointer (some ⟨p, 3, none⟩)) (by kernel_rfl) (by kernel_rfl) (by kernel_rfl) (by kernel_rfl) (fun j wx ρ hC h0 hc => by simp [go_sem, h0, hc]) ?_
  refine wpG_op 2 undef _ (.inr ⟨rfl, rfl⟩) (by kernel_rfl) (by kernel_rfl) (by kernel_rfl) (by kernel_rfl) (by kernel_rfl) (fun wx hC => ⟨w5.setCell ⟨p, 3, none⟩ (.slice ao5 (k + 1) cap5), by subst hC; exact store_E (a := .pointer (some ⟨p, 3, none⟩)) (v := .slice ao5 (k + 1) cap5) rfl (by kernel_rfl) (by kernel_rfl) (by simp [go_sem, Q5.out.1, Q5.out.2]), rfl⟩) ?_
  refine wpG_end (fun w9 hw9 => ?_)
  subst hw9
  simp only [setL, List.set_cons_zero, List.set_cons_succ]
  go_wp2
  go_end0
  refine ⟨rfl, .slice ao5 (k + 1) cap5, ?_⟩
  have h := H6.out
  simp only [List.set_cons_zero, List.set_cons_succ] at h
  rw [hll.out, hfm.out]
  have h2 := (h.front 2 rfl)
  simp only [List.eraseIdx_cons_succ, List.eraseIdx_cons_zero] at h2
  exact (h2.perm ((List.Perm.swap _ _ _).cons _)).perm ((List.Perm.swap _ _ _)) |>.drop 1 |>.perm (List.Perm.refl _)
end Fla
end Go.Proofs.Ytepllhfofhehaaa
