/- The landed disk: settle, over any function that tells which writes survive. -/
import Derived.Test.YtkddeccgoamopaaBkaA
import Derived.Test.YtkddeccgoamopaaLaxH
namespace Go.Proofs.Ytkddeccgoamopaa
open Go.RowKit Go.Own
namespace Bak
open Go.BakM Byt

theorem range_map (l : List Value) (n : Nat) (h : l.length = n) : (List.range n).map (fun i => l.getD i undef) = l := by
  apply List.ext_getElem
  · simp [h]
  · intro i h1 h2
    simp [List.getD, h2]
theorem zero_wr : (Try.prog.info? 68).map (fun i => (i.size, i.bytes)) = some (257, 264) := by kernel_rfl
theorem slot_wr (f : Nat → Value) : Try.prog.builtSlice 68 1 [(0, .agg ((List.range 257).map f).toArray)] = some ((List.range 257).map f).toArray := by kernel_rfl
theorem run_slot_wr (cs : List Value) (hl : cs.length = 257) (w : World) : (Instr.buildSlice 60 1 #[(0, .agg cs.toArray)]).run Try.prog w = .ok (.slice (some ⟨w.heap.size, 0, none⟩) 1 1) (w.alloc (.cells cs.toArray 68)) := by
  have h : Try.prog.builtSlice 68 1 [(0, .agg cs.toArray)] = some cs.toArray := by
    have h := slot_wr (fun i => cs.getD i undef)
    rw [range_map cs 257 hl] at h
    exact h
  unfold Program.builtSlice at h
  cases hie : Try.prog.info? 68 with
  | none => simp [hie] at h
  | some ie =>
    simp only [hie] at h
    cases hz : ie.zero with
    | none => simp [hz] at h
    | some z =>
      simp only [hz] at h
      by_cases hc : 1 * ie.size > 2 ^ 24 ∨ 1 * ie.size = 0
      · simp only [Nat.one_mul] at hc
        simp at h
        omega
      · rw [if_neg hc] at h
        have h1 : ¬ (1 * ie.size > 2 ^ 24) := fun h' => hc (Or.inl h')
        have h2 : ¬ (1 * ie.size = 0) := fun h' => hc (Or.inr h')
        simp only [Nat.one_mul] at h1 h2 h
        simp [Instr.buildSlice, run_underlying Try.underlying60, sizeOf, typeInfo, zeroValue, hie, hz, newRow, h1, h2, h]
theorem one_wr (a : Put) : ∀ u ∈ wrCells a, u.oneCell' = true := by
  intro u hu
  unfold wrCells at hu
  rcases List.mem_cons.1 hu with rfl | h
  · rfl
  · exact byteV_one _ u h
theorem one_wrs (L : List Put) : ∀ u ∈ L.flatMap wrCells, u.oneCell' = true := by
  intro u hu
  obtain ⟨a, _, h⟩ := List.mem_flatMap.1 hu
  exact one_wr a u h
theorem load_wr (cs : List Value) (hl : cs.length = 257) {w : World} {b o : Nat} (hr : w.rangeAt b o cs) : (Instr.loadAt 68 (.pointer (some ⟨b, o, none⟩))).run Try.prog w = .ok (.agg cs.toArray) w := by
  obtain ⟨i, h1, h2⟩ := Option.map_eq_some_iff.1 zero_wr
  simp only [Prod.mk.injEq] at h2
  exact run_loadAt_mid (P := Try.prog) w b o 68 cs _ hr Try.underlying68 rfl (by rw [h1, hl]; simp [h2.1])
theorem load_wrE (cs : List Value) (hl : cs.length = 257) {o : Oper} {x : Tmp} (ho : o.op = .load 68 (.tmp x)) {b k : Nat} (ρ : Operand → Value) {w : World} (hr : w.rangeAt b k cs) (h0 : ρ (.tmp x) = .pointer (some ⟨b, k, none⟩)) : (execOp ρ o).run Try.prog w = .ok (.value (.agg cs.toArray)) w := by
  have := load_wr cs hl hr
  unfold execOp
  simp only [ho, h0, Sem.run_bind, this, Result.andThen_ok, Sem.run_pure]
theorem info_wr : (Try.prog.info? 68).map (fun i => (i.zero.map (·.cells.size), i.size, i.bytes)) = some (some 257, 257, 264) := by kernel_rfl
theorem range_box {B : Nat} {w0 w : World} {Ps : List Asn} {b : Nat} {t : TypeId} {cs : List Value} (H : Own.St B w0 w Ps) (i : Nat) (hi : Ps[i]? = some (AVals b t cs)) : w.rangeAt b 0 cs := fun j v hv => by
  rw [Nat.zero_add]
  exact (H.cellV i hi j hv).1
/-- one write onto a list of them -/
theorem run_wr_append {B : Nat} {w0 w : World} {Ps : List Asn} (H : Own.St B w0 w Ps) (i : Nat) {v : Value} {n : Nat} {xs : List Value} (hi : Ps[i]? = some (ARow 68 257 v n xs)) (ty : TypeId)
    (bo : Addr) (ys : List Value) (hy : ys.length = 257) (hc : ∀ j u, ys[j]? = some u → w.cell? (bo.add j) = some u) (h1 : ∀ u ∈ ys, u.oneCell' = true) (b1 : n + 1 ≤ 20000) :
    ∃ v' w', (Builtin.append_ #[60, 60] ty #[v, .slice (some bo) 1 1]).run Try.prog w = .ok v' w' ∧ Own.St B w0 w' (Ps.set i (ARow 68 257 v' (n + 1) (xs ++ ys))) := by
  obtain ⟨i0, hi0, hz⟩ := Option.map_eq_some_iff.1 info_wr
  simp only [Prod.mk.injEq] at hz
  obtain ⟨hz0, hz1, hz2⟩ := hz
  obtain ⟨z, hz3, hz4⟩ := Option.map_eq_some_iff.1 hz0
  obtain ⟨S, hS, _, put⟩ := H.at i hi
  obtain ⟨v', w', T', hr, hrow, hst⟩ := run_append_row (P := Try.prog) w 60 ty 68 i0 z 257 264 Try.underlying60 hi0 hz3 hz1 hz2 hz4 (by decide) v n xs hS (some bo) 1 1 ys (by intro h; cases h) (by rw [hy]) (fun a ha j u hu => by cases ha; exact hc j u hu) h1 (by unfold maxLen; omega) (by omega)
  exact ⟨v', w', hr, put T' w' (ARow 68 257 v' (n + 1) (xs ++ ys)) hrow hst⟩
theorem slot_wrE {o : Oper} {x : Tmp} (ho : o.op = .buildSlice 60 1 #[(0, .tmp x)]) (cs : List Value) (hl : cs.length = 257) (ρ : Operand → Value) (w : World) (h0 : ρ (.tmp x) = .agg cs.toArray) : (execOp ρ o).run Try.prog w = .ok (.value (.slice (some ⟨w.heap.size, 0, none⟩) 1 1)) (w.alloc (.cells cs.toArray 68)) := by
  have := run_slot_wr cs hl w
  unfold execOp
  simp [ho, h0, this]
theorem app_E {o : Oper} {s x : Tmp} {t1 t2 : TypeId} (ho : o.op = .call { callee := .builtin .append, args := #[.tmp s, .tmp x], argTypes := #[t1, t2] }) {ρ : Operand → Value} {w w' : World} {v vs vx : Value} (h0 : ρ (.tmp s) = vs) (h1 : ρ (.tmp x) = vx) (hrun : (Builtin.append_ #[t1, t2] o.type #[vs, vx]).run Try.prog w = .ok v w') : (execOp ρ o).run Try.prog w = .ok (.value v) w' := by
  unfold execOp
  simp [ho, h0, h1, resolve, invoke, builtin, hrun, Result.andThen]
theorem store_E {o : Oper} {x y : Tmp} {t : TypeId} (ho : o.op = .store t (.tmp x) (.tmp y)) {ρ : Operand → Value} {w w' : World} {a v : Value} (h0 : ρ (.tmp x) = a) (h1 : ρ (.tmp y) = v) (hrun : (Instr.storeAt t a v).run Try.prog w = .ok () w') : (execOp ρ o).run Try.prog w = .ok .skip w' := by
  unfold execOp
  simp [ho, h0, h1, hrun, Result.andThen]

theorem zero_wrV : ∃ z : Array Value, z.size = 257 ∧ (Try.prog.info? 68).bind (·.zero) = some (.agg z) := by
  refine ⟨#[.int .i64 0] ++ ((List.replicate 256 (0 : UInt8)).map byteV).toArray, by rw [Array.size_append, List.size_toArray, List.size_toArray, List.length_map, List.length_replicate]; rfl, ?_⟩
  kernel_rfl
theorem info_wrL (cs : List Value) (h : cs.length = 257) : (Try.prog.info? 68).map (·.size) = some cs.toArray.size := by
  have h0 : (Try.prog.info? 68).map (fun i => i.size) = some 257 := by kernel_rfl
  rw [List.size_toArray, h]
  exact h0

set_option maxRecDepth 10000 in
set_option maxHeartbeats 1600000 in
theorem settle_st {B : Nat} {w0 w : World} {Ps : List Asn} {p nn cS : Nat} {aS : Option Addr} {vN vP : Value} {G : List Bs} {L : List Put} {n : Nat} {off armed : Bool} {lf : Int} (f : FuncId) (caps : Array Value) (φ : Nat → Bool)
    (H : Own.St B w0 w (AVals p 62 (dkCells vN (.slice aS nn cS) vP n off armed lf) :: bRow (.slice aS nn cS) nn G :: ARow 68 257 vP L.length (L.flatMap wrCells) :: Ps))
    (hs : Shape G nn) (hn : nn ≤ 4096) (hall : ∀ a ∈ L, PutOk nn a) (hL : L.length ≤ 10000)
    (hent : ∀ (args : Array Value) w, (callFunc f args).run Try.prog w = .ok (.enter f args) w)
    (hf : ∀ (i : Nat) (wx : World) (Xs : List Asn), i < L.length → Own.St B w0 wx (Xs ++ Ps) → Calls Try.prog f (#[.int .i64 (i : Int)] ++ caps) wx fun e w' => e = .returned (.bool (φ i)) ∧ Below wx.heap.size wx w') :
    Calls Try.prog 27 #[qtr p, .func (.func f) #[] caps] w fun e w' => e = .returned (.tuple #[]) ∧ Own.St B w0 w' (AVals p 62 (dkCells vN (.slice aS nn cS) (.slice none 0 0) n off armed lf) :: bRow (.slice aS nn cS) nn (doAllF φ G 0 L) :: ARow 68 257 (.slice none 0 0) 0 [] :: Ps) := by
  have HALL := Lib.hid hall
  have HS := Lib.hid hs
  have HF := Lib.hid hf
  have HN := Lib.hid hn
  have HENT := Lib.hid hent
  obtain ⟨R, hR⟩ : ∃ R, R = doAllF φ G 0 L := ⟨_, rfl⟩
  rw [← hR]
  have HR := Lib.hid hR
  obtain ⟨aP, cP, rfl⟩ := H.rowForm 2 rfl
  obtain ⟨l, hl⟩ : ∃ l, l = L.length := ⟨_, rfl⟩
  rw [← hl] at H hL hf
  have HLL := Lib.hid hl
  have c3 := (H.cellV 0 rfl 2 rfl).1
  have H0 := Lib.hid H
  have hflat := flat_length wrCells 257 L (fun a ha => wrCells_len (hall a ha))
  have HFLAT := Lib.hid hflat
  obtain ⟨z, hz1, hz2⟩ := zero_wrV
  have HZ1 := Lib.hid hz1
  have HZ2 := Lib.hid hz2
  clear hall hs hf hn hent hR hl H hflat hz1 hz2
  go_enter Try.func27, Try.ntmps27
  go_wp2
  clear c3
  go_loopw [11] (fun v wr => ∃ (k : Nat) (Gk : List Bs), k ≤ l ∧ v = .int .i64 (k : Int) ∧ Shape Gk nn ∧ R = doAllF φ Gk k (L.drop k) ∧ Own.St B w0 wr (AVals p 62 (dkCells vN (.slice aS nn cS) (.slice aP l cP) n off armed lf) :: bRow (.slice aS nn cS) nn Gk :: ARow 68 257 (.slice aP l cP) l (L.flatMap wrCells) :: Ps)) (fun v _ => l - (intOf v).toNat)
  case atStart => exact ⟨0, G, Nat.zero_le _, rfl, HS.out, HR.out, H0.out⟩
  case round =>
    obtain ⟨k, Gk, hkl, rfl, hsh, hrk, H⟩ := hrel
    have H := Lib.hid H
    have HSH := Lib.hid hsh
    have HRK := Lib.hid hrk
    clear H0 hsh hrk
    by_cases hk : (k : Int) < (l : Int)
    · have hkn : k < l := by omega
      obtain ⟨a, hak⟩ : ∃ a, L[k]? = some a := ⟨_, List.getElem?_eq_getElem (by rw [← HLL.out]; exact hkn)⟩
      have HAK := Lib.hid hak
      have HA := Lib.hid (HALL.out a (List.mem_of_getElem? hak))
      obtain ⟨cs, hcs⟩ : ∃ c, c = wrCells a := ⟨_, rfl⟩
      have HCL : Hid (cs.length = 257) := by show cs.length = 257; rw [hcs]; exact wrCells_len HA.out
      have HONE : Hid (∀ u ∈ cs, u.oneCell' = true) := by rw [hcs]; exact one_wr a
      obtain ⟨g, rfl, _, _, _⟩ := H.out.rowAt 2 rfl (k * 257) (by omega)
      have RNG : Hid (wr.rangeAt g (k * 257) cs) := by
        intro j v hv
        have hj := (List.getElem?_eq_some_iff.1 hv).1
        rw [HCL.out] at hj
        have h1 := (H.out.rowRange 2 rfl (k * 257 + j) (by omega)).1
        rw [h1, flat_at wrCells 257 L (fun a ha => wrCells_len (HALL.out a ha)) k a HAK.out j hj, ← hcs]
        exact hv
      have IO := Lib.hid (info_wrL cs HCL.out)
      have IOL : Hid ((Try.prog.info? 68).map (·.size) = some cs.length) := by have := info_wrL cs HCL.out; rwa [List.size_toArray] at this
      have OO : Hid (cs.toArray.all (·.oneCell') = true) := all_oneCell_toArray HONE.out
      obtain ⟨b5, hb5⟩ : ∃ b, b = wr.heap.size := ⟨_, rfl⟩
      obtain ⟨W1, hW1⟩ : ∃ W, W = wr.alloc (.cells z 68) := ⟨_, rfl⟩
      have hbx := H.out.box (.cells z 68)
      have hbx2 : Own.St B w0 W1 (AVals b5 68 z.toList :: AVals p 62 (dkCells vN (.slice aS nn cS) (.slice (some ⟨g, 0, none⟩) l cP) n off armed lf) :: bRow (.slice aS nn cS) nn Gk :: ARow 68 257 (.slice (some ⟨g, 0, none⟩) l cP) l (L.flatMap wrCells) :: Ps) := by
        unfold AVals
        rw [hb5, hW1, Array.toArray_toList]
        exact hbx
      have HB5 := Lib.hid hb5
      have HW1 := Lib.hid hW1
      have TH : Hid (W1.there b5 0 cs.toArray.size) := hbx2.thereV 0 rfl (by rw [List.size_toArray, HCL.out, Array.length_toList, HZ1.out]; exact Nat.le_refl _)
      have hset := Own.St.setAll 0 cs 0 W1 _ z.toList hbx2 rfl (by rw [HCL.out, Array.length_toList, HZ1.out])
      simp only [List.set_cons_zero, List.take_zero, List.nil_append] at hset
      obtain ⟨W2, hW2⟩ : ∃ W, W = W1.setCells b5 0 cs.toArray.toList := ⟨_, rfl⟩
      have HW2 := Lib.hid hW2
      have H2 : Hid (Own.St B w0 W2 (AVals b5 68 cs :: AVals p 62 (dkCells vN (.slice aS nn cS) (.slice (some ⟨g, 0, none⟩) l cP) n off armed lf) :: bRow (.slice aS nn cS) nn Gk :: ARow 68 257 (.slice (some ⟨g, 0, none⟩) l cP) l (L.flatMap wrCells) :: Ps)) := by
        rw [hW2, List.toList_toArray]; exact hset
      have R5 : Hid (∀ wx, Below W2.heap.size W2 wx → wx.rangeAt b5 0 cs) := fun wx hwx => range_box (H2.out.later hwx) 0 rfl
      have C2 : Hid (∀ wx, Below W2.heap.size W2 wx → wx.cell? ⟨p, 1, none⟩ = some (.slice aS nn cS)) := fun wx hwx => ((H2.out.later hwx).cellV 1 rfl 1 rfl).1
      have CF : Hid (Calls Try.prog f (#[.int .i64 (k : Int)] ++ caps) W2 fun e w' => e = .returned (.bool (φ k)) ∧ Below W2.heap.size W2 w') :=
        HF.out k W2 [_, _, _, _] (by rw [← HLL.out]; exact hkn) H2.out
      obtain ⟨ext, hext⟩ : ∃ e, e = φ k := ⟨_, rfl⟩
      rw [← hext] at CF
      have CA : Hid (∀ wx, Below W2.heap.size W2 wx → Calls Try.prog 31 #[.agg cs.toArray, .slice aS nn cS] wx fun e w' => e = .returned (.tuple #[]) ∧ Own.St B w0 w' (bRow (.slice aS nn cS) nn (Gk.set a.pos a.b) :: AVals b5 68 cs :: AVals p 62 (dkCells vN (.slice aS nn cS) (.slice (some ⟨g, 0, none⟩) l cP) n off armed lf) :: ARow 68 257 (.slice (some ⟨g, 0, none⟩) l cP) l (L.flatMap wrCells) :: Ps)) := by
        intro wx hwx
        have h1 := (H2.out.later hwx).front 2 rfl
        simp only [List.eraseIdx_cons_succ, List.eraseIdx_cons_zero] at h1
        rw [hcs]
        rw [hcs] at h1
        exact apply_st h1 HSH.out HN.out a HA.out
      have HSN : Hid (Shape (Gk.set a.pos a.b) nn) := shape_set HSH.out _ _ HA.out.2
      have HRN : Hid (R = doAllF φ (if ext = true then Gk.set a.pos a.b else Gk) (k + 1) (L.drop (k + 1))) := by
        show R = _
        rw [HRK.out, doAllF_step φ L Gk k a HAK.out, hext]
      clear hak hcs hb5 hW1 hbx hbx2 hset hW2 hext HAK HA HONE H HRK
      go_wp2_with (first
        | (refine wpList_load_mid rfl 68 (.tmp 14) rfl g (k * 257) rfl cs _ RNG.out Try.underlying68 rfl IOL.out ?_)
        | (refine Own.wpList_allocZ rfl 68 rfl z HZ2.out ?_; rw [← HB5.out, ← HW1.out])
        | (refine wpList_store_mid rfl 68 (.tmp 5) (.tmp 15) rfl b5 0 cs.toArray rfl rfl TH.out IO.out OO.out ?_; rw [← HW2.out]))
      rw [HENT.out]
      refine CF.out.mono ?_
      clear CF RNG TH
      rintro e w3 ⟨rfl, hw3⟩
      cases ext
      · have H3 := Lib.hid ((H2.out.later hw3).drop 1)
        have HRN2 : Hid (R = doAllF φ Gk (k + 1) (L.drop (k + 1))) := HRN.out
        clear hw3 R5 C2 CA HRN HSN H2
        go_wp2
        go_roundw
        case rel => exact ⟨k + 1, Gk, by omega, by go_num, HSH.out, HRN2.out, H3.out⟩
        case measure => simp [intOf]; omega
      · have HRN2 : Hid (R = doAllF φ (Gk.set a.pos a.b) (k + 1) (L.drop (k + 1))) := HRN.out
        have R53 : Hid (∀ wx, Below w3.heap.size w3 wx → wx.rangeAt b5 0 cs) := fun wx hwx => R5.out wx (hw3.trans (hwx.mono hw3.size))
        have C23 : Hid (∀ wx, Below w3.heap.size w3 wx → wx.cell? ⟨p, 1, none⟩ = some (.slice aS nn cS)) := fun wx hwx => C2.out wx (hw3.trans (hwx.mono hw3.size))
        have CA3 : Hid (∀ wx, Below w3.heap.size w3 wx → Calls Try.prog 31 #[.agg cs.toArray, .slice aS nn cS] wx fun e w' => e = .returned (.tuple #[]) ∧ Own.St B w0 w' (bRow (.slice aS nn cS) nn (Gk.set a.pos a.b) :: AVals b5 68 cs :: AVals p 62 (dkCells vN (.slice aS nn cS) (.slice (some ⟨g, 0, none⟩) l cP) n off armed lf) :: ARow 68 257 (.slice (some ⟨g, 0, none⟩) l cP) l (L.flatMap wrCells) :: Ps)) := fun wx hwx => CA.out wx (hw3.trans (hwx.mono hw3.size))
        clear hw3 R5 C2 CA HRN H2
        go_wp2_with (fail)
        refine wp_laxW_list 5 (by kernel_rfl) (by kernel_rfl) (by kernel_rfl) (by kernel_rfl) (by kernel_rfl) ?_
        simp only [List.take_succ_cons, List.take_zero, List.drop_succ_cons, List.drop_zero]
        refine wpL_run1 (x := .tmp 5) (.pointer (some ⟨b5, 0, none⟩)) (.agg cs.toArray) (by kernel_rfl) (by kernel_rfl) (by kernel_rfl) (by kernel_rfl) (by kernel_rfl) (fun wx ρ hwx h0 hc => load_wrE cs HCL.out rfl ρ (R53.out wx hwx) h0) ?_
        refine wpL_move (.pointer (some ⟨p, 0, none⟩)) rfl (by kernel_rfl) (by kernel_rfl) (by kernel_rfl) (by kernel_rfl) ?_
        refine wpL_run1 (x := .tmp 20) (.pointer (some ⟨p, 0, none⟩)) (.pointer (some ⟨p, 0, none⟩)) (by kernel_rfl) (by kernel_rfl) (by kernel_rfl) (by kernel_rfl) (by kernel_rfl) (fun wx ρ hwx h0 hc => by simp [go_sem, h0, hc]) ?_
        refine wpL_run1 (x := .tmp 21) (.pointer (some ⟨p, 0, none⟩)) (.pointer (some ⟨p, 1, none⟩)) (by kernel_rfl) (by kernel_rfl) (by kernel_rfl) (by kernel_rfl) (by kernel_rfl) (fun wx ρ hwx h0 hc => by simp [go_sem, h0, hc]) ?_
        refine wpL_run1 (x := .tmp 22) (.pointer (some ⟨p, 1, none⟩)) (.slice aS nn cS) (by kernel_rfl) (by kernel_rfl) (by kernel_rfl) (by kernel_rfl) (by kernel_rfl) (fun wx ρ hwx h0 hc => by simp [go_sem, h0, hc, C23.out wx hwx]) ?_
        refine wpL_end (by kernel_rfl) (fun w4 hw4 => ?_)
        simp only [FinL, setL, List.set_cons_zero, List.set_cons_succ]
        intro _
        have CA4 := Lib.hid (CA3.out w4 hw4)
        clear CA3 R53 C23 hw4
        go_wp2_with (fail)
        refine CA4.out.mono ?_
        clear CA4
        rintro e w5 ⟨rfl, h5⟩
        have H5 := Lib.hid h5
        clear h5
        go_wp2
        go_roundw
        case rel =>
          refine ⟨k + 1, _, by omega, by go_num, HSN.out, HRN2.out, ?_⟩
          have h := (H5.out.perm ((List.Perm.swap _ _ _))).drop 1
          exact h.swap2
        case measure => simp [intOf]; omega
    · have hkl2 : k = l := by omega
      have HE : Hid (R = Gk) := by
        show R = Gk
        rw [HRK.out, List.drop_of_length_le (by rw [← HLL.out]; omega)]
        rfl
      have q := H.out.cellV 0 rfl 2 rfl
      have HF2 := Lib.hid (H.out.storeV 0 rfl 2 (.slice none 0 0))
      clear HRK HR
      go_wp2
      go_end0
      refine ⟨rfl, ?_⟩
      have h := (HF2.out.front 2 rfl).drop 1
      simp only [List.set_cons_zero, List.set_cons_succ, List.eraseIdx_cons_succ, List.eraseIdx_cons_zero, List.drop_succ_cons, List.drop_zero] at h
      rw [HE.out]
      exact ((h.rowFresh (e := 68) (size := 257)).perm (List.Perm.swap _ _ _)).perm ((List.Perm.swap _ _ _).cons _)
end Bak
end Go.Proofs.Ytkddeccgoamopaa
