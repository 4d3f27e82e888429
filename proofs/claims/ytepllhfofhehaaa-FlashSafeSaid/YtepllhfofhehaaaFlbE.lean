/- The landed flash: settle, over any function that tells the fates. -/
import Derived.Test.YtepllhfofhehaaaFlbD
namespace Go.Own
open Go.RowKit
theorem flat_at {α : Type} (f : α → List Value) (c : Nat) : ∀ (L : List α), (∀ a ∈ L, (f a).length = c) → ∀ (k : Nat) (a : α), L[k]? = some a → ∀ j, j < c → (L.flatMap f)[k * c + j]? = (f a)[j]?
  | [], _, k, a, h, _, _ => by simp at h
  | x :: L, hl, 0, a, h, j, hj => by
    have h2 : x = a := by simpa using h
    subst h2
    have hx := hl x (List.mem_cons_self ..)
    rw [Nat.zero_mul, Nat.zero_add, List.flatMap_cons, List.getElem?_append_left (by omega)]
  | x :: L, hl, k + 1, a, h, j, hj => by
    have hx := hl x (List.mem_cons_self ..)
    rw [List.flatMap_cons, List.getElem?_append_right (by rw [hx, Nat.add_mul]; omega), hx, show (k + 1) * c + j - c = k * c + j by rw [Nat.add_mul]; omega]
    exact flat_at f c L (fun y hy => hl y (List.mem_cons_of_mem _ hy)) k a (by simpa using h) j hj
theorem flat_length {α : Type} (f : α → List Value) (c : Nat) : ∀ (L : List α), (∀ a ∈ L, (f a).length = c) → (L.flatMap f).length = L.length * c
  | [], _ => by simp
  | x :: L, hl => by
    rw [List.flatMap_cons, List.length_append, hl x (List.mem_cons_self ..), flat_length f c L (fun y hy => hl y (List.mem_cons_of_mem _ hy)), List.length_cons, Nat.add_mul, Nat.one_mul, Nat.add_comm]
end Go.Own
namespace Go.Proofs.Ytepllhfofhehaaa
open Go.RowKit Go.Own
namespace Fla
open Go.FlaM Byt

theorem zero_opV : ∃ z : Array Value, z.size = 131 ∧ (Try.prog.info? 78).bind (·.zero) = some (.agg z) := by
  refine ⟨#[.bool false, .int .i64 0, .int .i64 0] ++ ((List.replicate 128 (0 : UInt8)).map byteV).toArray, by simp, ?_⟩
  kernel_rfl
theorem info_opL (cs : List Value) (h : cs.length = 131) : (Try.prog.info? 78).map (·.size) = some cs.toArray.size := by
  have h0 : (Try.prog.info? 78).map (fun i => i.size) = some 131 := by kernel_rfl
  rw [List.size_toArray, h]
  exact h0

theorem fn_enter {o : Oper} {x y : Tmp} {ts : Array TypeId} (ho : o.op = .call { callee := .value (.tmp x), args := #[.tmp y], argTypes := ts }) (f : FuncId) (caps : Array Value) (hfn : ∀ (args : Array Value) w, (callFunc f args).run Try.prog w = .ok (.enter f args) w) (ρ : Operand → Value) {v : Value} (h0 : ρ (.tmp x) = .func (.func f) #[] caps) (h1 : ρ (.tmp y) = v) (w : World) :
    (execOp ρ o).run Try.prog w = .ok (.enter f (#[v] ++ caps)) w := by
  unfold execOp
  simp [ho, resolve, h0, h1, Deferred.ofValue, invoke, go_sem, hfn]

set_option maxRecDepth 10000 in
set_option maxHeartbeats 1600000 in
theorem settle_st {B : Nat} {w0 w : World} {Ps : List Asn} {p pp nn : Nat} {vN vS vP vW : Value} {G : List (List Bs)} {L : List FlaM.Act} {n : Nat} {off armed : Bool} {lf : Int} (f : FuncId) (caps : Array Value) (φ : Nat → Int)
    (H : Own.St B w0 w (AVals p 65 (flCells pp vN vS vP vW n off armed lf) :: PGrid 66 76 vS G :: ARow 78 131 vP L.length (L.flatMap opCells) :: Ps))
    (hs : Shape G nn pp) (hn : nn ≤ 256) (hp : 1 ≤ pp ∧ pp ≤ 64) (hall : ∀ a ∈ L, ActOk nn pp a) (hL : L.length ≤ 10000) (hφ : ∀ i, i64B (φ i))
    (hent : ∀ (args : Array Value) w, (callFunc f args).run Try.prog w = .ok (.enter f args) w)
    (hf : ∀ (i : Nat) (wx : World) (Xs : List Asn), i < L.length → Own.St B w0 wx (Xs ++ Ps) → Calls Try.prog f (#[.int .i64 (i : Int)] ++ caps) wx fun e w' => e = .returned (.int .i64 (φ i)) ∧ Below wx.heap.size wx w') :
    Calls Try.prog 37 #[ptr p, .func (.func f) #[] caps] w fun e w' => e = .returned (.tuple #[]) ∧ Own.St B w0 w' (AVals p 65 (flCells pp vN vS (.slice none 0 0) vW n off armed lf) :: PGrid 66 76 vS (doAllF pp φ G 0 L) :: ARow 78 131 (.slice none 0 0) 0 [] :: Ps) := by
  have HALL := Lib.hid hall
  have HS := Lib.hid hs
  have HF := Lib.hid hf
  have HP := Lib.hid hp
  have HN := Lib.hid hn
  have HPHI := Lib.hid hφ
  have HENT := Lib.hid hent
  obtain ⟨R, hR⟩ : ∃ R, R = doAllF pp φ G 0 L := ⟨_, rfl⟩
  rw [← hR]
  have HR := Lib.hid hR
  obtain ⟨aP, cP, rfl⟩ := H.rowForm 2 rfl
  obtain ⟨l, hl⟩ : ∃ l, l = L.length := ⟨_, rfl⟩
  rw [← hl] at H hL hf
  have HLL := Lib.hid hl
  have c3 := (H.cellV 0 rfl 3 rfl).1
  have H0 := Lib.hid H
  have hflat := flat_length opCells 131 L (fun a ha => opCells_len (hall a ha))
  have HFLAT := Lib.hid hflat
  obtain ⟨z, hz1, hz2⟩ := zero_opV
  have HZ1 := Lib.hid hz1
  have HZ2 := Lib.hid hz2
  clear hall hs hf hp hn hφ hent hR hl H hflat hz1 hz2
  go_enter Try.func37, Try.ntmps37
  go_wp2
  clear c3
  go_loopw [11] (fun v wr => ∃ (k : Nat) (Gk : List (List Bs)), k ≤ l ∧ v = .int .i64 (k : Int) ∧ Shape Gk nn pp ∧ R = doAllF pp φ Gk k (L.drop k) ∧ Own.St B w0 wr (AVals p 65 (flCells pp vN vS (.slice aP l cP) vW n off armed lf) :: PGrid 66 76 vS Gk :: ARow 78 131 (.slice aP l cP) l (L.flatMap opCells) :: Ps)) (fun v _ => l - (intOf v).toNat)
  case atStart => exact ⟨0, G, Nat.zero_le _, rfl, HS.out, HR.out, H0.out⟩
  case round =>
    obtain ⟨k, Gk, hkl, rfl, hsh, hrk, H⟩ := hrel
    have H := Lib.hid H
    have HSH := Lib.hid hsh
    have HRK := Lib.hid hrk
    clear H0 hsh hrk
    by_cases hk : (k : Int) < (l : Int)
    · have hkn : k < l := by omega
      obtain ⟨a, hak⟩ : ∃ a, L[k]? = some a := ⟨_, List.getElem?_eq_getElem (by rw [← HLL.out]; exact hkn)⟩
      have HAK := Lib.hid hak
      have HA := Lib.hid (HALL.out a (List.mem_of_getElem? hak))
      obtain ⟨cs, hcs⟩ : ∃ c, c = opCells a := ⟨_, rfl⟩
      have HCS := Lib.hid hcs
      have HCL : Hid (cs.length = 131) := by show cs.length = 131; rw [hcs]; exact opCells_len HA.out
      have HONE : Hid (∀ u ∈ cs, u.oneCell' = true) := by rw [hcs]; exact one_op (n := nn) (pp := pp)
      obtain ⟨g, rfl, _, _, _⟩ := H.out.rowAt 2 rfl (k * 131) (by omega)
      have RNG : Hid (wr.rangeAt g (k * 131) cs) := by
        intro j v hv
        have hj := (List.getElem?_eq_some_iff.1 hv).1
        rw [HCL.out] at hj
        have h1 := (H.out.rowRange 2 rfl (k * 131 + j) (by omega)).1
        rw [h1, flat_at opCells 131 L (fun a ha => opCells_len (HALL.out a ha)) k a HAK.out j hj, ← hcs]
        exact hv
      have IO := Lib.hid (info_opL cs HCL.out)
      have IOL : Hid ((Try.prog.info? 78).map (·.size) = some cs.length) := by have := info_opL cs HCL.out; rwa [List.size_toArray] at this
      have OO : Hid (cs.toArray.all (·.oneCell') = true) := all_oneCell_toArray HONE.out
      obtain ⟨b5, hb5⟩ : ∃ b, b = wr.heap.size := ⟨_, rfl⟩
      obtain ⟨W1, hW1⟩ : ∃ W, W = wr.alloc (.cells z 78) := ⟨_, rfl⟩
      have hbx := H.out.box (.cells z 78)
      have hbx2 : Own.St B w0 W1 (AVals b5 78 z.toList :: AVals p 65 (flCells pp vN vS (.slice (some ⟨g, 0, none⟩) l cP) vW n off armed lf) :: PGrid 66 76 vS Gk :: ARow 78 131 (.slice (some ⟨g, 0, none⟩) l cP) l (L.flatMap opCells) :: Ps) := by
        unfold AVals
        rw [hb5, hW1, Array.toArray_toList]
        exact hbx
      have HB5 := Lib.hid hb5
      have HW1 := Lib.hid hW1
      have TH : Hid (W1.there b5 0 cs.toArray.size) := hbx2.thereV 0 rfl (by rw [List.size_toArray, HCL.out, Array.length_toList, HZ1.out]; exact Nat.le_refl _)
      have hset := Own.St.setAll 0 cs 0 W1 _ z.toList hbx2 rfl (by rw [HCL.out, Array.length_toList, HZ1.out])
      simp only [List.set_cons_zero, List.take_zero, List.nil_append] at hset
      obtain ⟨W2, hW2⟩ : ∃ W, W = W1.setCells b5 0 cs.toArray.toList := ⟨_, rfl⟩
      have HW2 := Lib.hid hW2
      have H2 : Hid (Own.St B w0 W2 (AVals b5 78 cs :: AVals p 65 (flCells pp vN vS (.slice (some ⟨g, 0, none⟩) l cP) vW n off armed lf) :: PGrid 66 76 vS Gk :: ARow 78 131 (.slice (some ⟨g, 0, none⟩) l cP) l (L.flatMap opCells) :: Ps)) := by
        rw [hW2, List.toList_toArray]; exact hset
      have R5 : Hid (∀ wx, Below W2.heap.size W2 wx → wx.rangeAt b5 0 cs) := fun wx hwx => range_box (H2.out.later hwx) 0 rfl
      have C2 : Hid (∀ wx, Below W2.heap.size W2 wx → wx.cell? ⟨p, 2, none⟩ = some vS) := fun wx hwx => ((H2.out.later hwx).cellV 1 rfl 2 rfl).1
      have CF : Hid (∀ wx, Below W2.heap.size W2 wx → Calls Try.prog f (#[.int .i64 (k : Int)] ++ caps) wx fun e w' => e = .returned (.int .i64 (φ k)) ∧ Below wx.heap.size wx w') := fun wx hwx =>
        HF.out k wx [_, _, _, _] (by rw [← HLL.out]; exact hkn) (H2.out.later hwx)
      obtain ⟨ext, hext⟩ : ∃ e, e = φ k := ⟨_, rfl⟩
      rw [← hext] at CF
      have CA : Hid (∀ wx, Below W2.heap.size W2 wx → Calls Try.prog 53 #[.agg cs.toArray, vS, .int .i64 ext] wx fun e w' => e = .returned (.tuple #[]) ∧ Own.St B w0 w' (PGrid 66 76 vS (doOne pp Gk a ext) :: AVals b5 78 cs :: AVals p 65 (flCells pp vN vS (.slice (some ⟨g, 0, none⟩) l cP) vW n off armed lf) :: ARow 78 131 (.slice (some ⟨g, 0, none⟩) l cP) l (L.flatMap opCells) :: Ps)) := by
        intro wx hwx
        have h1 := (H2.out.later hwx).front 2 rfl
        simp only [List.eraseIdx_cons_succ, List.eraseIdx_cons_zero] at h1
        rw [hcs]
        rw [hcs] at h1
        exact apply_st h1 HSH.out HN.out HP.out a HA.out ext (by rw [hext]; exact HPHI.out k)
      have HSN : Hid (Shape (doOne pp Gk a ext) nn pp) := shape_one HSH.out a HA.out ext
      have HRN : Hid (R = doAllF pp φ (doOne pp Gk a ext) (k + 1) (L.drop (k + 1))) := by
        show R = _
        rw [HRK.out, doAllF_step pp φ L Gk k a HAK.out, hext]
      clear hak hcs hb5 hW1 hbx hbx2 hset hW2 hext HAK HA HCS HONE H HSH HRK
      go_wp2_with (first
        | (refine wpList_load_mid rfl 78 (.tmp 14) rfl g (k * 131) rfl cs _ RNG.out Try.underlying78 rfl IOL.out ?_)
        | (refine Fla.wpList_allocZ rfl 78 rfl z HZ2.out ?_; rw [← HB5.out, ← HW1.out])
        | (refine wpList_store_mid rfl 78 (.tmp 5) (.tmp 15) rfl b5 0 cs.toArray rfl rfl TH.out IO.out OO.out ?_; rw [← HW2.out]))
      clear RNG TH
      refine wp_laxW_list 8 (by kernel_rfl) (by kernel_rfl) (by kernel_rfl) (by kernel_rfl) (by kernel_rfl) ?_
      simp only [List.take_succ_cons, List.take_zero, List.drop_succ_cons, List.drop_zero]
      refine wpL_run1 (x := .tmp 5) (.pointer (some ⟨b5, 0, none⟩)) (.agg cs.toArray) (by kernel_rfl) (by kernel_rfl) (by kernel_rfl) (by kernel_rfl) (by kernel_rfl) (fun wx ρ hwx h0 hc => load_opE cs HCL.out rfl ρ (R5.out wx hwx) h0) ?_
      refine wpL_move (.pointer (some ⟨p, 0, none⟩)) rfl (by kernel_rfl) (by kernel_rfl) (by kernel_rfl) (by kernel_rfl) ?_
      refine wpL_run1 (x := .tmp 17) (.pointer (some ⟨p, 0, none⟩)) (.pointer (some ⟨p, 0, none⟩)) (by kernel_rfl) (by kernel_rfl) (by kernel_rfl) (by kernel_rfl) (by kernel_rfl) (fun wx ρ hwx h0 hc => by simp [go_sem, h0, hc]) ?_
      refine wpL_run1 (x := .tmp 18) (.pointer (some ⟨p, 0, none⟩)) (.pointer (some ⟨p, 2, none⟩)) (by kernel_rfl) (by kernel_rfl) (by kernel_rfl) (by kernel_rfl) (by kernel_rfl) (fun wx ρ hwx h0 hc => by simp [go_sem, h0, hc]) ?_
      refine wpL_run1 (x := .tmp 19) (.pointer (some ⟨p, 2, none⟩)) vS (by kernel_rfl) (by kernel_rfl) (by kernel_rfl) (by kernel_rfl) (by kernel_rfl) (fun wx ρ hwx h0 hc => by simp [go_sem, h0, hc, C2.out wx hwx]) ?_
      refine wpL_move (.func (.func f) #[] caps) rfl (by kernel_rfl) (by kernel_rfl) (by kernel_rfl) (by kernel_rfl) ?_
      refine wpL_move (.int .i64 (k : Int)) rfl (by kernel_rfl) (by kernel_rfl) (by kernel_rfl) (by kernel_rfl) ?_
      refine wpL_call (.int .i64 ext) (#[.int .i64 (k : Int)] ++ caps) (by kernel_rfl) (by kernel_rfl) (by kernel_rfl) (by kernel_rfl) (fun wx => fn_enter rfl f caps HENT.out _ (by kernel_rfl) (by kernel_rfl) wx) ?_ ?_
      · clear CA
        intro wx hwx
        exact CF.out wx hwx
      refine wpL_end (by kernel_rfl) (fun w3 hw3 => ?_)
      simp only [FinL, setL, List.set_cons_zero, List.set_cons_succ]
      intro _
      have CA3 := Lib.hid (CA.out w3 hw3)
      clear CA CF R5 C2 hw3
      go_wp2_with (fail)
      refine CA3.out.mono ?_
      clear CA3
      rintro e w4 ⟨rfl, h4⟩
      have H4 := Lib.hid h4
      clear h4
      go_wp2
      go_roundw
      case rel =>
        refine ⟨k + 1, _, by omega, by go_num, HSN.out, HRN.out, ?_⟩
        have h := (H4.out.perm ((List.Perm.swap _ _ _))).drop 1
        exact h.swap2
      case measure => simp [intOf]; omega
    · have hkl2 : k = l := by omega
      have HE : Hid (R = Gk) := by
        show R = Gk
        rw [HRK.out, List.drop_of_length_le (by rw [← HLL.out]; omega)]
        rfl
      have q := H.out.cellV 0 rfl 3 rfl
      have HF2 := Lib.hid (H.out.storeV 0 rfl 3 (.slice none 0 0))
      clear HRK HR
      go_wp2
      go_end0
      refine ⟨rfl, ?_⟩
      have h := (HF2.out.front 2 rfl).drop 1
      simp only [List.set_cons_zero, List.set_cons_succ, List.eraseIdx_cons_succ, List.eraseIdx_cons_zero, List.drop_succ_cons, List.drop_zero] at h
      rw [HE.out]
      exact ((h.rowFresh (e := 78) (size := 131)).perm (List.Perm.swap _ _ _)).perm ((List.Perm.swap _ _ _).cons _)
end Fla
end Go.Proofs.Ytepllhfofhehaaa
