/- The landed page: Lay, Split. -/
import Derived.Test.YtphdpjfkpidofaaPgaC
namespace Go.Own
open Go.RowKit
section
variable {P : Program} {t e : TypeId} {z : Value} {bytes : Nat} {B : Nat} {w0 w : World} {Ps : List Asn} {v : Value}
theorem wpList_grid_appendN {ops : Array Oper} {rest : List Oper} {o : Oper} {a : Act} {Q : Exit → Act → World → Prop} {α : Type} {enc : α → Value} {t2 : TypeId} (O : One P t2 t z bytes) (hgd : o.guard = none) (s x : Operand)
    (ho : o.op = .call { callee := .builtin .append, args := #[s, x], argTypes := #[t2, t2] }) {row : List α} {rows : List (List α)} {n : Nat} (hn : row.length = n) {ao : Option Addr} {cap : Nat} (H : St B w0 w (AGrid t e enc v rows :: ARow e 1 (.slice ao n cap) n (row.map enc) :: Ps)) (hs : a.eval s = v)
    (bo : Addr) (hx : a.eval x = .slice (some bo) 1 1) (hbo : bo.spot = none) (hc : w.cell? bo = some (.slice ao n cap)) (b1 : rows.length + 1 ≤ 100000000) (b2 : bytes ≤ 1000)
    (h : ∀ ao' cap' w', St B w0 w' (AGrid t e enc (.slice ao' (rows.length + 1) cap') (rows ++ [row]) :: Ps) → wpList P ops Q rest (a.put o.dst (.slice ao' (rows.length + 1) cap')) w') : wpList P ops Q (o :: rest) a w := by
  subst hn
  exact wpList_grid_append O hgd s x ho H hs bo hx hbo hc b1 b2 h
end
end Go.Own
namespace Go.Proofs.Ytphdpjfkpidofaa
open Go.RowKit Go.Own
namespace Byt
/-- an array of bytes of one's own, whole, may be given -/
theorem given_vals {B : Nat} {w0 w : World} {Ps : List Asn} (H : Own.St B w0 w Ps) (i : Nat) {b n : Nat} {t : TypeId} {l : List UInt8} (hi : Ps[i]? = some (A8 b t l)) (hn : l.length = n) (hm : n ≤ maxLen) : Given w (some ⟨b, 0, none⟩) n n l :=
  ⟨(A8.view H i hi).live.mono (fun _ hk => hk.2), hn, ⟨Nat.le_refl _, hm⟩, fun h => by cases h⟩
/-- a table of bytes of one's own may be given, whatever its blocks are called -/
theorem givenL_ownE {B : Nat} {w0 w : World} {Ps : List Asn} {v : Value} {e : TypeId} {L : List (List UInt8)} (H : Own.St B w0 w (AGrid 22 e byteV v L :: Ps)) : ∃ ao cap, v = .slice ao L.length cap ∧ GivenL w ao L.length cap L := by
  obtain ⟨rs, hl, h⟩ := H.gridOpen
  obtain ⟨ao, cap, rfl⟩ := h.rowForm 0 rfl
  obtain ⟨_, h1, h2, h3⟩ := h.rowLen 0 rfl
  refine ⟨ao, cap, rfl, rfl, ⟨h1, h2⟩, fun e => (h3 e).2, fun j hj => ?_⟩
  obtain ⟨g, rfl, ⟨u, hu, hc⟩, _, _⟩ := h.rowAt 0 rfl j (by omega)
  have hr : rs[j]? = some rs[j] := List.getElem?_eq_getElem (by omega)
  have hL : L[j]? = some L[j] := List.getElem?_eq_getElem hj
  rw [zip_at _ _ _ _ _ _ hr hL] at hu
  cases hu
  have hz := zip_at (gRow e byteV) rs L j _ _ hr hL
  have h4 : (gParts 22 e byteV (.slice (some ⟨g, 0, none⟩) L.length cap) rs L ++ Ps)[j + 1]? = some (ARow e 1 (.slice rs[j].1 L[j].length rs[j].2) L[j].length (L[j].map byteV)) := by
    unfold gParts
    rw [List.cons_append, List.getElem?_cons_succ, List.getElem?_append_left (List.getElem?_eq_some_iff.1 hz).1]
    exact hz
  have el : L.getD j [] = L[j] := by rw [List.getD_eq_getElem?_getD, hL]; rfl
  rw [el]
  obtain ⟨_, k1, k2, k3⟩ := h.rowLen (j + 1) h4
  obtain ⟨S, hS, hB, _⟩ := h.at (j + 1) h4
  refine ⟨g, 0, rs[j].1, rs[j].2, rfl, World.block_lt_of_cell? w _ hc, by rw [Nat.zero_add]; exact hc, ?_⟩
  exact ⟨(Row.view hS).live.mono (fun _ hk => hk.2), rfl, ⟨k1, k2⟩, fun h => (k3 h).2⟩
end Byt
namespace Pag
open Go.PagM Byt
theorem lay_errD (x : PagM.Bs × Nat) (k : Nat) (hx : x = ([], k)) {w w' : World} (h : Below w.heap.size w w') : LayDone x w (.returned (.tuple #[.slice none 0 0, errP k])) w' := by
  subst hx
  exact ⟨none, 0, rfl, ⟨.inl rfl, rfl, ⟨Nat.le_refl _, Nat.zero_le _⟩, fun _ => rfl⟩, h⟩
set_option maxRecDepth 10000 in
set_option maxHeartbeats 4000000 in
theorem layP_any (f : Frm) (ao : Option Addr) (n cap : Nat) (w : World) (hg : Given w ao n cap f.data) :
    Calls Try.prog 12 #[frV f.kind.toNat f.first f.last (.slice ao n cap)] w (LayDone (lay f) w) := by
  obtain ⟨kind, first, last, data⟩ := f
  obtain ⟨k, hk⟩ : ∃ k, k = kind.toNat := ⟨_, rfl⟩
  have hk255 : k ≤ 255 := by have := kind.toNat_lt; omega
  simp only at hg ⊢
  rw [← hk]
  have HN := Lib.hid hg.size
  obtain ⟨X, hX⟩ : ∃ X, X = lay ⟨kind, first, last, data⟩ := ⟨_, rfl⟩
  rw [← hX]
  have hbox := (Own.St.start w).boxV 24 (frC k first last (.slice ao n cap)).toList
  have q0 := (hbox.cellV 0 rfl 0 rfl).1
  have q3 := (hbox.cellV 0 rfl 3 rfl).1
  by_cases h63 : (63 : Int) < (k : Int)
  · have HX : Hid (X = ([], 1)) := by
      show X = _
      have e : layE ⟨kind, first, last, data⟩ = 1 := by unfold layE; rw [if_pos (by simp only; omega)]
      rw [hX]; unfold lay; rw [e]; rfl
    clear hX hk hg hbox
    go_enter Try.func12, Try.ntmps12
    go_wp2
    go_ret2
    exact lay_errD X 1 HX.out ((Own.St.start w).alloc _).below
  by_cases h125 : (125 : Int) < (n : Int)
  · have HX : Hid (X = ([], 4)) := by
      show X = _
      have e : layE ⟨kind, first, last, data⟩ = 4 := by unfold layE; rw [if_neg (by simp only; omega), if_pos (by simp only; rw [HN.out]; omega)]
      rw [hX]; unfold lay; rw [e]; rfl
    clear hX hk hg hbox
    go_enter Try.func12, Try.ntmps12
    go_wp2
    go_ret2
    exact lay_errD X 4 HX.out ((Own.St.start w).alloc _).below
  have h0 : layE ⟨kind, first, last, data⟩ = 0 := layE_ok (by simp only; omega) (by simp only; rw [HN.out]; omega)
  obtain ⟨Y, hY⟩ : ∃ Y, Y = laid ⟨kind, first, last, data⟩ := ⟨_, rfl⟩
  have HX : Hid (X = (Y, 0)) := by
    show X = _
    rw [hX, hY]
    unfold lay
    rw [if_pos h0]
  have hYl : Y.length = 128 := by rw [hY]; exact laid_len _ (by rw [HN.out]; omega)
  have CL0 := lay_any ⟨kind, first, last, data⟩ ao n cap (w.alloc (.cells (frC k first last (.slice ao n cap)) 24)) (hg.later hbox.below) (by simp only; omega) (by omega)
  simp only at CL0
  rw [← hY, ← hk] at CL0
  have CL := Lib.hid CL0
  have ROW := Lib.hid (hbox.rowV 0 rfl)
  obtain ⟨z, hz⟩ : ∃ z, z = ((List.replicate 128 (0 : UInt8)).map byteV).toArray := ⟨_, rfl⟩
  have ZP : Hid ((Try.prog.info? 47).bind (·.zero) = some (.agg z)) := by rw [hz]; exact zero_page
  have HZ := Lib.hid hz
  have HB := Lib.hid hbox
  have HYL := Lib.hid hYl
  have IB := Lib.hid (info_page Y hYl)
  have OB := Lib.hid (one8 Y)
  clear hX hk hg hbox hY hYl CL0 hz h0
  go_enter Try.func12, Try.ntmps12
  go_wp2_with (refine wpList_load_row rfl 24 (.tmp 1) rfl w.heap.size rfl 24 _ (0, 0) _ ROW.out Try.underlying24 rfl (info_frame _ rfl) ?_)
  refine CL.out.mono ?_
  clear CL ROW q0 q3
  rintro e w3 ⟨rfl, hb3⟩
  have h3 := HB.out.later hb3
  obtain ⟨b4, hb4⟩ : ∃ b, b = w3.heap.size := ⟨_, rfl⟩
  obtain ⟨W4, hW4⟩ : ∃ W, W = w3.alloc (.cells z 47) := ⟨_, rfl⟩
  have h4 := A8.box h3 47 (List.replicate 128 0)
  rw [← HZ.out, ← hb4, ← hW4] at h4
  have TH := Lib.hid (A8.there h4 0 rfl Y (by rw [HYL.out]; rfl))
  have h5 := A8.setAll h4 0 rfl Y (by rw [HYL.out]; rfl)
  simp only [List.set_cons_zero] at h5
  have H5 := Lib.hid h5
  have HB4 := Lib.hid hb4
  have HW4 := Lib.hid hW4
  clear hb3 h3 hb4 hW4 h4 h5
  go_wp2_with (first
    | (refine Own.wpList_allocZ rfl 47 rfl z ZP.out ?_; rw [← HB4.out, ← HW4.out])
    | (refine wpList_store_mid rfl 47 (.tmp 4) (.tmp 13) rfl b4 0 (Y.map byteV).toArray rfl rfl TH.out IB.out OB.out ?_))
  go_ret2
  rw [HX.out]
  refine ⟨some ⟨b4, 0, none⟩, 128, ?_, ?_, H5.out.below⟩
  · simp only [HYL.out]; rfl
  · simp only [HYL.out]
    exact given_vals H5.out 0 rfl HYL.out (by decide)
end Pag
end Go.Proofs.Ytphdpjfkpidofaa
