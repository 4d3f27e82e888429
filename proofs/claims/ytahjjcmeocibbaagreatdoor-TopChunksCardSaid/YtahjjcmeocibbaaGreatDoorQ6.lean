/- Merged: PgaA PgaB PgaC PgaD PgaE LgaA PgaF RedA RedB RedC -/
import Derived.Great.Walk
import Derived.Laws.BitsAllLaws
import Derived.Laws.Cover3
import Derived.Test.YtahjjcmeocibbaaGreatDoorQ3
import Derived.Test.YtahjjcmeocibbaaGreatDoorQ4
import Derived.Test.YtahjjcmeocibbaaGreatDoorQ5
set_option linter.unusedVariables false
section
namespace Go.Own
open Go.RowKit
section
variable {B : Nat} {w0 w : World} {Ps : List Asn} {b : Nat} {t : TypeId} {vs : List Value}
theorem St.setMid (i : Nat) : ∀ (r : List Value) (o : Nat) (w : World) (Ps : List Asn) (vs : List Value), St B w0 w Ps -> Ps[i]? = some (AVals b t vs) -> o + r.length <= vs.length ->
 St B w0 (w.setCells b o r) (Ps.set i (AVals b t (vs.take o ++ r ++ vs.drop (o + r.length))))
 | [], o, w, Ps, l, h, hi, hl => by
  have ee : l.take o ++ [] ++ l.drop (o + ([] : List Value).length) = l := by simp
  rw [ee]
  have hs : Ps.set i (AVals b t l) = Ps := by
   apply List.ext_getElem?
   intro j
   by_cases hj : j = i
   · subst hj
     rw [List.getElem?_set_self (List.getElem?_eq_some_iff.1 hi).1, hi]
   · rw [List.getElem?_set_ne (Ne.symm hj)]
  rw [hs]
  exact h
 | c :: r, o, w, Ps, l, h, hi, hl => by
  have put := h.storeV i hi o c
  have hlt : i < Ps.length := (List.getElem?_eq_some_iff.1 hi).1
  have h2 := St.setMid i r (o + 1) _ _ (l.set o c) put (by rw [List.getElem?_set_self hlt]) (by simp at hl ⊢; omega)
  rw [List.set_set] at h2
  have ho : o < l.length := by simp at hl; omega
  have ee : (l.set o c).take (o + 1) ++ r ++ (l.set o c).drop (o + 1 + r.length) = l.take o ++ (c :: r) ++ l.drop (o + (c :: r).length) := by
   have e0 : (l.set o c).take o = l.take o := by
    apply List.ext_getElem?
    intro j
    by_cases hj : j < o
    · rw [List.getElem?_take_of_lt hj, List.getElem?_take_of_lt hj, List.getElem?_set_ne (by omega)]
    · rw [List.getElem?_eq_none (by simp; omega), List.getElem?_eq_none (by simp; omega)]
   have e1 : (l.set o c).drop (o + 1 + r.length) = l.drop (o + (c :: r).length) := by
    apply List.ext_getElem?
    intro j
    rw [List.getElem?_drop, List.getElem?_drop, List.getElem?_set_ne (by omega)]
    congr 1
    simp
    omega
   rw [List.take_succ_eq_append_getElem (by simpa using ho), e0, e1]
   simp
  rw [ee] at h2
  exact h2
theorem St.valsRow {n : Nat} (H : St B w0 w (AVals b t vs :: Ps)) (hn : vs.length = n) (hm : n <= maxLen) : St B w0 w (ARow t 1 (.slice (some ⟨b, 0, none⟩) n n) n vs :: Ps) := by
 obtain ⟨S, hS, _, put⟩ := H.at 0 rfl
 refine put S w (ARow t 1 (.slice (some ⟨b, 0, none⟩) n n) n vs) ⟨⟨by rw [hn]; omega, .inr ⟨b, n, vs.toArray, rfl, Nat.zero_le _, hS.1, Nat.le_refl _, hm, by simp [hn], by simp [<- hn]⟩⟩, fun k => ?_⟩ (Step.refl S w)
 rw [hS.2 k]
 simp [Value.ownBlock, eq_comm]
end
end Go.Own
namespace Go.PagM
def raw (c d : UInt8) : Bs := c :: d :: (List.replicate 125 0 ++ [90])
theorem raw_len (c d : UInt8) : (raw c d).length = 128 := by simp [raw]
theorem raw_set (c d e : UInt8) : (raw c d).set 0 e = raw e d := rfl
theorem raw_laid (f : Frm) (h : f.data.length <= 125) : (raw (UInt8.ofNat (headN f)) (UInt8.ofNat f.data.length)).take 2 ++ f.data ++ (raw (UInt8.ofNat (headN f)) (UInt8.ofNat f.data.length)).drop (2 + f.data.length) = laid f := by
 unfold raw laid
 rw [Nat.add_comm 2, List.drop_succ_cons, List.drop_succ_cons, List.drop_append_of_le_length (by simp; omega), List.drop_replicate]
 rfl
end Go.PagM
namespace Go.Proofs.YtahjjcmeocibbaaGreatDoor
open Go.RowKit Go.Own
namespace Pag
open Go.PagM Byt
theorem info_page (l : Bs) (h : l.length = 128) : (Tryz.prog.info? 113).map (·.size) = some (l.map byteV).toArray.size := by
 have e : (l.map byteV).toArray.size = 128 := by simp [h]
 have h0 : (Tryz.prog.info? 113).map (fun i => i.size) = some 128 := by kernel_rfl
 rw [e]
 exact h0
theorem info_pageL (l : Bs) (h : l.length = 128) : (Tryz.prog.info? 113).map (·.size) = some (l.map byteV).length := by
 have h0 : (Tryz.prog.info? 113).map (fun i => i.size) = some 128 := by kernel_rfl
 rw [List.length_map, h]
 exact h0
theorem zero_page : (Tryz.prog.info? 113).bind (·.zero) = some (.agg ((List.replicate 128 (0 : UInt8)).map byteV).toArray) := by kernel_rfl
theorem built_raw (x y : Int) : Tryz.prog.built 113 [(0, .int .u8 x), (1, .int .u8 y), (127, .int .u8 90)] = some (.int .u8 x :: .int .u8 y :: ((List.replicate 125 (0 : UInt8) ++ [90]).map byteV)).toArray := by kernel_rfl
set_option maxRecDepth 100000 in
theorem or64 : ∀ k : Nat, k < 64 -> bits .or .u8 (k : Int) 64 = ((k + 64 : Nat) : Int) := by decide
set_option maxRecDepth 100000 in
theorem or128 : ∀ k : Nat, k < 128 -> bits .or .u8 (k : Int) 128 = ((k + 128 : Nat) : Int) := by decide
set_option maxRecDepth 100000 in
theorem and63 : ∀ k : Nat, k < 256 -> bits .and .u8 (k : Int) 63 = ((k % 64 : Nat) : Int) := by decide
set_option maxRecDepth 100000 in
theorem and64 : ∀ k : Nat, k < 256 -> (bits .and .u8 (k : Int) 64 != 0) = decide (k / 64 % 2 = 1) := by decide
set_option maxRecDepth 100000 in
theorem and128 : ∀ k : Nat, k < 256 -> (bits .and .u8 (k : Int) 128 != 0) = decide (k / 128 = 1) := by decide
theorem wpList_a8_copy {ops : Array Oper} {rest : List Oper} {o : Oper} {a : Act} {w : World} {Q : Exit -> Act -> World -> Prop} {B : Nat} {w0 : World} {Ps : List Asn} (hgd : o.guard = none) (d s : Operand)
 (ho : o.op = .call { callee := .builtin .copy, args := #[d, s], argTypes := #[37, 37] }) (H : Own.St B w0 w Ps) (i : Nat) {b k nn cc : Nat} {t : TypeId} {l : List UInt8} (hi : Ps[i]? = some (A8 b t l)) (hd : a.eval d = .slice (some ⟨b, k, none⟩) nn cc)
 (bo : Option Addr) (m c : Nat) (news : List UInt8) (hx : a.eval s = .slice bo m c) (hl : news.length = m) (hmn : m <= nn) (hkl : k + nn <= l.length) (hno : bo = none -> m = 0)
 (hc : ∀ a, bo = some a -> ∀ j u, (news.map byteV)[j]? = some u -> w.cell? (a.add j) = some u)
 (h : ∀ w', Own.St B w0 w' (Ps.set i (A8 b t (l.take k ++ news ++ l.drop (k + m)))) -> wpList Tryz.prog ops Q rest (a.put o.dst (goInt m)) w') : wpList Tryz.prog ops Q (o :: rest) a w := by
 refine wpList_plain hgd fun K hK => ?_
 have hset := Own.St.setMid i (news.map byteV) k w Ps (l.map byteV) H hi (by simp; omega)
 have e : AVals b t ((l.map byteV).take k ++ news.map byteV ++ (l.map byteV).drop (k + (news.map byteV).length)) = A8 b t (l.take k ++ news ++ l.drop (k + m)) := by
  unfold A8
  rw [List.map_append, List.map_append, List.map_take, List.map_drop, List.length_map, hl]
 rw [e] at hset
 have hcells : ∀ j, j < (news.map byteV).length -> (w.cell? ⟨b, k + j, none⟩).isSome = true /\ w.frozen? ⟨b, k + j, none⟩ = false := by
  intro j hj
  rw [List.length_map] at hj
  obtain ⟨h1, h2⟩ := A8.cell H i hi (k + j) (by omega)
  exact ⟨by rw [h1]; rfl, h2⟩
 have hrun : (Builtin.copy_ #[37, 37] o.type #[.slice (some ⟨b, k, none⟩) nn cc, .slice bo m c]).run Tryz.prog w = .ok (goInt m) (w.setCells b k (news.map byteV)) := by
  cases bo with
  | none =>
   have hm := hno rfl
   subst hm
   obtain rfl : news = [] := List.eq_nil_of_length_eq_zero hl
   exact run_copy_none (P := Tryz.prog) w 37 37 o.type 5 _ none nn cc 0 c Tryz.underlying37 info8 (Nat.min_eq_left (Nat.zero_le _))
  | some ad =>
   have := run_copy_cells (P := Tryz.prog) w 37 37 o.type 5 b k nn cc ad m c (news.map byteV) Tryz.underlying37 info8 (by rw [List.length_map, hl]; exact (Nat.min_eq_left hmn).symm) (hc ad rfl) (fun j hj => (hcells j hj).1) (fun j hj => (hcells j hj).2) (byteV_one _)
   rw [List.length_map, hl] at this
   exact this
 unfold Oper.wp
 simp [execOp, ho, resolve, invoke, builtin, hd, hx, hrun, Result.andThen]
 exact hK _ _ (h _ hset)
set_option maxRecDepth 10000 in
set_option maxHeartbeats 8000000 in
theorem lay_any (f : Frm) (ao : Option Addr) (n cap : Nat) (w : World) (hg : Given w ao n cap f.data) (hk : f.kind.toNat <= 63) (hn : n <= 125) :
 Calls Tryz.prog 55 #[frV f.kind.toNat f.first f.last (.slice ao n cap)] w fun e w' => e = .returned (.agg ((laid f).map byteV).toArray) /\ Below w.heap.size w w' := by
 have H := Own.St.start w
 have hdl := hg.size
 have hrl := raw_laid f (by rw [hdl]; exact hn)
 have hhl := headN_lt hk
 obtain ⟨X, hX⟩ : ∃ X, X = laid f := ⟨_, rfl⟩
 rw [<- hX] at hrl ⊢
 have hXl : X.length = 128 := by rw [hX]; exact laid_len f (by rw [hdl]; exact hn)
 obtain ⟨h, hh⟩ : ∃ h, h = UInt8.ofNat (headN f) := ⟨_, rfl⟩
 have hhn : h.toNat = headN f := by rw [hh]; exact ofNat_toNat _ hhl
 rw [<- hh] at hrl
 obtain ⟨d, hd⟩ : ∃ d, d = UInt8.ofNat f.data.length := ⟨_, rfl⟩
 have hdn : (n : Int) = (d.toNat : Int) := by rw [hd, ofNat_toNat _ (by omega), hdl]
 rw [<- hd, hdl] at hrl
 unfold headN at hhn
 obtain ⟨kind, first, last, data⟩ := f
 simp only at hg hk hdl hrl hhn ⊢
 obtain ⟨k, hkk⟩ : ∃ k, k = kind.toNat := ⟨_, rfl⟩
 rw [<- hkk] at hk hhn ⊢
 have HD := Lib.hid hdl
 have HRL := Lib.hid hrl
 have HXL := Lib.hid hXl
 have HG := Lib.hid hg
 obtain ⟨z, hz⟩ : ∃ z, z = ((List.replicate 128 (0 : UInt8)).map byteV).toArray := ⟨_, rfl⟩
 have ZP : Hid ((Tryz.prog.info? 113).bind (·.zero) = some (.agg z)) := by rw [hz]; exact zero_page
 obtain ⟨br, hbr⟩ : ∃ b, b = (w.alloc (.cells (frC k first last (.slice ao n cap)) 116)).heap.size := ⟨_, rfl⟩
 obtain ⟨W2, hW2⟩ : ∃ W, W = (w.alloc (.cells (frC k first last (.slice ao n cap)) 116)).alloc (.cells z 113) := ⟨_, rfl⟩
 obtain ⟨bp, hbp⟩ : ∃ b, b = W2.heap.size := ⟨_, rfl⟩
 obtain ⟨W3, hW3⟩ : ∃ W, W = W2.alloc (.cells z 113) := ⟨_, rfl⟩
 have hbox := ((H.boxV 116 (frC k first last (.slice ao n cap)).toList))
 have hb1 := A8.box hbox 113 (List.replicate 128 0)
 rw [<- hz] at hb1
 simp only at hb1
 rw [<- hbr, <- hW2] at hb1
 have hb2 := A8.box hb1 113 (List.replicate 128 0)
 rw [<- hz, <- hbp, <- hW3] at hb2
 obtain ⟨d0, hd0⟩ : ∃ d0, d0 = raw kind d := ⟨_, rfl⟩
 have hdl0 : d0.length = 128 := by rw [hd0]; exact raw_len _ _
 have TH := Lib.hid (A8.there hb2 0 rfl d0 (by rw [hdl0]; rfl))
 have h4 := A8.setAll hb2 0 rfl d0 (by rw [hdl0]; rfl)
 simp only [List.set_cons_zero] at h4
 obtain ⟨W4, hW4⟩ : ∃ W, W = W3.setCells bp 0 (d0.map byteV).toArray.toList := ⟨_, rfl⟩
 rw [<- hW4] at h4
 have HW2 := Lib.hid hW2
 have HW3 := Lib.hid hW3
 have HW4 := Lib.hid hW4
 have HBR := Lib.hid hbr
 have HBP := Lib.hid hbp
 have H4 := Lib.hid h4
 have IB := Lib.hid (info_page d0 hdl0)
 have OB := Lib.hid (one8 d0)
 have BE : Hid (Tryz.prog.built 113 [(0, .int .u8 (k : Int)), (1, .int .u8 (d.toNat : Int)), (127, .int .u8 90)] = some (d0.map byteV).toArray) := by
  rw [hd0, hkk]; exact built_raw _ _
 have q0 := (hb2.cellV 2 rfl 0 rfl).1
 have q3 := (hb2.cellV 2 rfl 3 rfl).1
 have q02 := (hb1.cellV 1 rfl 0 rfl).1
 have q32 := (hb1.cellV 1 rfl 3 rfl).1
 have IX := Lib.hid (info_page X hXl)
 have OX := Lib.hid (one8 X)
 have HD0 := Lib.hid hd0
 have HDL := Lib.hid hdl0
 have HKK := Lib.hid hkk
 clear hz hW4 hW2 hW3 hbr hbp hbox hb2 hb1 hd0 hdl0 h4 hkk hd hdl hrl hXl hg H hh hX
 cases first <;> cases last
 · simp only [if_false, Bool.false_eq_true, Nat.add_zero] at hhn
   have p1 := (H4.out.cellV 2 rfl 1 rfl).1
   have c0 := A8.cell H4.out 0 rfl 0 (by rw [HDL.out]; decide)
   rw [HD0.out, show ((raw kind d).getD 0 0).toNat = k from HKK.out.symm] at c0
   have p2 := (H4.out.cellV 2 rfl 2 rfl).1
   have hfin : kind = h := UInt8.toNat_inj.1 (by have := HKK.out; omega)
   subst hfin
   have H7 := H4.out
   simp only [HD0.out] at H7
   have H7 := Lib.hid H7
   clear hhn 
   go_enter Tryz.func55, Tryz.ntmps55
   go_wp2_with (first
    | (refine Own.wpList_allocZ rfl 113 rfl z ZP.out ?_; rw [<- HBR.out, <- HW2.out])
    | (refine Own.wpList_allocZ rfl 113 rfl z ZP.out ?_; rw [<- HBP.out, <- HW3.out])
    | (refine Own.wpList_built rfl 113 #[(0, .tmp 5), (1, .tmp 9), (127, .const (.int .u8 90))] rfl (d0.map byteV).toArray ?_ ?_; · (simp only [List.map_toArray, List.map_cons, List.map_nil, List.toList_toArray]; exact BE.out))
    | (refine wpList_store_mid rfl 113 (.tmp 3) (.tmp 10) rfl bp 0 (d0.map byteV).toArray rfl rfl TH.out IB.out OB.out ?_; rw [<- HW4.out]))
   generalize W4 = W7 at H7 ⊢
   have GW := HG.out.later H7.out.below
   have P3 : Hid (∀ wx, Below W7.heap.size W7 wx -> wx.cell? ⟨w.heap.size, 3, none⟩ = some (.slice ao n cap)) := fun wx hwx => ((H7.out.later hwx).cellV 2 rfl 3 rfl).1
   refine wp_laxW_list 3 (by kernel_rfl) (by kernel_rfl) (by kernel_rfl) (by kernel_rfl) (by kernel_rfl) ?_
   simp only [List.take_succ_cons, List.take_zero, List.drop_succ_cons, List.drop_zero]
   refine lxR (.tmp 3) (.pointer (some ⟨bp, 0, none⟩)) (.slice (some ⟨bp, 2, none⟩) 126 126) (fun wx ρ hwx h0 hc => by simp [go_sem, h0, hc]) ?_; refine lxA (.tmp 1) (.pointer (some ⟨w.heap.size, 0, none⟩)) (.pointer (some ⟨w.heap.size, 3, none⟩)) ?_; refine lxR (.tmp 24) (.pointer (some ⟨w.heap.size, 3, none⟩)) (.slice ao n cap) (fun wx ρ hwx h0 hc => by simp [go_sem, h0, P3.out wx hwx]) ?_
   refine wpL_end (by kernel_rfl) (fun w8 hw8 => ?_)
   simp only [FinL, setL, List.set_cons_zero, List.set_cons_succ]
   intro _
   have H8 := Lib.hid (H7.out.later hw8)
   have G8 := GW.later hw8
   have HC := Lib.hid (vcells G8.view)
   have HNO := Lib.hid (given_nil G8)
   clear hw8 P3 H7 G8 GW
   go_wp2_with (first
    | (refine wpList_a8_copy rfl (.tmp 23) (.tmp 25) rfl H8.out 0 (l := raw kind d) rfl rfl ao n cap data rfl HD.out (by omega) (by rw [raw_len]; decide) (fun h => (HNO.out h).1) HC.out ?_; intro w9 h9; rw [HRL.out] at h9; simp only [List.set_cons_zero] at h9; have ROW := Lib.hid (A8.row h9 0 rfl); have TH9 := Lib.hid (A8.there h9 1 rfl X (by rw [HXL.out]; rfl)); have LAST := Lib.hid (A8.setAll h9 1 rfl X (by rw [HXL.out]; rfl)); clear h9)
    | (refine wpList_load_row rfl 113 (.tmp 3) rfl bp rfl 113 _ (0, 0) _ ROW.out Tryz.underlying113 rfl IX.out ?_)
    | (refine wpList_store_mid rfl 113 (.tmp 2) (.tmp 27) rfl br 0 (X.map byteV).toArray rfl rfl TH9.out IX.out OX.out ?_))
   have END := Lib.hid (A8.row LAST.out 1 rfl)
   refine bodyPost_ret (results_cell_row rfl _ _ br 113 _ (0, 0) _ rfl END.out Tryz.underlying113 rfl IX.out) rfl ?_
   exact ⟨rfl, LAST.out.below⟩
 · simp only [if_true, if_false, Bool.false_eq_true, Nat.add_zero] at hhn
   have p1 := (H4.out.cellV 2 rfl 1 rfl).1
   have c0 := A8.cell H4.out 0 rfl 0 (by rw [HDL.out]; decide)
   rw [HD0.out, show ((raw kind d).getD 0 0).toNat = k from HKK.out.symm] at c0
   have p2 := (H4.out.cellV 2 rfl 2 rfl).1
   obtain ⟨u2, hu2⟩ : ∃ u, u = UInt8.ofNat (k + 128) := ⟨_, rfl⟩
   have hu2n : u2.toNat = k + 128 := by rw [hu2]; exact ofNat_toNat _ (by omega)
   have e128 : bits .or .u8 (k : Int) 128 = (u2.toNat : Int) := by rw [or128 (k) (by omega), hu2n]
   have H6 := Lib.hid (A8.store H4.out 0 rfl 0 u2)
   have hfin : u2 = h := UInt8.toNat_inj.1 (by have := HKK.out; omega)
   subst hfin
   have H7 := H6.out
   simp only [List.set_cons_zero, HD0.out, raw_set] at H7
   have H7 := Lib.hid H7
   clear hhn hu2 hu2n H6
   go_enter Tryz.func55, Tryz.ntmps55
   go_wp2_with (first
    | (refine Own.wpList_allocZ rfl 113 rfl z ZP.out ?_; rw [<- HBR.out, <- HW2.out])
    | (refine Own.wpList_allocZ rfl 113 rfl z ZP.out ?_; rw [<- HBP.out, <- HW3.out])
    | (refine Own.wpList_built rfl 113 #[(0, .tmp 5), (1, .tmp 9), (127, .const (.int .u8 90))] rfl (d0.map byteV).toArray ?_ ?_; · (simp only [List.map_toArray, List.map_cons, List.map_nil, List.toList_toArray]; exact BE.out))
    | (refine wpList_store_mid rfl 113 (.tmp 3) (.tmp 10) rfl bp 0 (d0.map byteV).toArray rfl rfl TH.out IB.out OB.out ?_; rw [<- HW4.out]))
   have H7 := H7.out
   generalize (W4.setCell ⟨bp, 0, none⟩ (.int .u8 (u2.toNat : Int))) = W7 at H7 ⊢
   have H7 := Lib.hid H7
   have GW := HG.out.later H7.out.below
   have P3 : Hid (∀ wx, Below W7.heap.size W7 wx -> wx.cell? ⟨w.heap.size, 3, none⟩ = some (.slice ao n cap)) := fun wx hwx => ((H7.out.later hwx).cellV 2 rfl 3 rfl).1
   refine wp_laxW_list 3 (by kernel_rfl) (by kernel_rfl) (by kernel_rfl) (by kernel_rfl) (by kernel_rfl) ?_
   simp only [List.take_succ_cons, List.take_zero, List.drop_succ_cons, List.drop_zero]
   refine lxR (.tmp 3) (.pointer (some ⟨bp, 0, none⟩)) (.slice (some ⟨bp, 2, none⟩) 126 126) (fun wx ρ hwx h0 hc => by simp [go_sem, h0, hc]) ?_; refine lxA (.tmp 1) (.pointer (some ⟨w.heap.size, 0, none⟩)) (.pointer (some ⟨w.heap.size, 3, none⟩)) ?_; refine lxR (.tmp 24) (.pointer (some ⟨w.heap.size, 3, none⟩)) (.slice ao n cap) (fun wx ρ hwx h0 hc => by simp [go_sem, h0, P3.out wx hwx]) ?_
   refine wpL_end (by kernel_rfl) (fun w8 hw8 => ?_)
   simp only [FinL, setL, List.set_cons_zero, List.set_cons_succ]
   intro _
   have H8 := Lib.hid (H7.out.later hw8)
   have G8 := GW.later hw8
   have HC := Lib.hid (vcells G8.view)
   have HNO := Lib.hid (given_nil G8)
   clear hw8 P3 H7 G8 GW
   go_wp2_with (first
    | (refine wpList_a8_copy rfl (.tmp 23) (.tmp 25) rfl H8.out 0 (l := raw u2 d) rfl rfl ao n cap data rfl HD.out (by omega) (by rw [raw_len]; decide) (fun h => (HNO.out h).1) HC.out ?_; intro w9 h9; rw [HRL.out] at h9; simp only [List.set_cons_zero] at h9; have ROW := Lib.hid (A8.row h9 0 rfl); have TH9 := Lib.hid (A8.there h9 1 rfl X (by rw [HXL.out]; rfl)); have LAST := Lib.hid (A8.setAll h9 1 rfl X (by rw [HXL.out]; rfl)); clear h9)
    | (refine wpList_load_row rfl 113 (.tmp 3) rfl bp rfl 113 _ (0, 0) _ ROW.out Tryz.underlying113 rfl IX.out ?_)
    | (refine wpList_store_mid rfl 113 (.tmp 2) (.tmp 27) rfl br 0 (X.map byteV).toArray rfl rfl TH9.out IX.out OX.out ?_))
   have END := Lib.hid (A8.row LAST.out 1 rfl)
   refine bodyPost_ret (results_cell_row rfl _ _ br 113 _ (0, 0) _ rfl END.out Tryz.underlying113 rfl IX.out) rfl ?_
   exact ⟨rfl, LAST.out.below⟩
 · simp only [if_true, if_false, Bool.false_eq_true, Nat.add_zero] at hhn
   have p1 := (H4.out.cellV 2 rfl 1 rfl).1
   have c0 := A8.cell H4.out 0 rfl 0 (by rw [HDL.out]; decide)
   rw [HD0.out, show ((raw kind d).getD 0 0).toNat = k from HKK.out.symm] at c0
   obtain ⟨u1, hu1⟩ : ∃ u, u = UInt8.ofNat (k + 64) := ⟨_, rfl⟩
   have hu1n : u1.toNat = k + 64 := by rw [hu1]; exact ofNat_toNat _ (by omega)
   have e64 : bits .or .u8 (k : Int) 64 = (u1.toNat : Int) := by rw [or64 k (by omega), hu1n]
   have H5 := Lib.hid (A8.store H4.out 0 rfl 0 u1)
   have g0 := A8.cell H5.out 0 rfl 0 (by rw [List.length_set, HDL.out]; decide)
   rw [HD0.out, raw_set, show ((raw u1 d).getD 0 0).toNat = u1.toNat from rfl] at g0
   have p2 := (H5.out.cellV 2 rfl 2 rfl).1
   have hfin : u1 = h := UInt8.toNat_inj.1 (by have := HKK.out; omega)
   subst hfin
   have H7 := H5.out
   simp only [List.set_cons_zero, HD0.out, raw_set] at H7
   have H7 := Lib.hid H7
   clear hhn hu1 hu1n H5
   go_enter Tryz.func55, Tryz.ntmps55
   go_wp2_with (first
    | (refine Own.wpList_allocZ rfl 113 rfl z ZP.out ?_; rw [<- HBR.out, <- HW2.out])
    | (refine Own.wpList_allocZ rfl 113 rfl z ZP.out ?_; rw [<- HBP.out, <- HW3.out])
    | (refine Own.wpList_built rfl 113 #[(0, .tmp 5), (1, .tmp 9), (127, .const (.int .u8 90))] rfl (d0.map byteV).toArray ?_ ?_; · (simp only [List.map_toArray, List.map_cons, List.map_nil, List.toList_toArray]; exact BE.out))
    | (refine wpList_store_mid rfl 113 (.tmp 3) (.tmp 10) rfl bp 0 (d0.map byteV).toArray rfl rfl TH.out IB.out OB.out ?_; rw [<- HW4.out]))
   have H7 := H7.out
   generalize (W4.setCell ⟨bp, 0, none⟩ (.int .u8 (u1.toNat : Int))) = W7 at H7 ⊢
   have H7 := Lib.hid H7
   have GW := HG.out.later H7.out.below
   have P3 : Hid (∀ wx, Below W7.heap.size W7 wx -> wx.cell? ⟨w.heap.size, 3, none⟩ = some (.slice ao n cap)) := fun wx hwx => ((H7.out.later hwx).cellV 2 rfl 3 rfl).1
   refine wp_laxW_list 3 (by kernel_rfl) (by kernel_rfl) (by kernel_rfl) (by kernel_rfl) (by kernel_rfl) ?_
   simp only [List.take_succ_cons, List.take_zero, List.drop_succ_cons, List.drop_zero]
   refine lxR (.tmp 3) (.pointer (some ⟨bp, 0, none⟩)) (.slice (some ⟨bp, 2, none⟩) 126 126) (fun wx ρ hwx h0 hc => by simp [go_sem, h0, hc]) ?_; refine lxA (.tmp 1) (.pointer (some ⟨w.heap.size, 0, none⟩)) (.pointer (some ⟨w.heap.size, 3, none⟩)) ?_; refine lxR (.tmp 24) (.pointer (some ⟨w.heap.size, 3, none⟩)) (.slice ao n cap) (fun wx ρ hwx h0 hc => by simp [go_sem, h0, P3.out wx hwx]) ?_
   refine wpL_end (by kernel_rfl) (fun w8 hw8 => ?_)
   simp only [FinL, setL, List.set_cons_zero, List.set_cons_succ]
   intro _
   have H8 := Lib.hid (H7.out.later hw8)
   have G8 := GW.later hw8
   have HC := Lib.hid (vcells G8.view)
   have HNO := Lib.hid (given_nil G8)
   clear hw8 P3 H7 G8 GW
   go_wp2_with (first
    | (refine wpList_a8_copy rfl (.tmp 23) (.tmp 25) rfl H8.out 0 (l := raw u1 d) rfl rfl ao n cap data rfl HD.out (by omega) (by rw [raw_len]; decide) (fun h => (HNO.out h).1) HC.out ?_; intro w9 h9; rw [HRL.out] at h9; simp only [List.set_cons_zero] at h9; have ROW := Lib.hid (A8.row h9 0 rfl); have TH9 := Lib.hid (A8.there h9 1 rfl X (by rw [HXL.out]; rfl)); have LAST := Lib.hid (A8.setAll h9 1 rfl X (by rw [HXL.out]; rfl)); clear h9)
    | (refine wpList_load_row rfl 113 (.tmp 3) rfl bp rfl 113 _ (0, 0) _ ROW.out Tryz.underlying113 rfl IX.out ?_)
    | (refine wpList_store_mid rfl 113 (.tmp 2) (.tmp 27) rfl br 0 (X.map byteV).toArray rfl rfl TH9.out IX.out OX.out ?_))
   have END := Lib.hid (A8.row LAST.out 1 rfl)
   refine bodyPost_ret (results_cell_row rfl _ _ br 113 _ (0, 0) _ rfl END.out Tryz.underlying113 rfl IX.out) rfl ?_
   exact ⟨rfl, LAST.out.below⟩
 · simp only [if_true] at hhn
   have p1 := (H4.out.cellV 2 rfl 1 rfl).1
   have c0 := A8.cell H4.out 0 rfl 0 (by rw [HDL.out]; decide)
   rw [HD0.out, show ((raw kind d).getD 0 0).toNat = k from HKK.out.symm] at c0
   obtain ⟨u1, hu1⟩ : ∃ u, u = UInt8.ofNat (k + 64) := ⟨_, rfl⟩
   have hu1n : u1.toNat = k + 64 := by rw [hu1]; exact ofNat_toNat _ (by omega)
   have e64 : bits .or .u8 (k : Int) 64 = (u1.toNat : Int) := by rw [or64 k (by omega), hu1n]
   have H5 := Lib.hid (A8.store H4.out 0 rfl 0 u1)
   have g0 := A8.cell H5.out 0 rfl 0 (by rw [List.length_set, HDL.out]; decide)
   rw [HD0.out, raw_set, show ((raw u1 d).getD 0 0).toNat = u1.toNat from rfl] at g0
   have p2 := (H5.out.cellV 2 rfl 2 rfl).1
   obtain ⟨u2, hu2⟩ : ∃ u, u = UInt8.ofNat (u1.toNat + 128) := ⟨_, rfl⟩
   have hu2n : u2.toNat = u1.toNat + 128 := by rw [hu2]; exact ofNat_toNat _ (by omega)
   have e128 : bits .or .u8 (u1.toNat : Int) 128 = (u2.toNat : Int) := by rw [or128 (u1.toNat) (by omega), hu2n]
   have H6 := Lib.hid (A8.store H5.out 0 rfl 0 u2)
   have hfin : u2 = h := UInt8.toNat_inj.1 (by have := HKK.out; omega)
   subst hfin
   have H7 := H6.out
   simp only [List.set_cons_zero, HD0.out, raw_set] at H7
   have H7 := Lib.hid H7
   clear hhn hu1 hu1n H5 hu2 hu2n H6
   go_enter Tryz.func55, Tryz.ntmps55
   go_wp2_with (first
    | (refine Own.wpList_allocZ rfl 113 rfl z ZP.out ?_; rw [<- HBR.out, <- HW2.out])
    | (refine Own.wpList_allocZ rfl 113 rfl z ZP.out ?_; rw [<- HBP.out, <- HW3.out])
    | (refine Own.wpList_built rfl 113 #[(0, .tmp 5), (1, .tmp 9), (127, .const (.int .u8 90))] rfl (d0.map byteV).toArray ?_ ?_; · (simp only [List.map_toArray, List.map_cons, List.map_nil, List.toList_toArray]; exact BE.out))
    | (refine wpList_store_mid rfl 113 (.tmp 3) (.tmp 10) rfl bp 0 (d0.map byteV).toArray rfl rfl TH.out IB.out OB.out ?_; rw [<- HW4.out]))
   have H7 := H7.out
   generalize ((W4.setCell ⟨bp, 0, none⟩ (.int .u8 (u1.toNat : Int))).setCell ⟨bp, 0, none⟩ (.int .u8 (u2.toNat : Int))) = W7 at H7 ⊢
   have H7 := Lib.hid H7
   have GW := HG.out.later H7.out.below
   have P3 : Hid (∀ wx, Below W7.heap.size W7 wx -> wx.cell? ⟨w.heap.size, 3, none⟩ = some (.slice ao n cap)) := fun wx hwx => ((H7.out.later hwx).cellV 2 rfl 3 rfl).1
   refine wp_laxW_list 3 (by kernel_rfl) (by kernel_rfl) (by kernel_rfl) (by kernel_rfl) (by kernel_rfl) ?_
   simp only [List.take_succ_cons, List.take_zero, List.drop_succ_cons, List.drop_zero]
   refine lxR (.tmp 3) (.pointer (some ⟨bp, 0, none⟩)) (.slice (some ⟨bp, 2, none⟩) 126 126) (fun wx ρ hwx h0 hc => by simp [go_sem, h0, hc]) ?_; refine lxA (.tmp 1) (.pointer (some ⟨w.heap.size, 0, none⟩)) (.pointer (some ⟨w.heap.size, 3, none⟩)) ?_; refine lxR (.tmp 24) (.pointer (some ⟨w.heap.size, 3, none⟩)) (.slice ao n cap) (fun wx ρ hwx h0 hc => by simp [go_sem, h0, P3.out wx hwx]) ?_
   refine wpL_end (by kernel_rfl) (fun w8 hw8 => ?_)
   simp only [FinL, setL, List.set_cons_zero, List.set_cons_succ]
   intro _
   have H8 := Lib.hid (H7.out.later hw8)
   have G8 := GW.later hw8
   have HC := Lib.hid (vcells G8.view)
   have HNO := Lib.hid (given_nil G8)
   clear hw8 P3 H7 G8 GW
   go_wp2_with (first
    | (refine wpList_a8_copy rfl (.tmp 23) (.tmp 25) rfl H8.out 0 (l := raw u2 d) rfl rfl ao n cap data rfl HD.out (by omega) (by rw [raw_len]; decide) (fun h => (HNO.out h).1) HC.out ?_; intro w9 h9; rw [HRL.out] at h9; simp only [List.set_cons_zero] at h9; have ROW := Lib.hid (A8.row h9 0 rfl); have TH9 := Lib.hid (A8.there h9 1 rfl X (by rw [HXL.out]; rfl)); have LAST := Lib.hid (A8.setAll h9 1 rfl X (by rw [HXL.out]; rfl)); clear h9)
    | (refine wpList_load_row rfl 113 (.tmp 3) rfl bp rfl 113 _ (0, 0) _ ROW.out Tryz.underlying113 rfl IX.out ?_)
    | (refine wpList_store_mid rfl 113 (.tmp 2) (.tmp 27) rfl br 0 (X.map byteV).toArray rfl rfl TH9.out IX.out OX.out ?_))
   have END := Lib.hid (A8.row LAST.out 1 rfl)
   refine bodyPost_ret (results_cell_row rfl _ _ br 113 _ (0, 0) _ rfl END.out Tryz.underlying113 rfl IX.out) rfl ?_
   exact ⟨rfl, LAST.out.below⟩
end Pag
end Go.Proofs.YtahjjcmeocibbaaGreatDoor
end
section
namespace Go.Proofs.YtahjjcmeocibbaaGreatDoor
open Go.RowKit Go.Own
namespace Pag
open Go.PagM Byt
theorem manyByte : Many Tryz.prog 37 5 1 1 := ⟨Tryz.underlying37, by kernel_rfl, by decide⟩
set_option maxHeartbeats 800000 in
theorem cloneBytes {B : Nat} {w0 w : World} {Ps : List Asn} (H : Own.St B w0 w Ps) (a : Addr) (n cap : Nat) (l : PagM.Bs) (hl : l.length = n) (hc : ∀ j u, (l.map byteV)[j]? = some u -> w.cell? (a.add j) = some u) (hb : n <= 100000) :
 Calls Tryz.prog 47 #[.slice (some a) n cap] w fun e w' => ∃ a' c', e = .returned (.slice a' n c') /\ Own.St B w0 w' (AB a' n c' l :: Ps) := by
 have H1 := Lib.hid (H.emptyRow 5 1)
 have HL : Hid ((l.map byteV).length = n * 1) := by show (l.map byteV).length = n * 1; simp [hl]
 have HN : Hid (∀ a', some a = some a' -> ∀ j u, (l.map byteV)[j]? = some u -> (w.alloc (.cells #[] 5)).cell? (a'.add j) = some u) := by
  intro a' ha j u hu
  cases ha
  exact cell_alloc (hc j u hu) _
 clear H hc
 have hq := eqlNil (P := Tryz.prog) w 37 _ (some a) n cap Tryz.underlying37
 simp only [Option.isNone_some] at hq
 go_enter Tryz.func47, Tryz.ntmps47
 go_wp2_with (refine wpList_many_append manyByte rfl (.tmp 5) (.tmp 6) rfl H1.out 0 rfl rfl (some a) n cap (l.map byteV) rfl (by intro h; cases h) HL.out HN.out (byteV_one _) (by omega) (by decide) ?_; intro a2 c2 w2 h2; simp only [List.set_cons_zero, Nat.zero_add, List.nil_append] at h2 ⊢; have H2 := Lib.hid h2; clear h2)
 go_ret
 exact ⟨_, _, rfl, H2.out⟩
theorem range_box {B : Nat} {w0 w : World} {Ps : List Asn} {b : Nat} {t : TypeId} {cs : List Value} (H : Own.St B w0 w Ps) (i : Nat) (hi : Ps[i]? = some (AVals b t cs)) : w.rangeAt b 0 cs := fun j v hv => by
 rw [Nat.zero_add]
 exact (H.cellV i hi j hv).1
theorem load_pageE (l : PagM.Bs) (hl : l.length = 128) {o : Oper} {x : Tmp} (ho : o.op = .load 113 (.tmp x)) {b k : Nat} (ρ : Operand -> Value) {w : World} (hr : w.rangeAt b k (l.map byteV)) (h0 : ρ (.tmp x) = .pointer (some ⟨b, k, none⟩)) : (execOp ρ o).run Tryz.prog w = .ok (.value (.agg (l.map byteV).toArray)) w := by
 have := run_loadAt_mid (P := Tryz.prog) w b k 113 (l.map byteV) _ hr Tryz.underlying113 rfl (info_pageL l hl)
 unfold execOp
 simp only [ho, h0, Sem.run_bind, this, Result.andThen_ok, Sem.run_pure]
theorem info_frameL (cs : List Value) (h : cs.length = 4) : (Tryz.prog.info? 116).map (·.size) = some cs.length := by
 have h0 : (Tryz.prog.info? 116).map (fun i => i.size) = some 4 := by kernel_rfl
 rw [h]
 exact h0
theorem load_frameE (cs : List Value) (hl : cs.length = 4) {o : Oper} {x : Tmp} (ho : o.op = .load 116 (.tmp x)) {b k : Nat} (ρ : Operand -> Value) {w : World} (hr : w.rangeAt b k cs) (h0 : ρ (.tmp x) = .pointer (some ⟨b, k, none⟩)) : (execOp ρ o).run Tryz.prog w = .ok (.value (.agg cs.toArray)) w := by
 have := run_loadAt_mid (P := Tryz.prog) w b k 116 cs _ hr Tryz.underlying116 rfl (info_frameL cs hl)
 unfold execOp
 simp only [ho, h0, Sem.run_bind, this, Result.andThen_ok, Sem.run_pure]
theorem bytes_eq (a b : PagM.Bs) : decide (a.map (fun x => (x.toNat : Int)) = b.map (fun x => (x.toNat : Int))) = decide (a = b) := by
 apply decide_eq_decide.2
 constructor
 · intro h
   exact (List.map_inj_right (fun x y h => UInt8.toNat_inj.1 (by omega))).1 h
 · rintro rfl; rfl
theorem bytes_ints (l : PagM.Bs) : (l.map (fun x => (x.toNat : Int))).map (Value.int .u8) = l.map byteV := by
 rw [List.map_map]; rfl
theorem neq_pageE {o : Oper} {x y : Tmp} (ho : o.op = .binOp .neq 113 (.tmp x) (.tmp y) 113) {a b : PagM.Bs} (ha : a.length = 128) (hb : b.length = 128) {v : Bool} (hv : decide (a = b) = v) (ρ : Operand -> Value) (w : World)
 (h0 : ρ (.tmp x) = .agg (a.map byteV).toArray) (h1 : ρ (.tmp y) = .agg (b.map byteV).toArray) : (execOp ρ o).run Tryz.prog w = .ok (.value (.bool (!v))) w := by
 have h := run_equalIn_ints (P := Tryz.prog) 9998 113 5 .u8 (a.map (fun x => (x.toNat : Int))) (b.map (fun x => (x.toNat : Int))) (by simp [ha, hb]) (by rw [List.length_map, ha]; exact Tryz.underlying113) Tryz.underlying5 (fun w => by kernel_rfl) (fun w => by kernel_rfl) w
 rw [bytes_eq, hv, bytes_ints, bytes_ints] at h
 have h' : (Op.equalIn 10000 113 (.agg (a.map byteV).toArray) (.agg (b.map byteV).toArray)).run Tryz.prog w = .ok v w := h
 unfold execOp
 simp only [ho, h0, h1]
 generalize (a.map byteV).toArray = A at h' ⊢
 generalize (b.map byteV).toArray = B at h' ⊢
 simp [go_sem, h']
theorem cut_arr {o : Oper} {x y : Tmp} (ho : o.op = .slice 113 (.tmp x) (some (.const (.int .i64 2))) (some (.tmp y)) none) (b dn : Nat) (hd : dn <= 125) (ρ : Operand -> Value) (w : World) (h0 : ρ (.tmp x) = .pointer (some ⟨b, 0, none⟩)) (h1 : ρ (.tmp y) = .int .i64 (2 + (dn : Int))) (hc : ρ (.const (.int .i64 2)) = .int .i64 2) :
 (execOp ρ o).run Tryz.prog w = .ok (.value (.slice (some ⟨b, 2, none⟩) dn 126)) w := by
 obtain ⟨q, hq⟩ : ∃ q, q = 2 + dn := ⟨_, rfl⟩
 rw [show (2 : Int) + (dn : Int) = (q : Int) by omega] at h1
 have a1 : q <= 128 := by omega
 have a2 : (q : Int) <= 128 := by omega
 have a3 : (2 : Int) <= (q : Int) := by omega
 have a4 : 2 <= q := by omega
 have a5 : q - 2 = dn := by omega
 have a6 : (q : Int) - 2 = (dn : Int) := by omega
 simp [execOp, ho, h0, h1, hc, go_sem, a2, a3, a5, add_of]
set_option maxRecDepth 10000 in
set_option maxHeartbeats 4000000 in
theorem frame_any (p : PagM.Bs) (hl : p.length = 128) (h1 : (p.getD 1 0).toNat <= 125) (w : World) :
 Calls Tryz.prog 89 #[.agg (p.map byteV).toArray] w fun e w' => ∃ ao cap, e = .returned (frV (guess p).kind.toNat (guess p).first (guess p).last (.slice ao (guess p).data.length cap)) /\ Own.St w.heap.size w w' [AB ao (guess p).data.length cap (guess p).data] := by
 obtain ⟨gk, hgk⟩ : ∃ x, x = (guess p).kind := ⟨_, rfl⟩
 obtain ⟨gf, hgf⟩ : ∃ x, x = (guess p).first := ⟨_, rfl⟩
 obtain ⟨gl, hgl⟩ : ∃ x, x = (guess p).last := ⟨_, rfl⟩
 obtain ⟨gd, hgd⟩ : ∃ x, x = (guess p).data := ⟨_, rfl⟩
 rw [<- hgk, <- hgf, <- hgl, <- hgd]
 obtain ⟨a, ha⟩ : ∃ a, a = p.getD 0 0 := ⟨_, rfl⟩
 obtain ⟨d, hd⟩ : ∃ d, d = p.getD 1 0 := ⟨_, rfl⟩
 have ha8 : a.toNat <= 255 := by have := a.toNat_lt; omega
 have hgdl : gd.length = d.toNat := by rw [hgd, hd]; exact (guess_small p hl h1).2
 rw [<- hd] at h1
 have ek : bits .and .u8 (a.toNat : Int) 63 = (gk.toNat : Int) := by
  have : gk.toNat = a.toNat % 64 := by rw [hgk, ha]; unfold guess; exact ofNat_toNat _ (by omega)
  rw [and63 a.toNat (by omega), this]
 have ef : (bits .and .u8 (a.toNat : Int) 64 != 0) = gf := by
  rw [and64 a.toNat (by omega), hgf, ha]; rfl
 have el : (bits .and .u8 (a.toNat : Int) 128 != 0) = gl := by
  rw [and128 a.toNat (by omega), hgl, ha]; rfl
 have hbox := A8.box (Own.St.start w) 113 p
 have hbx2 := hbox.boxV 116 [.int .u8 0, .bool false, .bool false, .slice none 0 0]
 simp only [size_alloc'] at hbx2
 have c0 := (A8.cell hbx2 1 rfl 0 (by rw [hl]; decide)).1
 have c1 := (A8.cell hbx2 1 rfl 1 (by rw [hl]; decide)).1
 rw [<- ha] at c0
 rw [<- hd] at c1
 have CL : Hid (Calls Tryz.prog 47 #[.slice (some ⟨w.heap.size, 2, none⟩) d.toNat 126] ((w.alloc (.cells (p.map byteV).toArray 113)).alloc (.cells #[.int .u8 0, .bool false, .bool false, .slice none 0 0] 116)) fun e w' => ∃ a' c', e = .returned (.slice a' d.toNat c') /\ Own.St w.heap.size w w' [AB a' d.toNat c' gd, AVals (w.heap.size + 1) 116 [.int .u8 0, .bool false, .bool false, .slice none 0 0], A8 w.heap.size 113 p]) := by
  refine cloneBytes hbx2 _ _ _ gd hgdl ?_ (by omega)
  intro j u hu
  have hj := (List.getElem?_eq_some_iff.1 hu).1
  rw [List.length_map, hgdl] at hj
  have h2 := (A8.cell hbx2 1 rfl (2 + j) (by rw [hl]; omega)).1
  rw [add_of, h2, <- hu, hgd]
  unfold guess
  simp only
  rw [List.getElem?_map, List.getElem?_take_of_lt (by rw [<- hd]; exact hj), List.getElem?_drop, List.getElem?_eq_getElem (by rw [hl]; omega), List.getD_eq_getElem?_getD, List.getElem?_eq_getElem (by rw [hl]; omega)]
  rfl
 have HGDL := Lib.hid hgdl
 have HP := Lib.hid hl
 clear hbox hbx2 hgk hgf hgl hgd ha hd hgdl hl
 go_enter Tryz.func89, Tryz.ntmps89
 go_wp2_with (refine Byt.wpList_val rfl (cut_arr rfl w.heap.size d.toNat h1 _ _ rfl rfl rfl) ?_)
 refine CL.out.mono ?_
 clear CL c0 c1
 rintro e w3 ⟨a3, c3, rfl, h3⟩
 have H3 := Lib.hid h3
 have q0 := h3.cellV 1 rfl 0 rfl
 have q1 := h3.cellV 1 rfl 1 rfl
 have q2 := h3.cellV 1 rfl 2 rfl
 have q3 := h3.cellV 1 rfl 3 rfl
 have h7 := (((h3.storeV 1 rfl 0 (.int .u8 (gk.toNat : Int))).storeV 1 rfl 1 (.bool gf)).storeV 1 rfl 2 (.bool gl)).storeV 1 rfl 3 (.slice a3 d.toNat c3)
 have H7 := Lib.hid h7
 clear h3 h7
 go_wp2
 refine bodyPost_ret (results_cell_row rfl _ _ (w.heap.size + 1) 116 _ (0, 0) _ rfl (H7.out.rowV 1 rfl) Tryz.underlying116 rfl (info_frame _ rfl)) rfl ?_
 rw [HGDL.out]
 exact ⟨a3, c3, rfl, (H7.out.swap2.drop 1).drop2⟩
end Pag
end Go.Proofs.YtahjjcmeocibbaaGreatDoor
end
section
namespace Go.Proofs.YtahjjcmeocibbaaGreatDoor
open Go.RowKit Go.Own
namespace Pag
open Go.PagM Byt
theorem takeNew_err (x : Frm × Nat) (hx : x = (zeroF, 90)) {w w' : World} (h : Below w.heap.size w w') : TakeNew x w (.returned (.tuple #[.agg #[.int .u8 0, .bool false, .bool false, .slice none 0 0], errP 90])) w' := by
 subst hx
 exact ⟨none, 0, rfl, ⟨.inl rfl, rfl, ⟨Nat.le_refl _, Nat.zero_le _⟩, fun _ => rfl⟩, .inl rfl, h⟩
theorem view_range {w : World} {D : Nat -> Prop} {g o : Nat} {l : PagM.Bs} (h : View w D (some ⟨g, o, none⟩) l) : w.rangeAt g o (l.map byteV) := fun j v hv => by
 have := vcells h _ rfl j v hv
 rwa [add_of] at this
set_option maxRecDepth 10000 in
set_option maxHeartbeats 8000000 in
theorem take_new (ao : Option Addr) (n cap : Nat) (p : PagM.Bs) (w : World) (hg : Given w ao n cap p) (hb : n <= 1000000) :
 Calls Tryz.prog 56 #[.slice ao n cap] w (TakeNew (PagM.take p) w) := by
 obtain ⟨X, hX⟩ : ∃ X, X = PagM.take p := ⟨_, rfl⟩
 rw [<- hX]
 have HN := Lib.hid hg.size
 by_cases h128 : ((n : Int) != 128) = true
 · have HX : Hid (X = (zeroF, 90)) := by
    show X = _
    have h2 : ¬ n = 128 := by simp at h128; omega
    rw [hX]; unfold PagM.take; rw [if_neg]; unfold isPage; rw [HN.out]; simp [h2]
   have H2 := Lib.hid ((Own.St.start w).boxV 116 [.int .u8 0, .bool false, .bool false, .slice none 0 0])
   clear hX hg
   go_enter Tryz.func56, Tryz.ntmps56
   go_wp2
   refine bodyPost_ret (results_cell_two rfl _ _ w.heap.size 116 _ (0, 0) _ _ rfl rfl (H2.out.rowV 0 rfl) Tryz.underlying116 rfl (info_frame _ rfl)) rfl ?_
   exact takeNew_err X HX.out H2.out.below
 have hn : n = 128 := by simp at h128; omega
 subst hn
 clear h128 hb
 obtain ⟨g, o, rfl, _, hlt, c0⟩ := vat hg.view (k := 0) (by rw [hg.size]; decide)
 have c1 := vcell hg.view (k := 1) (by rw [hg.size]; decide)
 obtain ⟨d, hd⟩ : ∃ d, d = p.getD 1 0 := ⟨_, rfl⟩
 rw [<- hd] at c1
 have hroom := hg.room
 unfold maxLen at hroom
 have hd8 : d.toNat <= 255 := by have := d.toNat_lt; omega
 have c1' : (w.alloc (.cells #[.int .u8 0, .bool false, .bool false, .slice none 0 0] 116)).cell? ⟨g, o + 1, none⟩ = some (.int .u8 (d.toNat : Int)) := cell_alloc c1 _
 by_cases hd125 : (125 : Int) < (d.toNat : Int)
 · have HX : Hid (X = (zeroF, 90)) := by
    show X = _
    have h2 : ¬ d.toNat <= 125 := by omega
    rw [hX]; unfold PagM.take; rw [if_neg]; unfold isPage; rw [<- hd]; simp [h2]
   have H2 := Lib.hid ((Own.St.start w).boxV 116 [.int .u8 0, .bool false, .bool false, .slice none 0 0])
   clear hX hg hd c0 c1
   go_enter Tryz.func56, Tryz.ntmps56
   go_wp2
   refine bodyPost_ret (results_cell_two rfl _ _ w.heap.size 116 _ (0, 0) _ _ rfl rfl (H2.out.rowV 0 rfl) Tryz.underlying116 rfl (info_frame _ rfl)) rfl ?_
   exact takeNew_err X HX.out H2.out.below
 · have hd5 : d.toNat <= 125 := by omega
   obtain ⟨g63, gdl⟩ := guess_small p hg.size (by rw [<- hd]; exact hd5)
   rw [<- hd] at gdl
   have FR : Hid (∀ wx, Calls Tryz.prog 89 #[.agg (p.map byteV).toArray] wx fun e w' => ∃ ao cap, e = .returned (frV (guess p).kind.toNat (guess p).first (guess p).last (.slice ao (guess p).data.length cap)) /\ Own.St wx.heap.size wx w' [AB ao (guess p).data.length cap (guess p).data]) := fun wx => frame_any p hg.size (by rw [<- hd]; exact hd5) wx
   obtain ⟨sm, hsm⟩ : ∃ b, b = decide (laid (guess p) = p) := ⟨_, rfl⟩
   have HX0 : X = if sm = true then (guess p, 0) else (zeroF, 90) := by
    rw [hX]
    unfold PagM.take isPage
    rw [HN.out, <- hd, <- hsm, show decide ((128 : Nat) = 128) = true from rfl, show decide (d.toNat <= 125) = true from decide_eq_true hd5]
    simp
   have LL : Hid ((laid (guess p)).length = 128) := laid_len _ (by rw [gdl]; exact hd5)
   obtain ⟨gu, hgu⟩ : ∃ x, x = guess p := ⟨_, rfl⟩
   rw [<- hgu] at HX0 hsm g63 gdl FR LL
   obtain ⟨gk, gf, gl, gd⟩ := gu
   simp only at g63 gdl FR
   have HX := Lib.hid HX0
   have HSM := Lib.hid hsm
   have HGD := Lib.hid gdl
   obtain ⟨z, hz⟩ : ∃ z, z = ((List.replicate 128 (0 : UInt8)).map byteV).toArray := ⟨_, rfl⟩
   have ZP : Hid ((Tryz.prog.info? 113).bind (·.zero) = some (.agg z)) := by rw [hz]; exact zero_page
   have h2 := ((Own.St.start w).boxV 116 [.int .u8 0, .bool false, .bool false, .slice none 0 0])
   have RG : Hid ((w.alloc (.cells #[.int .u8 0, .bool false, .bool false, .slice none 0 0] 116)).rangeAt g o (p.map byteV)) := view_range (hg.later h2.below).view
   obtain ⟨W2, hW2⟩ : ∃ W, W = w.alloc (.cells #[.int .u8 0, .bool false, .bool false, .slice none 0 0] 116) := ⟨_, rfl⟩
   rw [<- hW2] at h2
   obtain ⟨b4, hb4⟩ : ∃ b, b = W2.heap.size := ⟨_, rfl⟩
   obtain ⟨W3, hW3⟩ : ∃ W, W = W2.alloc (.cells z 113) := ⟨_, rfl⟩
   have h3 := A8.box h2 113 (List.replicate 128 0)
   rw [<- hz, <- hb4, <- hW3] at h3
   have TH := Lib.hid (A8.there h3 0 rfl p (by rw [hg.size]; rfl))
   have h4 := A8.setAll h3 0 rfl p (by rw [hg.size]; rfl)
   simp only [List.set_cons_zero] at h4
   obtain ⟨W4, hW4⟩ : ∃ W, W = W3.setCells b4 0 (p.map byteV).toArray.toList := ⟨_, rfl⟩
   rw [<- hW4] at h4
   have IB := Lib.hid (info_page p hg.size)
   have IL := Lib.hid (info_pageL p hg.size)
   have OB := Lib.hid (one8 p)
   have ROW4 := Lib.hid (A8.row h4 0 rfl)
   have HW2 := Lib.hid hW2
   have HW3 := Lib.hid hW3
   have HW4 := Lib.hid hW4
   have HB4 := Lib.hid hb4
   have H4 := Lib.hid h4
   have FC := Lib.hid (FR.out W4)
   have hat : ∀ w, (Instr.arrayAt 113 (.slice (some ⟨g, o, none⟩) 128 cap)).run Tryz.prog w = .ok (.pointer (some ⟨g, o, none⟩)) w := fun w => run_arrayAt w 113 _ 128 _ 128 cap Tryz.underlying113 (Nat.le_refl _)
   clear FR hX HX0 hsm hg hd c0 c1 hgu gdl hz h2 h3 h4 hW2 hW3 hW4 hb4
   go_enter Tryz.func56, Tryz.ntmps56
   go_wp2_with (first
    | (refine wpList_load_mid rfl 113 (.tmp 17) rfl g o rfl (p.map byteV) _ RG.out Tryz.underlying113 rfl IL.out ?_)
    | (refine Own.wpList_allocZ rfl 113 rfl z ZP.out ?_; rw [<- HW2.out, <- HB4.out, <- HW3.out])
    | (refine wpList_store_mid rfl 113 (.tmp 4) (.tmp 18) rfl b4 0 (p.map byteV).toArray rfl rfl TH.out IB.out OB.out ?_; rw [<- HW4.out])
    | (refine wpList_load_row rfl 113 (.tmp 4) rfl b4 rfl 113 _ (0, 0) _ ROW4.out Tryz.underlying113 rfl IB.out ?_))
   refine FC.out.mono ?_
   clear FC RG TH ROW4 c1'
   rintro e w5 ⟨a5, c5, rfl, h5⟩
   obtain ⟨S5, hS5, hge, _⟩ := h5.at 0 rfl
   have h6 := H4.out.adopt h5.below (AB a5 gd.length c5 gd) hS5 hge
   have h7 := h6.boxV 116 (frC gk.toNat gf gl (.slice a5 gd.length c5)).toList
   rw [HGD.out] at h7 ⊢
   have H7 := Lib.hid h7
   clear h5 h6 h7 hS5 hge
   go_wp2_with (fail)
   obtain ⟨b5, hb5⟩ : ∃ b, b = w5.heap.size := ⟨_, rfl⟩
   have h7 := H7.out
   obtain ⟨W7, hW7⟩ : ∃ W, W = w5.alloc (.cells (frC gk.toNat gf gl (.slice a5 d.toNat c5)) 116) := ⟨_, rfl⟩
   rw [<- hW7, <- hb5]
   rw [<- hW7, <- hb5] at h7
   have H7 := Lib.hid h7
   have HG7 : Hid (Given W7 a5 d.toNat c5 gd) := given_own h7 1 rfl
   clear hb5 h7 hW7
   have R5 : Hid (∀ wx, Below W7.heap.size W7 wx -> wx.rangeAt b5 0 (frC gk.toNat gf gl (.slice a5 d.toNat c5)).toList) := fun wx hwx => range_box (H7.out.later hwx) 0 rfl
   have R4 : Hid (∀ wx, Below W7.heap.size W7 wx -> wx.rangeAt b4 0 (p.map byteV)) := fun wx hwx => range_box (t := 113) (H7.out.later hwx) 2 rfl
   have CL : Hid (∀ wx, Below W7.heap.size W7 wx -> Calls Tryz.prog 55 #[frV gk.toNat gf gl (.slice a5 d.toNat c5)] wx fun e w' => e = .returned (.agg ((laid ⟨gk, gf, gl, gd⟩).map byteV).toArray) /\ Below wx.heap.size wx w') := fun wx hwx => lay_any ⟨gk, gf, gl, gd⟩ a5 d.toNat c5 wx (HG7.out.later hwx) g63 hd5
   obtain ⟨nq, hnq⟩ : ∃ b, b = !sm := ⟨_, rfl⟩
   have HNQ := Lib.hid hnq
   have HS2 : Hid (decide (laid ⟨gk, gf, gl, gd⟩ = p) = sm) := HSM.out.symm
   refine lxX ?_; refine lxR (.tmp 5) (.pointer (some ⟨b5, 0, none⟩)) (frV gk.toNat gf gl (.slice a5 d.toNat c5)) (fun wx ρ hwx h0 hc => load_frameE (frC gk.toNat gf gl (.slice a5 d.toNat c5)).toList rfl rfl ρ (R5.out wx hwx) h0) ?_
   refine wpL_fn (.agg ((laid ⟨gk, gf, gl, gd⟩).map byteV).toArray) [frV gk.toNat gf gl (.slice a5 d.toNat c5)] rfl (by kernel_rfl) (by kernel_rfl) (by kernel_rfl) (by kernel_rfl) (fun _ _ => by simp [go_sem]) (fun wx hwx => CL.out wx hwx) ?_
   refine lxR (.tmp 4) (.pointer (some ⟨b4, 0, none⟩)) (.agg (p.map byteV).toArray) (fun wx ρ hwx h0 hc => load_pageE p HN.out rfl ρ (R4.out wx hwx) h0) ?_; refine lxT (.tmp 22) (.tmp 23) (.agg ((laid ⟨gk, gf, gl, gd⟩).map byteV).toArray) (.agg (p.map byteV).toArray) (.bool (!sm)) (fun wx ρ hwx h0 h1 hc => neq_pageE rfl LL.out HN.out HS2.out ρ wx h0 h1) ?_
   refine wpL_end (by kernel_rfl) (fun w8 hw8 => ?_)
   simp only [FinL, setL, List.set_cons_zero, List.set_cons_succ]
   have H8 := Lib.hid (H7.out.later hw8)
   have ROW8 := Lib.hid (H8.out.rowV 0 rfl)
   clear hw8 R5 R4 CL H7 HG7 HNQ hnq HSM HS2 LL
   have q0 := H8.out.cellV 3 rfl 0 rfl
   have q1 := H8.out.cellV 3 rfl 1 rfl
   have q2 := H8.out.cellV 3 rfl 2 rfl
   have q3 := H8.out.cellV 3 rfl 3 rfl
   cases sm
   · have HXX : Hid (X = (zeroF, 90)) := by show X = _; rw [HX.out]; rfl
     have H9 := Lib.hid ((((H8.out.storeV 3 rfl 0 (.int .u8 0)).storeV 3 rfl 1 (.bool false)).storeV 3 rfl 2 (.bool false)).storeV 3 rfl 3 (.slice none 0 0))
     clear HX
     go_wp2
     refine bodyPost_ret (results_cell_two rfl _ _ w.heap.size 116 _ (0, 0) _ _ rfl rfl (H9.out.rowV 3 rfl) Tryz.underlying116 rfl (info_frame _ rfl)) rfl ?_
     exact takeNew_err X HXX.out H9.out.below
   · have HXX : Hid (X = (⟨gk, gf, gl, gd⟩, 0)) := by show X = _; rw [HX.out]; rfl
     have h9 := (((H8.out.storeV 3 rfl 0 (.int .u8 (gk.toNat : Int))).storeV 3 rfl 1 (.bool gf)).storeV 3 rfl 2 (.bool gl)).storeV 3 rfl 3 (.slice a5 d.toNat c5)
     have H9 := Lib.hid h9
     clear HX h9
     go_wp2_with (refine wpList_load_row rfl 116 (.tmp 5) rfl b5 rfl 116 _ (0, 0) _ ROW8.out Tryz.underlying116 rfl (info_frame _ rfl) ?_)
     refine bodyPost_ret (results_cell_two rfl _ _ w.heap.size 116 _ (0, 0) _ _ rfl rfl (H9.out.rowV 3 rfl) Tryz.underlying116 rfl (info_frame _ rfl)) rfl ?_
     rw [HXX.out]
     unfold TakeNew
     simp only [HGD.out]
     exact ⟨a5, c5, rfl, given_own H9.out 1 rfl, ab_view H9.out 1 rfl, H9.out.below⟩
end Pag
end Go.Proofs.YtahjjcmeocibbaaGreatDoor
end
section
namespace Go.Own
open Go.RowKit
section
variable {P : Program} {t e : TypeId} {z : Value} {bytes : Nat} {B : Nat} {w0 w : World} {Ps : List Asn} {v : Value}
theorem wpList_grid_appendN {ops : Array Oper} {rest : List Oper} {o : Oper} {a : Act} {Q : Exit -> Act -> World -> Prop} {α : Type} {enc : α -> Value} {t2 : TypeId} (O : One P t2 t z bytes) (hgd : o.guard = none) (s x : Operand)
 (ho : o.op = .call { callee := .builtin .append, args := #[s, x], argTypes := #[t2, t2] }) {row : List α} {rows : List (List α)} {n : Nat} (hn : row.length = n) {ao : Option Addr} {cap : Nat} (H : St B w0 w (AGrid t e enc v rows :: ARow e 1 (.slice ao n cap) n (row.map enc) :: Ps)) (hs : a.eval s = v)
 (bo : Addr) (hx : a.eval x = .slice (some bo) 1 1) (hbo : bo.spot = none) (hc : w.cell? bo = some (.slice ao n cap)) (b1 : rows.length + 1 <= 100000000) (b2 : bytes <= 1000)
 (h : ∀ ao' cap' w', St B w0 w' (AGrid t e enc (.slice ao' (rows.length + 1) cap') (rows ++ [row]) :: Ps) -> wpList P ops Q rest (a.put o.dst (.slice ao' (rows.length + 1) cap')) w') : wpList P ops Q (o :: rest) a w := by
 subst hn
 exact wpList_grid_append O hgd s x ho H hs bo hx hbo hc b1 b2 h
end
end Go.Own
namespace Go.Proofs.YtahjjcmeocibbaaGreatDoor
open Go.RowKit Go.Own
namespace Byt
theorem givenL_ownE {B : Nat} {w0 w : World} {Ps : List Asn} {v : Value} {e : TypeId} {L : List (List UInt8)} (H : Own.St B w0 w (AGrid 37 e byteV v L :: Ps)) : ∃ ao cap, v = .slice ao L.length cap /\ GivenL w ao L.length cap L := by
 obtain ⟨rs, hl, h⟩ := H.gridOpen
 obtain ⟨ao, cap, rfl⟩ := h.rowForm 0 rfl
 obtain ⟨_, h1, h2, h3⟩ := h.rowLen 0 rfl
 refine ⟨ao, cap, rfl, rfl, ⟨h1, h2⟩, fun e => (h3 e).2, fun j hj => ?_⟩
 obtain ⟨g, rfl, ⟨u, hu, hc⟩, _, _⟩ := h.rowAt 0 rfl j (by omega)
 have hr : rs[j]? = some rs[j] := List.getElem?_eq_getElem (by omega)
 have hL : L[j]? = some L[j] := List.getElem?_eq_getElem hj
 rw [zip_at _ _ _ _ _ _ hr hL] at hu
 cases hu
 have hz := zip_at (gRow e byteV) rs L j _ _ hr hL
 have h4 : (gParts 37 e byteV (.slice (some ⟨g, 0, none⟩) L.length cap) rs L ++ Ps)[j + 1]? = some (ARow e 1 (.slice rs[j].1 L[j].length rs[j].2) L[j].length (L[j].map byteV)) := by
  unfold gParts
  rw [List.cons_append, List.getElem?_cons_succ, List.getElem?_append_left (List.getElem?_eq_some_iff.1 hz).1]
  exact hz
 have el : L.getD j [] = L[j] := by rw [List.getD_eq_getElem?_getD, hL]; rfl
 rw [el]
 obtain ⟨_, k1, k2, k3⟩ := h.rowLen (j + 1) h4
 obtain ⟨S, hS, hB, _⟩ := h.at (j + 1) h4
 refine ⟨g, 0, rs[j].1, rs[j].2, rfl, World.block_lt_of_cell? w _ hc, by rw [Nat.zero_add]; exact hc, ?_⟩
 exact ⟨(Row.view hS).live.mono (fun _ hk => hk.2), rfl, ⟨k1, k2⟩, fun h => (k3 h).2⟩
end Byt
namespace Pag
open Go.PagM Byt
end Pag
end Go.Proofs.YtahjjcmeocibbaaGreatDoor
end
section
namespace Go.Proofs.YtahjjcmeocibbaaGreatDoor
open Go.RowKit Go.Own
namespace Pag
open Go.PagM Byt
def togoL (kind : UInt8) (last first : Bool) (b : PagM.Bs) : List PagM.Bs := if last = true then [] else rest kind first b
theorem togoL_step (kind : UInt8) (first : Bool) (b : PagM.Bs) : togoL kind false first b = laid ⟨kind, first, decide (b.length <= 125), b.take 125⟩ :: togoL kind (decide (b.length <= 125)) false (b.drop 125) := by
 unfold togoL
 rw [if_neg (by simp), rest_step]
 congr 1
 by_cases hl : b.length <= 125
 · rw [if_pos hl, if_pos (by simpa using hl)]
 · rw [if_neg hl, if_neg (by simpa using hl)]
set_option maxRecDepth 10000 in
set_option maxHeartbeats 8000000 in
theorem splitP_any (kind : UInt8) (ao : Option Addr) (n cap : Nat) (p : PagM.Bs) (w : World) (hg : Given w ao n cap p) (hb : n <= 1000000) :
 Calls Tryz.prog 20 #[.int .u8 (kind.toNat : Int), .slice ao n cap] w (SplitDone (split kind p) w) := by
 obtain ⟨k, hk⟩ : ∃ k, k = kind.toNat := ⟨_, rfl⟩
 rw [<- hk]
 obtain ⟨X, hX⟩ : ∃ X, X = split kind p := ⟨_, rfl⟩
 rw [<- hX]
 have HN := Lib.hid hg.size
 have hk255 : k <= 255 := by have := kind.toNat_lt; omega
 by_cases h63 : (63 : Int) < (k : Int)
 · have HX : Hid (X = ([], 1)) := by
    show X = _
    have e : splitE kind p = 1 := by unfold splitE; rw [if_pos (by omega)]
    rw [hX]; unfold split; rw [e]; rfl
   clear hX hk hg
   go_enter Tryz.func20, Tryz.ntmps20
   go_wp2
   go_ret2
   exact split_err X 1 HX.out w
 by_cases h8 : (8000 : Int) < (n : Int)
 · have HX : Hid (X = ([], 4)) := by
    show X = _
    have e : splitE kind p = 4 := by unfold splitE; rw [if_neg (by omega), if_pos (by rw [HN.out]; omega)]
    rw [hX]; unfold split; rw [e]; rfl
   clear hX hk hg
   go_enter Tryz.func20, Tryz.ntmps20
   go_wp2
   go_ret2
   exact split_err X 4 HX.out w
 obtain ⟨T, hT⟩ : ∃ T, T = rest kind true p := ⟨_, rfl⟩
 have HX : Hid (X = (T, 0)) := by
  show X = _
  have e : splitE kind p = 0 := by unfold splitE; rw [if_neg (by omega), if_neg (by rw [HN.out]; omega)]
  rw [hX]; unfold split; rw [e, hT]; rfl
 have HK := Lib.hid hk
 have HG := Lib.hid hg
 have HT := Lib.hid hT
 have HTL : Hid (T.length <= 70) := by
  show T.length <= 70
  rw [hT]
  have := pages_len kind p
  unfold pages at this
  unfold rest
  rw [this, HN.out]
  omega
 have hk63 : k <= 63 := by omega
 obtain ⟨z, hz⟩ : ∃ z, z = ((List.replicate 128 (0 : UInt8)).map byteV).toArray := ⟨_, rfl⟩
 have ZP : Hid ((Tryz.prog.info? 113).bind (·.zero) = some (.agg z)) := by rw [hz]; exact zero_page
 have HZ := Lib.hid hz
 have H0 : Hid (Own.St w.heap.size w w [AGrid 37 113 byteV (.slice none 0 0) []]) := St.gridNil (Own.St.start w)
 clear hX hk hg h63 hT hz
 go_enter Tryz.func20, Tryz.ntmps20
 go_wp2
 go_loopw [1, 6, 7] (fun v1 v6 v7 wr => ∃ (ab al : Option Addr) (nb cb cl ln : Nat) (lst : Bool) (q : PagM.Bs) (L : List PagM.Bs), v1 = .slice ab nb cb /\ v6 = .slice al ln cl /\ v7 = .bool lst /\ ln = L.length /\ Given w ab nb cb q /\ nb <= n /\ T = L ++ togoL kind lst (decide (ln = 0)) q /\ (lst = true -> nb = 0) /\ Own.St w.heap.size w wr [AGrid 37 113 byteV (.slice al ln cl) L]) (fun v1 _ v7 _ => 2 * lenV v1 + 1 - boolN v7)
 case atStart => exact ⟨ao, none, n, cap, 0, 0, false, p, [], rfl, rfl, rfl, rfl, HG.out, Nat.le_refl _, by rw [HT.out]; rfl, by simp, H0.out⟩
 case round =>
  obtain ⟨ab, al, nb, cb, cl, ln, lst, q, L, rfl, rfl, rfl, hln, hgq, hnb, hTq, hlz, hH⟩ := hrel
  have G0 := Lib.hid hgq
  have G := Lib.hid (hgq.later hH.below)
  have H := Lib.hid hH
  have E := Lib.hid hTq
  have HLN := Lib.hid hln
  have HQL := Lib.hid hgq.size
  have hroom := hgq.room
  clear hgq hH hTq H0 HG hln
  cases lst
  · clear hlz
    obtain ⟨m, hm⟩ : ∃ m, m = min nb 125 := ⟨_, rfl⟩
    obtain ⟨nr, hnr⟩ : ∃ r, r = nb - m := ⟨_, rfl⟩
    obtain ⟨last, hlast⟩ : ∃ b, b = decide (nb <= 125) := ⟨_, rfl⟩
    obtain ⟨first, hfirst⟩ : ∃ b, b = decide (ln = 0) := ⟨_, rfl⟩
    have hmin : ∀ wx, (Builtin.min_ #[3, 3] 3 #[.int .i64 (nb : Int), .int .i64 125]).run Tryz.prog wx = .ok (.int .i64 (m : Int)) wx := by
     intro wx
     rw [show (m : Int) = min (nb : Int) 125 by omega]
     simp [Builtin.min_, Builtin.min2, go_sem]
     try omega
    have heq : ((nr : Int) == 0) = last := by rw [hlast, Bool.eq_iff_iff]; simp; omega
    have hff : ((ln : Int) == 0) = first := by rw [hfirst, Bool.eq_iff_iff]; simp
    have hmn : m <= nb := by omega
    have hm125 : m <= 125 := by omega
    have hrn : nr <= nb := by omega
    obtain ⟨P, hP⟩ : ∃ P, P = laid ⟨kind, first, last, q.take m⟩ := ⟨_, rfl⟩
    have hmq : q.take 125 = q.take m := by rw [hm, <- HQL.out, List.take_eq_take_iff]; omega
    have hdq : q.drop 125 = q.drop m := by
     by_cases h : nb <= 125
     · rw [List.drop_of_length_le (by rw [HQL.out]; exact h), List.drop_of_length_le (by rw [HQL.out]; omega)]
     · rw [show m = 125 by omega]
    have EN : Hid (T = (L ++ [P]) ++ togoL kind last (decide (ln + 1 = 0)) (q.drop m)) := by
     show T = _
     rw [E.out, togoL_step kind _ q, hmq, hdq, HQL.out, <- hlast, <- hfirst, <- hP, List.append_assoc, show decide (ln + 1 = 0) = false by simp]
     rfl
    have hPl : P.length = 128 := by rw [hP]; exact laid_len _ (by show (q.take m).length <= 125; rw [List.length_take]; omega)
    have LAY : Hid (Calls Tryz.prog 55 #[frV k first last (.slice ab m cb)] wr fun e w' => e = .returned (.agg (P.map byteV).toArray) /\ Below wr.heap.size wr w') := by
     have h := lay_any ⟨kind, first, last, q.take m⟩ ab m cb wr (given_take G.out m hmn) (by show kind.toNat <= 63; rw [<- HK.out]; exact hk63) hm125
     rw [<- hP] at h
     rw [HK.out]
     exact h
    have CT := Lib.hid (cutTo (ao := ab) (l := q) (m := nb) (cap := cb) m HQL.out hmn hroom.1 hroom.2 G.out.nil).1
    obtain ⟨a5, c5, hF1, hF2⟩ := cutFrom (ao := ab) (l := q) (m := nb) (cap := cb) m HQL.out hmn hroom.1 hroom.2 G.out.nil
    rw [<- hnr] at hF1 hF2
    have CF := Lib.hid hF1
    have CF2 := Lib.hid hF2
    have HLB : Hid (L.length + 1 <= 100000000) := by
     have h1 := HTL.out
     rw [EN.out] at h1
     simp at h1
     show L.length + 1 <= 100000000
     omega
    have HPL := Lib.hid hPl
    have IB := Lib.hid (info_page P hPl)
    have OB := Lib.hid (one8 P)
    have HMN : Hid (nr <= nb /\ (last = false -> nr < nb) /\ (last = true -> nr = 0)) := by
     refine ⟨hrn, fun h => ?_, fun h => ?_⟩
     · rw [hlast] at h; simp at h; omega
     · rw [hlast] at h; simp at h; omega
    clear hm hlast hfirst hP hmq hdq hF1 hF2 E HQL hnr hPl
    go_wp2_with (first
     | (refine Byt.wpList_val rfl (CT.out _ (.tmp 17) (.tmp 20) rfl _ _ rfl rfl) ?_)
     | (refine Byt.wpList_val rfl (CF.out _ (.tmp 22) (.tmp 24) rfl _ _ rfl rfl) ?_))
    refine LAY.out.mono ?_
    clear LAY
    rintro e w3 ⟨rfl, hb3⟩
    have h3 := H.out.later hb3
    obtain ⟨b9, hb9⟩ : ∃ b, b = w3.heap.size := ⟨_, rfl⟩
    obtain ⟨W4, hW4⟩ : ∃ W, W = w3.alloc (.cells z 113) := ⟨_, rfl⟩
    have h4 := A8.box h3 113 (List.replicate 128 0)
    rw [<- HZ.out, <- hb9, <- hW4] at h4
    have TH := Lib.hid (A8.there h4 0 rfl P (by rw [HPL.out]; rfl))
    have h5 := A8.setAll h4 0 rfl P (by rw [HPL.out]; rfl)
    simp only [List.set_cons_zero] at h5
    obtain ⟨W5, hW5⟩ : ∃ W, W = W4.setCells b9 0 (P.map byteV).toArray.toList := ⟨_, rfl⟩
    rw [<- hW5] at h5
    have h6 := (h5.valsRow (n := 128) (by rw [List.length_map, HPL.out]) (by decide)).swap2
    have H7 := Lib.hid (h6.alloc (.cells #[.slice (some ⟨b9, 0, none⟩) 128 128] 37))
    have CN : Hid ((W5.alloc (.cells #[.slice (some ⟨b9, 0, none⟩) 128 128] 37)).cell? ⟨W5.heap.size, 0, none⟩ = some (.slice (some ⟨b9, 0, none⟩) 128 128)) := cell_of_block (heap_alloc_new W5 _) rfl
    have HB9 := Lib.hid hb9
    have HW4 := Lib.hid hW4
    have HW5 := Lib.hid hW5
    clear hb3 h3 hb9 hW4 h4 h5 hW5 h6 H
    have HLN2 := HLN.out
    subst HLN2
    go_wp2_with (first
     | (refine Own.wpList_allocZ rfl 113 rfl z ZP.out ?_; rw [<- HB9.out, <- HW4.out])
     | (refine wpList_store_mid rfl 113 (.tmp 9) (.tmp 36) rfl b9 0 (P.map byteV).toArray rfl rfl TH.out IB.out OB.out ?_; rw [<- HW5.out])
     | (at_builtin; refine wpList_grid_appendN oneBytes rfl (.tmp 37) (.tmp 39) rfl HPL.out H7.out rfl ⟨W5.heap.size, 0, none⟩ rfl rfl CN.out HLB.out (by decide) ?_; intro a8 c8 w8 h8; have H8 := Lib.hid h8; clear h8))
    go_roundw
    case rel => exact ⟨a5, a8, nr, c5, c8, L.length + 1, last, q.drop m, L ++ [P], rfl, rfl, rfl, by rw [List.length_append]; rfl, ⟨CF2.out.view _ _ G0.out.view, CF2.out.len, CF2.out.cap, CF2.out.none⟩, by omega, EN.out, HMN.out.2.2, H8.out⟩
    case measure =>
     have := HMN.out
     simp only [lenV]
     cases last
     · simp [boolN] at this ⊢; omega
     · simp [boolN] at this ⊢; omega
  · have HXX : Hid (X = (L, 0)) := by
     show X = _
     rw [HX.out, E.out]
     unfold togoL
     rw [if_pos rfl, List.append_nil]
    clear E HX hlz
    have HLN2 := HLN.out
    subst HLN2
    go_wp2
    go_ret2
    rw [HXX.out]
    obtain ⟨a', c', hv, hgl⟩ := givenL_ownE H.out
    cases hv
    exact ⟨al, cl, rfl, hgl, H.out.below⟩
end Pag
end Go.Proofs.YtahjjcmeocibbaaGreatDoor
end
section
namespace Go.Proofs.YtahjjcmeocibbaaGreatDoor
open Go.RowKit Go.Own
namespace Pag
open Go.PagM Byt
set_option maxRecDepth 10000 in
set_option maxHeartbeats 4000000 in
theorem layP_own (f : Frm) (ao : Option Addr) (n cap : Nat) (w : World) (hg : Given w ao n cap f.data) (hk63 : f.kind.toNat <= 63) (hn125 : n <= 125) :
 Calls Tryz.prog 136 #[frV f.kind.toNat f.first f.last (.slice ao n cap)] w fun e w' => ∃ b, e = .returned (.tuple #[.slice (some ⟨b, 0, none⟩) 128 128, errP 0]) /\ Own.St w.heap.size w w' [ARow 113 1 (.slice (some ⟨b, 0, none⟩) 128 128) 128 ((laid f).map byteV)] := by
 obtain ⟨kind, first, last, data⟩ := f
 obtain ⟨k, hk⟩ : ∃ k, k = kind.toNat := ⟨_, rfl⟩
 have hk255 : k <= 255 := by have := kind.toNat_lt; omega
 simp only at hg hk63 ⊢
 rw [<- hk]
 have HN := Lib.hid hg.size
 have hbox := (Own.St.start w).boxV 116 (frC k first last (.slice ao n cap)).toList
 have q0 := (hbox.cellV 0 rfl 0 rfl).1
 have q3 := (hbox.cellV 0 rfl 3 rfl).1
 have h63 : ¬ (63 : Int) < (k : Int) := by omega
 have h125 : ¬ (125 : Int) < (n : Int) := by omega
 obtain ⟨Y, hY⟩ : ∃ Y, Y = laid ⟨kind, first, last, data⟩ := ⟨_, rfl⟩
 rw [<- hY]
 have hYl : Y.length = 128 := by rw [hY]; exact laid_len _ (by rw [HN.out]; omega)
 have CL0 := lay_any ⟨kind, first, last, data⟩ ao n cap (w.alloc (.cells (frC k first last (.slice ao n cap)) 116)) (hg.later hbox.below) (by simp only; omega) (by omega)
 simp only at CL0
 rw [<- hY, <- hk] at CL0
 have CL := Lib.hid CL0
 have ROW := Lib.hid (hbox.rowV 0 rfl)
 obtain ⟨z, hz⟩ : ∃ z, z = ((List.replicate 128 (0 : UInt8)).map byteV).toArray := ⟨_, rfl⟩
 have ZP : Hid ((Tryz.prog.info? 113).bind (·.zero) = some (.agg z)) := by rw [hz]; exact zero_page
 have HZ := Lib.hid hz
 have HB := Lib.hid hbox
 have HYL := Lib.hid hYl
 have IB := Lib.hid (info_page Y hYl)
 have OB := Lib.hid (one8 Y)
 clear hk hg hbox hY hYl CL0 hz hk63
 go_enter Tryz.func136, Tryz.ntmps136
 go_wp2_with (refine wpList_load_row rfl 116 (.tmp 1) rfl w.heap.size rfl 116 _ (0, 0) _ ROW.out Tryz.underlying116 rfl (info_frame _ rfl) ?_)
 refine CL.out.mono ?_
 clear CL ROW q0 q3
 rintro e w3 ⟨rfl, hb3⟩
 have h3 := HB.out.later hb3
 obtain ⟨b4, hb4⟩ : ∃ b, b = w3.heap.size := ⟨_, rfl⟩
 obtain ⟨W4, hW4⟩ : ∃ W, W = w3.alloc (.cells z 113) := ⟨_, rfl⟩
 have h4 := A8.box h3 113 (List.replicate 128 0)
 rw [<- HZ.out, <- hb4, <- hW4] at h4
 have TH := Lib.hid (A8.there h4 0 rfl Y (by rw [HYL.out]; rfl))
 have h5 := A8.setAll h4 0 rfl Y (by rw [HYL.out]; rfl)
 simp only [List.set_cons_zero] at h5
 have H5 := Lib.hid h5
 have HB4 := Lib.hid hb4
 have HW4 := Lib.hid hW4
 clear hb3 h3 hb4 hW4 h4 h5
 go_wp2_with (first
  | (refine Own.wpList_allocZ rfl 113 rfl z ZP.out ?_; rw [<- HB4.out, <- HW4.out])
  | (refine wpList_store_mid rfl 113 (.tmp 4) (.tmp 13) rfl b4 0 (Y.map byteV).toArray rfl rfl TH.out IB.out OB.out ?_))
 go_ret2
 refine ⟨b4, rfl, ?_⟩
 have h6 := (H5.out.valsRow (n := 128) (by rw [List.length_map, HYL.out]) (by decide)).swap2
 exact h6.drop 1
set_option maxRecDepth 10000 in
set_option maxHeartbeats 8000000 in
theorem splitP_own (kind : UInt8) (ao : Option Addr) (n cap : Nat) (p : PagM.Bs) (w : World) (hg : Given w ao n cap p) (hk0 : kind.toNat <= 63) (hb : n <= 8000) :
 Calls Tryz.prog 20 #[.int .u8 (kind.toNat : Int), .slice ao n cap] w fun e w' => ∃ al cl, e = .returned (.tuple #[.slice al (pages kind p).length cl, errP 0]) /\ Own.St w.heap.size w w' [AGrid 37 113 byteV (.slice al (pages kind p).length cl) (pages kind p)] := by
 obtain ⟨k, hk⟩ : ∃ k, k = kind.toNat := ⟨_, rfl⟩
 rw [<- hk]
 have HN := Lib.hid hg.size
 have hk255 : k <= 255 := by have := kind.toNat_lt; omega
 have h63 : ¬ (63 : Int) < (k : Int) := by omega
 have h8 : ¬ (8000 : Int) < (n : Int) := by omega
 obtain ⟨T, hT⟩ : ∃ T, T = rest kind true p := ⟨_, rfl⟩
 have HPT : pages kind p = T := by rw [hT]; rfl
 rw [HPT]
 have HK := Lib.hid hk
 have HG := Lib.hid hg
 have HT := Lib.hid hT
 have HTL : Hid (T.length <= 70) := by
  show T.length <= 70
  rw [hT]
  have := pages_len kind p
  unfold pages at this
  unfold rest
  rw [this, HN.out]
  omega
 have hk63 : k <= 63 := by omega
 obtain ⟨z, hz⟩ : ∃ z, z = ((List.replicate 128 (0 : UInt8)).map byteV).toArray := ⟨_, rfl⟩
 have ZP : Hid ((Tryz.prog.info? 113).bind (·.zero) = some (.agg z)) := by rw [hz]; exact zero_page
 have HZ := Lib.hid hz
 have H0 : Hid (Own.St w.heap.size w w [AGrid 37 113 byteV (.slice none 0 0) []]) := St.gridNil (Own.St.start w)
 clear hk hg hk0 hT hz HPT
 go_enter Tryz.func20, Tryz.ntmps20
 go_wp2
 go_loopw [1, 6, 7] (fun v1 v6 v7 wr => ∃ (ab al : Option Addr) (nb cb cl ln : Nat) (lst : Bool) (q : PagM.Bs) (L : List PagM.Bs), v1 = .slice ab nb cb /\ v6 = .slice al ln cl /\ v7 = .bool lst /\ ln = L.length /\ Given w ab nb cb q /\ nb <= n /\ T = L ++ togoL kind lst (decide (ln = 0)) q /\ (lst = true -> nb = 0) /\ Own.St w.heap.size w wr [AGrid 37 113 byteV (.slice al ln cl) L]) (fun v1 _ v7 _ => 2 * lenV v1 + 1 - boolN v7)
 case atStart => exact ⟨ao, none, n, cap, 0, 0, false, p, [], rfl, rfl, rfl, rfl, HG.out, Nat.le_refl _, by rw [HT.out]; rfl, by simp, H0.out⟩
 case round =>
  obtain ⟨ab, al, nb, cb, cl, ln, lst, q, L, rfl, rfl, rfl, hln, hgq, hnb, hTq, hlz, hH⟩ := hrel
  have G0 := Lib.hid hgq
  have G := Lib.hid (hgq.later hH.below)
  have H := Lib.hid hH
  have E := Lib.hid hTq
  have HLN := Lib.hid hln
  have HQL := Lib.hid hgq.size
  have hroom := hgq.room
  clear hgq hH hTq H0 HG hln
  cases lst
  · clear hlz
    obtain ⟨m, hm⟩ : ∃ m, m = min nb 125 := ⟨_, rfl⟩
    obtain ⟨nr, hnr⟩ : ∃ r, r = nb - m := ⟨_, rfl⟩
    obtain ⟨last, hlast⟩ : ∃ b, b = decide (nb <= 125) := ⟨_, rfl⟩
    obtain ⟨first, hfirst⟩ : ∃ b, b = decide (ln = 0) := ⟨_, rfl⟩
    have hmin : ∀ wx, (Builtin.min_ #[3, 3] 3 #[.int .i64 (nb : Int), .int .i64 125]).run Tryz.prog wx = .ok (.int .i64 (m : Int)) wx := by
     intro wx
     rw [show (m : Int) = min (nb : Int) 125 by omega]
     simp [Builtin.min_, Builtin.min2, go_sem]
     try omega
    have heq : ((nr : Int) == 0) = last := by rw [hlast, Bool.eq_iff_iff]; simp; omega
    have hff : ((ln : Int) == 0) = first := by rw [hfirst, Bool.eq_iff_iff]; simp
    have hmn : m <= nb := by omega
    have hm125 : m <= 125 := by omega
    have hrn : nr <= nb := by omega
    obtain ⟨P, hP⟩ : ∃ P, P = laid ⟨kind, first, last, q.take m⟩ := ⟨_, rfl⟩
    have hmq : q.take 125 = q.take m := by rw [hm, <- HQL.out, List.take_eq_take_iff]; omega
    have hdq : q.drop 125 = q.drop m := by
     by_cases h : nb <= 125
     · rw [List.drop_of_length_le (by rw [HQL.out]; exact h), List.drop_of_length_le (by rw [HQL.out]; omega)]
     · rw [show m = 125 by omega]
    have EN : Hid (T = (L ++ [P]) ++ togoL kind last (decide (ln + 1 = 0)) (q.drop m)) := by
     show T = _
     rw [E.out, togoL_step kind _ q, hmq, hdq, HQL.out, <- hlast, <- hfirst, <- hP, List.append_assoc, show decide (ln + 1 = 0) = false by simp]
     rfl
    have hPl : P.length = 128 := by rw [hP]; exact laid_len _ (by show (q.take m).length <= 125; rw [List.length_take]; omega)
    have LAY : Hid (Calls Tryz.prog 55 #[frV k first last (.slice ab m cb)] wr fun e w' => e = .returned (.agg (P.map byteV).toArray) /\ Below wr.heap.size wr w') := by
     have h := lay_any ⟨kind, first, last, q.take m⟩ ab m cb wr (given_take G.out m hmn) (by show kind.toNat <= 63; rw [<- HK.out]; exact hk63) hm125
     rw [<- hP] at h
     rw [HK.out]
     exact h
    have CT := Lib.hid (cutTo (ao := ab) (l := q) (m := nb) (cap := cb) m HQL.out hmn hroom.1 hroom.2 G.out.nil).1
    obtain ⟨a5, c5, hF1, hF2⟩ := cutFrom (ao := ab) (l := q) (m := nb) (cap := cb) m HQL.out hmn hroom.1 hroom.2 G.out.nil
    rw [<- hnr] at hF1 hF2
    have CF := Lib.hid hF1
    have CF2 := Lib.hid hF2
    have HLB : Hid (L.length + 1 <= 100000000) := by
     have h1 := HTL.out
     rw [EN.out] at h1
     simp at h1
     show L.length + 1 <= 100000000
     omega
    have HPL := Lib.hid hPl
    have IB := Lib.hid (info_page P hPl)
    have OB := Lib.hid (one8 P)
    have HMN : Hid (nr <= nb /\ (last = false -> nr < nb) /\ (last = true -> nr = 0)) := by
     refine ⟨hrn, fun h => ?_, fun h => ?_⟩
     · rw [hlast] at h; simp at h; omega
     · rw [hlast] at h; simp at h; omega
    clear hm hlast hfirst hP hmq hdq hF1 hF2 E HQL hnr hPl
    go_wp2_with (first
     | (refine Byt.wpList_val rfl (CT.out _ (.tmp 17) (.tmp 20) rfl _ _ rfl rfl) ?_)
     | (refine Byt.wpList_val rfl (CF.out _ (.tmp 22) (.tmp 24) rfl _ _ rfl rfl) ?_))
    refine LAY.out.mono ?_
    clear LAY
    rintro e w3 ⟨rfl, hb3⟩
    have h3 := H.out.later hb3
    obtain ⟨b9, hb9⟩ : ∃ b, b = w3.heap.size := ⟨_, rfl⟩
    obtain ⟨W4, hW4⟩ : ∃ W, W = w3.alloc (.cells z 113) := ⟨_, rfl⟩
    have h4 := A8.box h3 113 (List.replicate 128 0)
    rw [<- HZ.out, <- hb9, <- hW4] at h4
    have TH := Lib.hid (A8.there h4 0 rfl P (by rw [HPL.out]; rfl))
    have h5 := A8.setAll h4 0 rfl P (by rw [HPL.out]; rfl)
    simp only [List.set_cons_zero] at h5
    obtain ⟨W5, hW5⟩ : ∃ W, W = W4.setCells b9 0 (P.map byteV).toArray.toList := ⟨_, rfl⟩
    rw [<- hW5] at h5
    have h6 := (h5.valsRow (n := 128) (by rw [List.length_map, HPL.out]) (by decide)).swap2
    have H7 := Lib.hid (h6.alloc (.cells #[.slice (some ⟨b9, 0, none⟩) 128 128] 37))
    have CN : Hid ((W5.alloc (.cells #[.slice (some ⟨b9, 0, none⟩) 128 128] 37)).cell? ⟨W5.heap.size, 0, none⟩ = some (.slice (some ⟨b9, 0, none⟩) 128 128)) := cell_of_block (heap_alloc_new W5 _) rfl
    have HB9 := Lib.hid hb9
    have HW4 := Lib.hid hW4
    have HW5 := Lib.hid hW5
    clear hb3 h3 hb9 hW4 h4 h5 hW5 h6 H
    have HLN2 := HLN.out
    subst HLN2
    go_wp2_with (first
     | (refine Own.wpList_allocZ rfl 113 rfl z ZP.out ?_; rw [<- HB9.out, <- HW4.out])
     | (refine wpList_store_mid rfl 113 (.tmp 9) (.tmp 36) rfl b9 0 (P.map byteV).toArray rfl rfl TH.out IB.out OB.out ?_; rw [<- HW5.out])
     | (at_builtin; refine wpList_grid_appendN oneBytes rfl (.tmp 37) (.tmp 39) rfl HPL.out H7.out rfl ⟨W5.heap.size, 0, none⟩ rfl rfl CN.out HLB.out (by decide) ?_; intro a8 c8 w8 h8; have H8 := Lib.hid h8; clear h8))
    go_roundw
    case rel => exact ⟨a5, a8, nr, c5, c8, L.length + 1, last, q.drop m, L ++ [P], rfl, rfl, rfl, by rw [List.length_append]; rfl, ⟨CF2.out.view _ _ G0.out.view, CF2.out.len, CF2.out.cap, CF2.out.none⟩, by omega, EN.out, HMN.out.2.2, H8.out⟩
    case measure =>
     have := HMN.out
     simp only [lenV]
     cases last
     · simp [boolN] at this ⊢; omega
     · simp [boolN] at this ⊢; omega
  · have HXX : Hid (T = L) := by
     show T = L
     rw [E.out]
     unfold togoL
     rw [if_pos rfl, List.append_nil]
    clear E hlz
    have HLN2 := HLN.out
    subst HLN2
    go_wp2
    go_ret2
    rw [HXX.out]
    exact ⟨al, cl, rfl, H.out⟩
end Pag
end Go.Proofs.YtahjjcmeocibbaaGreatDoor
end
section
namespace Go.Proofs.YtahjjcmeocibbaaGreatDoor
open Go.RowKit Go.Own
namespace Pag
open Go.PagM Byt
set_option maxRecDepth 10000 in
set_option maxHeartbeats 8000000 in
theorem joinP_any (ao : Option Addr) (n cap : Nat) (L : List PagM.Bs) (w : World) (hg : GivenL w ao n cap L) (hb : n <= 1000000) (hlen : ∀ p ∈ L, p.length <= 1000000) :
 Calls Tryz.prog 21 #[.slice ao n cap] w (JoinDone (join L) w) := by
 obtain ⟨X, hX⟩ : ∃ X, X = join L := ⟨_, rfl⟩
 rw [<- hX]
 have HX := Lib.hid (show X = joinF 0 0 [] (L.drop 0) from hX)
 have HG := Lib.hid hg
 have HN := Lib.hid hg.size
 have HL := Lib.hid hlen
 have hroom := hg.room
 unfold maxLen at hroom
 have HNO0 : Hid (ao = none -> cap = 0) := hg.nil
 have H0 := Lib.hid (ab_nil (Own.St.start w))
 obtain ⟨m, hm⟩ : ∃ m, m = min n 64 := ⟨_, rfl⟩
 have hmn : m <= n := by omega
 have hmc : m <= cap := by omega
 have hm64 : m <= 64 := by omega
 have HM : Hid (m = n \/ m = 64) := by show _ \/ _; omega
 have hmin : ∀ wx, (Builtin.min_ #[3, 3] 3 #[.int .i64 (n : Int), .int .i64 64]).run Tryz.prog wx = .ok (.int .i64 (m : Int)) wx := by
  intro wx
  rw [show (m : Int) = min (n : Int) 64 by omega]
  simp [Builtin.min_, Builtin.min2, go_sem]
  try omega
 clear hX hg hlen hm
 go_enter Tryz.func21, Tryz.ntmps21
 go_wp2
 go_loopw [6, 7, 18] (fun v6 v7 v18 wr => ∃ (i na ca : Nat) (k : UInt8) (aa : Option Addr) (all : PagM.Bs), v7 = .slice aa na ca /\ v6 = .int .u8 (k.toNat : Int) /\ v18 = .int .i64 (i : Int) /\ i <= m /\ na <= 125 * i /\ X = joinF i k all (L.drop i) /\ Own.St w.heap.size w wr [AB aa na ca all]) (fun _ _ v18 _ => m - (intOf v18).toNat)
 case atStart => exact ⟨0, 0, 0, 0, none, [], rfl, rfl, rfl, Nat.zero_le _, Nat.zero_le _, HX.out, H0.out⟩
 case round =>
  obtain ⟨i, na, ca, k, aa, all, rfl, rfl, rfl, him, hna, hXi, hH⟩ := hrel
  have H := Lib.hid hH
  have E := Lib.hid hXi
  have HAL := Lib.hid (ab_len hH 0 rfl).1
  clear hH hXi H0 HX
  by_cases hgo : ¬ (i : Int) < (m : Int)
  · have HXX : Hid (X = ((0, [], 0), 90)) := by
     show X = _
     rw [E.out]
     rcases Nat.lt_or_ge i n with h | h
     · have h6 : 64 <= i := by have := HM.out; omega
       rw [List.drop_eq_getElem_cons (by rw [HN.out]; exact h), joinF, if_pos h6]
     · rw [List.drop_of_length_le (by rw [HN.out]; exact h)]; rfl
    clear E
    go_wp2
    refine bodyPost_ret (results_four rfl _ _ rfl rfl rfl rfl) rfl ?_
    exact join_err X HXX.out H.out.below
  · have h1 : (i : Int) < (m : Int) := by omega
    have hin2 : i < n := by omega
    have hi64 : i < 64 := by omega
    have GW := Lib.hid (HG.out.later H.out.below)
    obtain ⟨b, o, aj, cj, rfl, hbl, hcell, hgj⟩ := GW.out.rows i hin2
    obtain ⟨q, hq⟩ : ∃ q, q = L.getD i [] := ⟨_, rfl⟩
    rw [<- hq] at hcell hgj
    have hql : q.length <= 1000000 := by
     rw [hq, List.getD_eq_getElem?_getD, List.getElem?_eq_getElem (by rw [HN.out]; exact hin2)]
     exact HL.out _ (List.getElem_mem _)
    have EJ := joinF_at i k all L (by rw [HN.out]; exact hin2) hi64
    rw [<- hq] at EJ
    obtain ⟨X0, hX0⟩ : ∃ x, x = PagM.take q := ⟨_, rfl⟩
    have TK := take_new aj q.length cj q wr hgj hql
    rw [<- hX0] at TK
    obtain ⟨ml, hml⟩ : ∃ m, m = q.length := ⟨_, rfl⟩
    rw [<- hml] at hcell TK
    by_cases hpg : isPage q = true
    · obtain ⟨hp1, hp2, hp3⟩ := isPage_props hpg
      obtain ⟨gs1, gs2⟩ := guess_small q hp1 hp2
      have hX1 : X0 = (guess q, 0) := by rw [hX0]; unfold PagM.take; rw [if_pos hpg]
      rw [hpg] at EJ
      obtain ⟨gq, hgq⟩ : ∃ g, g = guess q := ⟨_, rfl⟩
      rw [<- hgq] at EJ hX1 gs1 gs2
      obtain ⟨fk, ff, fl, fd⟩ := gq
      simp only at EJ gs1 gs2
      rw [hX1] at TK
      unfold TakeNew at TK
      simp only at TK
      obtain ⟨dl, hdl⟩ : ∃ z, z = fd.length := ⟨_, rfl⟩
      have hdl125 : dl <= 125 := by omega
      have TK2 : Hid (Calls Tryz.prog 56 #[.slice aj ml cj] wr fun e w' => ∃ ao cap, e = .returned (.tuple #[.agg #[.int .u8 (fk.toNat : Int), .bool ff, .bool fl, .slice ao dl cap], errP 0]) /\ Given w' ao dl cap fd /\ Below wr.heap.size wr w') := by
       rw [hdl]
       exact TK.mono fun e w' ⟨a, c, h1, h2, _, h3⟩ => ⟨a, c, h1, h2, h3⟩
      have HDL := Lib.hid hdl
      rw [<- hdl] at EJ
      have EJ2 := Lib.hid EJ
      have hk8 : fk.toNat <= 63 := gs1
      have hself : ((fk.toNat : Int) != (fk.toNat : Int)) = false := by simp
      clear hq hgj EJ TK hX0 hX1 hml hpg hp1 hp2 hp3 gs1 gs2 hgq hdl hgo
      rcases Nat.eq_zero_or_pos i with hi0 | hi0
      · have HI0 := Lib.hid hi0
        have hi2 : ((i : Int) == 0) = true := by simp; omega
        clear hi0
        cases ff
        · skip
          have HXX : Hid (X = ((0, [], 0), 90)) := by show X = _; rw [E.out, EJ2.out]; simp [HI0.out]
          clear EJ2 E
          go_wp2_with (fail)
          refine TK2.out.mono ?_
          clear TK2
          rintro e w3 ⟨a3, c3, rfl, hg3, hb3⟩
          have H3 := Lib.hid (H.out.later hb3)
          have H4 := Lib.hid (H3.out.boxV 116 [.int .u8 (fk.toNat : Int), .bool false, .bool fl, .slice a3 dl c3])
          have G3 := Lib.hid (hg3.later ((Own.St.start w3).alloc (.cells #[.int .u8 (fk.toNat : Int), .bool false, .bool fl, .slice a3 dl c3] 116)).below)
          clear hg3 hb3
          go_wp2_with (fail)
          refine bodyPost_ret (results_four rfl _ _ rfl rfl rfl rfl) rfl ?_
          exact join_err X HXX.out H4.out.below
        · skip
          cases fl
          · by_cases hd5 : dl = 125
            · subst hd5
              have HXX : Hid (X = joinF (i + 1) fk (all ++ fd) (L.drop (i + 1))) := by show X = _; rw [E.out, EJ2.out]; simp [HI0.out]
              clear EJ2 E
              go_wp2_with (fail)
              refine TK2.out.mono ?_
              clear TK2
              rintro e w3 ⟨a3, c3, rfl, hg3, hb3⟩
              have H3 := Lib.hid (H.out.later hb3)
              have H4 := Lib.hid (H3.out.boxV 116 [.int .u8 (fk.toNat : Int), .bool true, .bool false, .slice a3 125 c3])
              have G3 := Lib.hid (hg3.later ((Own.St.start w3).alloc (.cells #[.int .u8 (fk.toNat : Int), .bool true, .bool false, .slice a3 125 c3] 116)).below)
              clear hg3 hb3
              have HNO := Lib.hid (given_nil G3.out)
              have HC := Lib.hid (vcells G3.out.view)
              go_wp2_with (at_builtin; refine Byt.wpList_ab_append rfl (.tmp 47) (.tmp 49) rfl H4.out 1 rfl rfl a3 125 c3 fd rfl HNO.out HDL.out.symm HC.out (by omega) ?_; intro a5 c5 w5 h5; simp only [List.set_cons_succ, List.set_cons_zero] at h5; have d2 := (h5.cellV 0 rfl 2 rfl).1; have d3 := (h5.cellV 0 rfl 3 rfl).1; have H5 := Lib.hid h5; clear h5)
              go_roundw
              case rel => exact ⟨i + 1, na + 125, c5, fk, a5, all ++ fd, rfl, rfl, by go_num, by omega, by omega, HXX.out, H5.out.drop 1⟩
              case measure => simp [intOf]; omega
            · have hd6 : (dl : Int) < 125 := by omega
              have HXX : Hid (X = ((0, [], 0), 90)) := by show X = _; rw [E.out, EJ2.out]; simp [HI0.out, hd5]
              clear EJ2 E hd5
              go_wp2_with (fail)
              refine TK2.out.mono ?_
              clear TK2
              rintro e w3 ⟨a3, c3, rfl, hg3, hb3⟩
              have H3 := Lib.hid (H.out.later hb3)
              have H4 := Lib.hid (H3.out.boxV 116 [.int .u8 (fk.toNat : Int), .bool true, .bool false, .slice a3 dl c3])
              have G3 := Lib.hid (hg3.later ((Own.St.start w3).alloc (.cells #[.int .u8 (fk.toNat : Int), .bool true, .bool false, .slice a3 dl c3] 116)).below)
              clear hg3 hb3
              have HNO := Lib.hid (given_nil G3.out)
              have HC := Lib.hid (vcells G3.out.view)
              go_wp2_with (at_builtin; refine Byt.wpList_ab_append rfl (.tmp 47) (.tmp 49) rfl H4.out 1 rfl rfl a3 dl c3 fd rfl HNO.out HDL.out.symm HC.out (by omega) ?_; intro a5 c5 w5 h5; simp only [List.set_cons_succ, List.set_cons_zero] at h5; have d2 := (h5.cellV 0 rfl 2 rfl).1; have d3 := (h5.cellV 0 rfl 3 rfl).1; have H5 := Lib.hid h5; clear h5)
              refine bodyPost_ret (results_four rfl _ _ rfl rfl rfl rfl) rfl ?_
              exact join_err X HXX.out H5.out.below
          · skip
            have HXX : Hid (X = ((fk, all ++ fd, i + 1), 0)) := by show X = _; rw [E.out, EJ2.out]; simp [HI0.out]
            clear EJ2 E
            go_wp2_with (fail)
            refine TK2.out.mono ?_
            clear TK2
            rintro e w3 ⟨a3, c3, rfl, hg3, hb3⟩
            have H3 := Lib.hid (H.out.later hb3)
            have H4 := Lib.hid (H3.out.boxV 116 [.int .u8 (fk.toNat : Int), .bool true, .bool true, .slice a3 dl c3])
            have G3 := Lib.hid (hg3.later ((Own.St.start w3).alloc (.cells #[.int .u8 (fk.toNat : Int), .bool true, .bool true, .slice a3 dl c3] 116)).below)
            clear hg3 hb3
            have HNO := Lib.hid (given_nil G3.out)
            have HC := Lib.hid (vcells G3.out.view)
            go_wp2_with (at_builtin; refine Byt.wpList_ab_append rfl (.tmp 47) (.tmp 49) rfl H4.out 1 rfl rfl a3 dl c3 fd rfl HNO.out HDL.out.symm HC.out (by omega) ?_; intro a5 c5 w5 h5; simp only [List.set_cons_succ, List.set_cons_zero] at h5; have d2 := (h5.cellV 0 rfl 2 rfl).1; have d3 := (h5.cellV 0 rfl 3 rfl).1; have H5 := Lib.hid h5; clear h5)
            refine bodyPost_ret (results_four rfl _ _ rfl rfl rfl rfl) rfl ?_
            rw [HXX.out]
            refine ⟨a5, c5, ?_, ?_, H5.out.below⟩
            · simp only [List.length_append, HAL.out, <- HDL.out]; rfl
            · simp only [List.length_append, HAL.out, <- HDL.out]
              exact given_own H5.out 1 rfl
      · have hi1 : (0 : Int) < (i : Int) := by omega
        have hi2 : ((i : Int) == 0) = false := by simp; omega
        have hi3 : ¬ i = 0 := by omega
        cases ff
        · by_cases hkk : fk = k
          · subst hkk
            cases fl
            · by_cases hd5 : dl = 125
              · subst hd5
                have HXX : Hid (X = joinF (i + 1) fk (all ++ fd) (L.drop (i + 1))) := by show X = _; rw [E.out, EJ2.out]; simp [hi3, hi0]
                clear EJ2 E
                go_wp2_with (fail)
                refine TK2.out.mono ?_
                clear TK2
                rintro e w3 ⟨a3, c3, rfl, hg3, hb3⟩
                have H3 := Lib.hid (H.out.later hb3)
                have H4 := Lib.hid (H3.out.boxV 116 [.int .u8 (fk.toNat : Int), .bool false, .bool false, .slice a3 125 c3])
                have G3 := Lib.hid (hg3.later ((Own.St.start w3).alloc (.cells #[.int .u8 (fk.toNat : Int), .bool false, .bool false, .slice a3 125 c3] 116)).below)
                clear hg3 hb3
                have HNO := Lib.hid (given_nil G3.out)
                have HC := Lib.hid (vcells G3.out.view)
                go_wp2_with (at_builtin; refine Byt.wpList_ab_append rfl (.tmp 47) (.tmp 49) rfl H4.out 1 rfl rfl a3 125 c3 fd rfl HNO.out HDL.out.symm HC.out (by omega) ?_; intro a5 c5 w5 h5; simp only [List.set_cons_succ, List.set_cons_zero] at h5; have d2 := (h5.cellV 0 rfl 2 rfl).1; have d3 := (h5.cellV 0 rfl 3 rfl).1; have H5 := Lib.hid h5; clear h5)
                go_roundw
                case rel => exact ⟨i + 1, na + 125, c5, fk, a5, all ++ fd, rfl, rfl, by go_num, by omega, by omega, HXX.out, H5.out.drop 1⟩
                case measure => simp [intOf]; omega
              · have hd6 : (dl : Int) < 125 := by omega
                have HXX : Hid (X = ((0, [], 0), 90)) := by show X = _; rw [E.out, EJ2.out]; simp [hi3, hi0, hd5]
                clear EJ2 E hd5
                go_wp2_with (fail)
                refine TK2.out.mono ?_
                clear TK2
                rintro e w3 ⟨a3, c3, rfl, hg3, hb3⟩
                have H3 := Lib.hid (H.out.later hb3)
                have H4 := Lib.hid (H3.out.boxV 116 [.int .u8 (fk.toNat : Int), .bool false, .bool false, .slice a3 dl c3])
                have G3 := Lib.hid (hg3.later ((Own.St.start w3).alloc (.cells #[.int .u8 (fk.toNat : Int), .bool false, .bool false, .slice a3 dl c3] 116)).below)
                clear hg3 hb3
                have HNO := Lib.hid (given_nil G3.out)
                have HC := Lib.hid (vcells G3.out.view)
                go_wp2_with (at_builtin; refine Byt.wpList_ab_append rfl (.tmp 47) (.tmp 49) rfl H4.out 1 rfl rfl a3 dl c3 fd rfl HNO.out HDL.out.symm HC.out (by omega) ?_; intro a5 c5 w5 h5; simp only [List.set_cons_succ, List.set_cons_zero] at h5; have d2 := (h5.cellV 0 rfl 2 rfl).1; have d3 := (h5.cellV 0 rfl 3 rfl).1; have H5 := Lib.hid h5; clear h5)
                refine bodyPost_ret (results_four rfl _ _ rfl rfl rfl rfl) rfl ?_
                exact join_err X HXX.out H5.out.below
            · skip
              have HXX : Hid (X = ((fk, all ++ fd, i + 1), 0)) := by show X = _; rw [E.out, EJ2.out]; simp [hi3, hi0]
              clear EJ2 E
              go_wp2_with (fail)
              refine TK2.out.mono ?_
              clear TK2
              rintro e w3 ⟨a3, c3, rfl, hg3, hb3⟩
              have H3 := Lib.hid (H.out.later hb3)
              have H4 := Lib.hid (H3.out.boxV 116 [.int .u8 (fk.toNat : Int), .bool false, .bool true, .slice a3 dl c3])
              have G3 := Lib.hid (hg3.later ((Own.St.start w3).alloc (.cells #[.int .u8 (fk.toNat : Int), .bool false, .bool true, .slice a3 dl c3] 116)).below)
              clear hg3 hb3
              have HNO := Lib.hid (given_nil G3.out)
              have HC := Lib.hid (vcells G3.out.view)
              go_wp2_with (at_builtin; refine Byt.wpList_ab_append rfl (.tmp 47) (.tmp 49) rfl H4.out 1 rfl rfl a3 dl c3 fd rfl HNO.out HDL.out.symm HC.out (by omega) ?_; intro a5 c5 w5 h5; simp only [List.set_cons_succ, List.set_cons_zero] at h5; have d2 := (h5.cellV 0 rfl 2 rfl).1; have d3 := (h5.cellV 0 rfl 3 rfl).1; have H5 := Lib.hid h5; clear h5)
              refine bodyPost_ret (results_four rfl _ _ rfl rfl rfl rfl) rfl ?_
              rw [HXX.out]
              refine ⟨a5, c5, ?_, ?_, H5.out.below⟩
              · simp only [List.length_append, HAL.out, <- HDL.out]; rfl
              · simp only [List.length_append, HAL.out, <- HDL.out]
                exact given_own H5.out 1 rfl
          · have hk6 : ((fk.toNat : Int) != (k.toNat : Int)) = true := by simp; exact fun h => hkk (UInt8.toNat_inj.1 (by omega))
            have HXX : Hid (X = ((0, [], 0), 90)) := by show X = _; rw [E.out, EJ2.out]; simp [hi3, hi0, hkk]
            clear EJ2 E
            go_wp2_with (fail)
            refine TK2.out.mono ?_
            clear TK2
            rintro e w3 ⟨a3, c3, rfl, hg3, hb3⟩
            have H3 := Lib.hid (H.out.later hb3)
            have H4 := Lib.hid (H3.out.boxV 116 [.int .u8 (fk.toNat : Int), .bool false, .bool fl, .slice a3 dl c3])
            have G3 := Lib.hid (hg3.later ((Own.St.start w3).alloc (.cells #[.int .u8 (fk.toNat : Int), .bool false, .bool fl, .slice a3 dl c3] 116)).below)
            clear hg3 hb3
            go_wp2_with (fail)
            refine bodyPost_ret (results_four rfl _ _ rfl rfl rfl rfl) rfl ?_
            exact join_err X HXX.out H4.out.below
        · skip
          have HXX : Hid (X = ((0, [], 0), 90)) := by show X = _; rw [E.out, EJ2.out]; simp [hi3]
          clear EJ2 E
          go_wp2_with (fail)
          refine TK2.out.mono ?_
          clear TK2
          rintro e w3 ⟨a3, c3, rfl, hg3, hb3⟩
          have H3 := Lib.hid (H.out.later hb3)
          have H4 := Lib.hid (H3.out.boxV 116 [.int .u8 (fk.toNat : Int), .bool true, .bool fl, .slice a3 dl c3])
          have G3 := Lib.hid (hg3.later ((Own.St.start w3).alloc (.cells #[.int .u8 (fk.toNat : Int), .bool true, .bool fl, .slice a3 dl c3] 116)).below)
          clear hg3 hb3
          go_wp2_with (fail)
          refine bodyPost_ret (results_four rfl _ _ rfl rfl rfl rfl) rfl ?_
          exact join_err X HXX.out H4.out.below
    · have hpf : isPage q = false := by simpa using hpg
      have hX1 : X0 = (zeroF, 90) := by rw [hX0]; unfold PagM.take; rw [if_neg hpg]
      rw [hX1] at TK
      have TK2 : Hid (Calls Tryz.prog 56 #[.slice aj ml cj] wr fun e w' => ∃ ao cap, e = .returned (.tuple #[.agg #[.int .u8 0, .bool false, .bool false, .slice ao 0 cap], errP 90]) /\ Given w' ao 0 cap [] /\ Below wr.heap.size wr w') := TK.mono fun e w' ⟨a, c, h1, h2, _, h3⟩ => ⟨a, c, h1, h2, h3⟩
      have HXX : Hid (X = ((0, [], 0), 90)) := by
       show X = _
       rw [E.out, EJ, hpf]
       rfl
      clear hq hgj EJ TK hX0 hX1 hml hpg hpf hgo E
      rcases Nat.eq_zero_or_pos i with hi0 | hi0
      · have hi2 : ((i : Int) == 0) = true := by simp; omega
        clear hi0
        go_wp2_with (fail)
        refine TK2.out.mono ?_
        clear TK2
        rintro e w3 ⟨a3, c3, rfl, hg3, hb3⟩
        have H3 := Lib.hid (H.out.later hb3)
        have H4 := Lib.hid (H3.out.boxV 116 [.int .u8 0, .bool false, .bool false, .slice a3 0 c3])
        have G3 := Lib.hid (hg3.later ((Own.St.start w3).alloc (.cells #[.int .u8 0, .bool false, .bool false, .slice a3 0 c3] 116)).below)
        clear hg3 hb3
        go_wp2_with (fail)
        refine bodyPost_ret (results_four rfl _ _ rfl rfl rfl rfl) rfl ?_
        exact join_err X HXX.out H4.out.below
      · have hi2 : ((i : Int) == 0) = false := by simp; omega
        clear hi0
        go_wp2_with (fail)
        refine TK2.out.mono ?_
        clear TK2
        rintro e w3 ⟨a3, c3, rfl, hg3, hb3⟩
        have H3 := Lib.hid (H.out.later hb3)
        have H4 := Lib.hid (H3.out.boxV 116 [.int .u8 0, .bool false, .bool false, .slice a3 0 c3])
        have G3 := Lib.hid (hg3.later ((Own.St.start w3).alloc (.cells #[.int .u8 0, .bool false, .bool false, .slice a3 0 c3] 116)).below)
        clear hg3 hb3
        go_wp2_with (fail)
        refine bodyPost_ret (results_four rfl _ _ rfl rfl rfl rfl) rfl ?_
        exact join_err X HXX.out H4.out.below
end Pag
end Go.Proofs.YtahjjcmeocibbaaGreatDoor
end
section
namespace Go.Proofs.YtahjjcmeocibbaaGreatDoor
open Go.RowKit Go.Own
namespace Rec
open Go.RecM Byt
def fieldsN (k : Nat) : Nat := if k = 1 then 15 else if k = 2 then 3 else if k = 3 then 2 else if k = 4 then 12 else 0
theorem fieldsN_lt (k : Nat) : fieldsN k < 16 := by
 unfold fieldsN
 repeat (split; omega)
 omega
theorem fields_any (k : Nat) (hk : k < 256) (w : World) : Calls Tryz.prog 51 #[.int .u8 (k : Int)] w fun e w' => e = .returned (.int .u8 (fieldsN k : Int)) /\ w = w' := by
 by_cases k1 : k = 1
 · subst k1
   go_enter Tryz.func51, Tryz.ntmps51
   go_wp2
   go_ret
   exact ⟨rfl, rfl⟩
 by_cases k2 : k = 2
 · subst k2
   go_enter Tryz.func51, Tryz.ntmps51
   go_wp2
   go_ret
   exact ⟨rfl, rfl⟩
 by_cases k3 : k = 3
 · subst k3
   go_enter Tryz.func51, Tryz.ntmps51
   go_wp2
   go_ret
   exact ⟨rfl, rfl⟩
 by_cases k4 : k = 4
 · subst k4
   go_enter Tryz.func51, Tryz.ntmps51
   go_wp2
   go_ret
   exact ⟨rfl, rfl⟩
 have hf : fieldsN k = 0 := by unfold fieldsN; rw [if_neg k1, if_neg k2, if_neg k3, if_neg k4]
 rw [hf]
 have e1 : ((k : Int) == 1) = false := by simp; omega
 have e2 : ((k : Int) == 2) = false := by simp; omega
 have e3 : ((k : Int) == 3) = false := by simp; omega
 have e4 : ((k : Int) == 4) = false := by simp; omega
 clear hf k1 k2 k3 k4 hk
 go_enter Tryz.func51, Tryz.ntmps51
 go_wp2
 go_ret
 exact ⟨rfl, rfl⟩
def usedB (a s z l : Bool) : Nat := (if a then 1 else 0) + (if s then 2 else 0) + (if z then 4 else 0) + (if l then 8 else 0)
def usedN (n : Nte) : Nat := usedB (decide (n.addr ≠ 0)) (decide (n.seq ≠ 0)) (!(decide (n.sum = zsum) && decide (n.kn = 0))) (decide (0 < n.data.length))
theorem usedB_lt : ∀ a s z l : Bool, usedB a s z l < 16 := by decide
theorem usedN_lt (n : Nte) : usedN n < 16 := usedB_lt _ _ _ _
theorem neq_key {o : Oper} {x y : Tmp} (ho : o.op = .binOp .neq 51 (.tmp x) (.tmp y) 51) {a b : RecM.Bs} {m n : Nat} (ha : a.length = 32) (hb : b.length = 32) {v : Bool} (hv : (decide (a = b) && decide (m = n)) = v) (ρ : Operand -> Value) (w : World)
 (h0 : ρ (.tmp x) = .agg (keyC a m).toArray) (h1 : ρ (.tmp y) = .agg (keyC b n).toArray) : (execOp ρ o).run Tryz.prog w = .ok (.value (.bool (!v))) w := by
 have h' := run_eq_key a b m n ha hb w
 rw [hv] at h'
 have hm : Tryz.prog.eqGuardType Tryz.prog.depth 51 = false := by kernel_rfl
 have hg := run_eqGuard_agg (P := Tryz.prog) w .neq 51 (.tmp x) (.tmp y) (keyC a m).toArray (keyC b n).toArray hm
 have hb := run_neq_struct (P := Tryz.prog) w 51 (keyC a m).toArray (keyC b n).toArray
 rw [h'] at hb
 unfold execOp
 simp only [ho, h0, h1, Sem.run_bind, hg, Result.andThen_ok, hb, Sem.run_pure]
set_option maxHeartbeats 3200000 in
theorem used_any (n : Nte) (hs : n.sum.length = 32) (ao : Option Addr) (len cap : Nat) (hl : n.data.length = len) (hb : len <= 1000000) (w : World) :
 Calls Tryz.prog 85 #[.agg (ntC n (.slice ao len cap)).toArray] w fun e w' => e = .returned (.int .u8 (usedN n : Int)) /\ Below w.heap.size w w' := by
 obtain ⟨cs, hcs⟩ : ∃ cs, cs = ntC n (.slice ao len cap) := ⟨_, rfl⟩
 rw [<- hcs]
 have hbox := (Own.St.start w).boxV 54 cs
 have cc : ∀ j v, cs[j]? = some v -> (w.alloc (.cells cs.toArray 54)).cell? ⟨w.heap.size, j, none⟩ = some v := fun j v h => (hbox.cellV 0 rfl j h).1
 have c1 := cc 1 (.int .u32 (n.addr : Int)) (by rw [hcs]; rfl)
 have c2 := cc 2 (.int .u64 (n.seq : Int)) (by rw [hcs]; rfl)
 have c36 := cc 36 (.slice ao len cap) (by rw [hcs]; exact ntC_data n _ hs)
 have RK : Hid ((w.alloc (.cells cs.toArray 54)).rangeAt w.heap.size 3 (keyC n.sum n.kn)) := fun j v hv => cc (3 + j) v (by rw [hcs]; exact ntC_key n _ j v hv)
 have HB := Lib.hid hbox.below
 have KL := Lib.hid (keyC_len n.sum n.kn hs)
 have HS := Lib.hid hs
 have HZ : Hid (zsum.length = 32) := by show zsum.length = 32; simp [zsum]
 obtain ⟨r, hr⟩ : ∃ r, r = usedN n := ⟨_, rfl⟩
 rw [<- hr]
 unfold usedN at hr
 rw [hl] at hr
 obtain ⟨ke, hke⟩ : ∃ b, (decide (n.sum = zsum) && decide (n.kn = 0)) = b := ⟨_, rfl⟩
 rw [hke] at hr
 have KE := Lib.hid hke
 obtain ⟨ad, had⟩ : ∃ a, a = n.addr := ⟨_, rfl⟩
 rw [<- had] at c1 hr
 obtain ⟨sq, hsq⟩ : ∃ a, a = n.seq := ⟨_, rfl⟩
 rw [<- hsq] at c2 hr
 clear hke cc hbox hcs had hsq hl
 by_cases ha : ad = 0 <;> by_cases hq : sq = 0 <;> by_cases hz : 0 < (len : Int) <;> cases ke
 all_goals
  (try subst ha)
  (try subst hq)
  have hz' : decide (0 < len) = decide (0 < (len : Int)) := by apply decide_eq_decide.2; omega
  rw [hz'] at hr
  first | simp only [hz, decide_true, decide_false, Bool.not_true, Bool.not_false, usedB, if_true, if_false, Bool.false_eq_true, ne_eq, not_false_eq_true, ha, hq, Nat.reduceAdd] at hr | simp only [hz, decide_true, decide_false, Bool.not_true, Bool.not_false, usedB, if_true, if_false, Bool.false_eq_true, ne_eq, not_true_eq_false, not_false_eq_true, ha, Nat.reduceAdd] at hr | simp only [hz, decide_true, decide_false, Bool.not_true, Bool.not_false, usedB, if_true, if_false, Bool.false_eq_true, ne_eq, not_true_eq_false, not_false_eq_true, hq, Nat.reduceAdd] at hr | simp only [hz, decide_true, decide_false, Bool.not_true, Bool.not_false, usedB, if_true, if_false, Bool.false_eq_true, ne_eq, not_true_eq_false, Nat.reduceAdd] at hr
  subst hr
  clear hz'
  go_enter Tryz.func85, Tryz.ntmps85
  go_wp2_with (first
   | (refine wpList_val rfl (load_key _ KL.out rfl _ RK.out rfl) ?_)
   | (refine wpList_val rfl (zero_key rfl _ _) ?_)
   | (refine wpList_val rfl (neq_key rfl HS.out HZ.out KE.out _ _ rfl rfl) ?_))
  go_ret
  exact ⟨rfl, HB.out⟩
end Rec
end Go.Proofs.YtahjjcmeocibbaaGreatDoor
end
section
namespace Go.Proofs.YtahjjcmeocibbaaGreatDoor
open Go.RowKit Go.Own
namespace Rec
open Go.RecM Byt
def overN (n : Nte) : Nat := usedN n &&& (255 - fieldsN n.kind.toNat)
theorem usedB_none : ∀ a s z l : Bool,
 (decide (usedB a s z l &&& (255 - 15) = 0) = true) /\
 (decide (usedB a s z l &&& (255 - 3) = 0) = (!z && !l)) /\
 (decide (usedB a s z l &&& (255 - 2) = 0) = (!a && !z && !l)) /\
 (decide (usedB a s z l &&& (255 - 12) = 0) = (!a && !s)) := by decide
theorem right_by (n : Nte) : right n = (decide (fieldsN n.kind.toNat ≠ 0) && decide (overN n = 0) && decide (n.data.length <= 300) && (decide (n.kind.toNat ≠ 4) || decide (0 < n.data.length))) := by
 obtain ⟨i1, i2, i3, i4⟩ := kind_is n.kind
 obtain ⟨u1, u2, u3, u4⟩ := usedB_none (decide (n.addr ≠ 0)) (decide (n.seq ≠ 0)) (!(decide (n.sum = zsum) && decide (n.kn = 0))) (decide (0 < n.data.length))
 unfold right overN fieldsN usedN
 obtain ⟨k, hk⟩ : ∃ k, k = n.kind.toNat := ⟨_, rfl⟩
 rw [<- hk] at i1 i2 i3 i4 ⊢
 have hz : decide (n.data.length = 0) = !decide (0 < n.data.length) := by
  by_cases h : n.data.length = 0 <;> simp [h] <;> omega
 by_cases k1 : k = 1
 · rw [if_pos (i1.2 k1), if_pos k1, u1]
   simp [k1]
 rw [if_neg (fun h => k1 (i1.1 h)), if_neg k1]
 by_cases k2 : k = 2
 · rw [if_pos (i2.2 k2), if_pos k2, u2, hz]
   simp [k2, Bool.and_comm]
 rw [if_neg (fun h => k2 (i2.1 h)), if_neg k2]
 by_cases k3 : k = 3
 · rw [if_pos (i3.2 k3), if_pos k3, u3, hz]
   simp [k3, Bool.and_comm, Bool.and_assoc, Bool.and_left_comm]
 rw [if_neg (fun h => k3 (i3.1 h)), if_neg k3]
 by_cases k4 : k = 4
 · rw [if_pos (i4.2 k4), if_pos k4, u4]
   simp [k4, Bool.and_comm, Bool.and_assoc, Bool.and_left_comm]
 rw [if_neg (fun h => k4 (i4.1 h)), if_neg k4]
 simp
set_option maxHeartbeats 3200000 in
theorem lRight_any (n : Nte) (hs : n.sum.length = 32) (ao : Option Addr) (len cap : Nat) (hl : n.data.length = len) (hb : len <= 1000000) (w : World) :
 Calls Tryz.prog 48 #[.agg (ntC n (.slice ao len cap)).toArray] w fun e w' => e = .returned (.bool (right n)) /\ Below w.heap.size w w' := by
 obtain ⟨cs, hcs⟩ : ∃ cs, cs = ntC n (.slice ao len cap) := ⟨_, rfl⟩
 have hbox := (Own.St.start w).boxV 54 cs
 obtain ⟨w1, hw1⟩ : ∃ w1, w1 = w.alloc (.cells cs.toArray 54) := ⟨_, rfl⟩
 rw [<- hw1] at hbox
 have CU : Hid (∀ wx, Below w1.heap.size w1 wx -> Calls Tryz.prog 85 #[.agg cs.toArray] wx fun e w' => e = .returned (.int .u8 (usedN n : Int)) /\ Below wx.heap.size wx w') := by
  rw [hcs]
  exact fun wx _ => used_any n hs ao len cap hl hb wx
 have NL : Hid (cs.length = 37) := by show cs.length = 37; rw [hcs]; exact ntC_len n _ hs
 have RN : Hid (w1.rangeAt w.heap.size 0 cs) := fun j v hv => by rw [Nat.zero_add]; exact (hbox.cellV 0 rfl j hv).1
 have cc : ∀ wx, Below w1.heap.size w1 wx -> ∀ j v, cs[j]? = some v -> wx.cell? ⟨w.heap.size, j, none⟩ = some v := fun wx hwx j v h => ((hbox.later hwx).cellV 0 rfl j h).1
 have C0 : Hid (∀ wx, Below w1.heap.size w1 wx -> wx.cell? ⟨w.heap.size, 0, none⟩ = some (.int .u8 (n.kind.toNat : Int))) := fun wx hwx => cc wx hwx 0 _ (by rw [hcs]; rfl)
 have C36 : Hid (∀ wx, Below w1.heap.size w1 wx -> wx.cell? ⟨w.heap.size, 36, none⟩ = some (.slice ao len cap)) := fun wx hwx => cc wx hwx 36 _ (by rw [hcs]; exact ntC_data n _ hs)
 have HB := Lib.hid hbox
 have hr := right_by n
 rw [hl] at hr
 obtain ⟨r, hrr⟩ : ∃ r, r = right n := ⟨_, rfl⟩
 rw [<- hrr] at hr ⊢
 have hkl : n.kind.toNat < 256 := n.kind.toNat_lt
 obtain ⟨k, hk⟩ : ∃ k, k = n.kind.toNat := ⟨_, rfl⟩
 rw [<- hk] at hr C0 hkl
 have FO : Hid (∀ w, Calls Tryz.prog 51 #[.int .u8 (k : Int)] w fun e w' => e = .returned (.int .u8 (fieldsN k : Int)) /\ w = w') := fun w => fields_any k hkl w
 have fl := fieldsN_lt k
 have ul := usedN_lt n
 have AN : bits .andNot .u8 (usedN n : Int) (fieldsN k : Int) = (overN n : Int) := by rw [u8_andNot_nat _ _ (by omega) (by omega)]; unfold overN; rw [hk]
 obtain ⟨f, hf⟩ : ∃ f, f = fieldsN k := ⟨_, rfl⟩
 rw [<- hf] at hr FO AN
 obtain ⟨u, hu⟩ : ∃ u, u = usedN n := ⟨_, rfl⟩
 rw [<- hu] at AN CU
 obtain ⟨m, hm⟩ : ∃ m, m = overN n := ⟨_, rfl⟩
 rw [<- hm] at hr AN
 have HW1 := Lib.hid hw1
 rw [<- hcs]
 have c0 := C0.out w1 (Below.refl _ _)
 rw [hw1] at c0
 clear hw1 hcs hbox cc hrr hk hf hu hm fl ul hs hl
 by_cases f0 : f = 0
 · subst f0
   simp only [ne_eq, not_true_eq_false, decide_false, Bool.false_and] at hr
   subst hr
   clear AN CU
   go_enter Tryz.func48, Tryz.ntmps48
   go_wp2_with (fail)
   rw [<- HW1.out]
   refine (FO.out _).mono ?_
   rintro e w2 ⟨rfl, rfl⟩
   go_wp2_with (fail)
   go_ret
   exact ⟨rfl, HB.out.below⟩
 have f0' : ((f : Int) == 0) = false := by simp; omega
 rw [decide_eq_true f0, Bool.true_and] at hr
 by_cases m0 : m = 0
 · subst m0
   rw [decide_eq_true rfl, Bool.true_and] at hr
   by_cases hl3 : (len : Int) > 300
   · rw [decide_eq_false (by omega), Bool.false_and] at hr
     subst hr
     go_enter Tryz.func48, Tryz.ntmps48
     go_wp2_with (fail)
     rw [<- HW1.out]
     refine (FO.out _).mono ?_
     rintro e w2 ⟨rfl, rfl⟩
     go_wp2_with (refine wpList_val rfl (load_note cs NL.out rfl _ (b := w.heap.size) (k := 0) RN.out rfl) ?_)
     refine (CU.out _ (Below.refl _ _)).mono ?_
     rintro e w3 ⟨rfl, h3⟩
     have d36 := C36.out _ h3
     have H3 := Lib.hid (HB.out.below.trans (h3.mono HB.out.below.size))
     clear h3
     go_wp2
     go_ret
     exact ⟨rfl, H3.out⟩
   rw [decide_eq_true (by omega), Bool.true_and] at hr
   by_cases k4 : k = 4
   · subst k4
     by_cases hl0 : (len : Int) > 0
     · have hl0' : 0 < len := by omega
       simp only [ne_eq, not_true_eq_false, decide_false, Bool.false_or, hl0', decide_true] at hr
       subst hr
       go_enter Tryz.func48, Tryz.ntmps48
       go_wp2_with (fail)
       rw [<- HW1.out]
       refine (FO.out _).mono ?_
       rintro e w2 ⟨rfl, rfl⟩
       go_wp2_with (refine wpList_val rfl (load_note cs NL.out rfl _ (b := w.heap.size) (k := 0) RN.out rfl) ?_)
       refine (CU.out _ (Below.refl _ _)).mono ?_
       rintro e w3 ⟨rfl, h3⟩
       have d36 := C36.out _ h3
       have d0 := C0.out _ h3
       have H3 := Lib.hid (HB.out.below.trans (h3.mono HB.out.below.size))
       clear h3
       go_wp2
       go_ret
       exact ⟨rfl, H3.out⟩
     · have hl0' : ¬ 0 < len := by omega
       simp only [ne_eq, not_true_eq_false, decide_false, Bool.false_or, hl0'] at hr
       subst hr
       go_enter Tryz.func48, Tryz.ntmps48
       go_wp2_with (fail)
       rw [<- HW1.out]
       refine (FO.out _).mono ?_
       rintro e w2 ⟨rfl, rfl⟩
       go_wp2_with (refine wpList_val rfl (load_note cs NL.out rfl _ (b := w.heap.size) (k := 0) RN.out rfl) ?_)
       refine (CU.out _ (Below.refl _ _)).mono ?_
       rintro e w3 ⟨rfl, h3⟩
       have d36 := C36.out _ h3
       have d0 := C0.out _ h3
       have H3 := Lib.hid (HB.out.below.trans (h3.mono HB.out.below.size))
       clear h3
       go_wp2
       go_ret
       exact ⟨rfl, H3.out⟩
   · rw [decide_eq_true k4, Bool.true_or] at hr
     subst hr
     have k4i : ¬ (k : Int) = 4 := by omega
     have k4b : ((k : Int) != 4) = true := by simp; omega
     go_enter Tryz.func48, Tryz.ntmps48
     go_wp2_with (fail)
     rw [<- HW1.out]
     refine (FO.out _).mono ?_
     rintro e w2 ⟨rfl, rfl⟩
     go_wp2_with (refine wpList_val rfl (load_note cs NL.out rfl _ (b := w.heap.size) (k := 0) RN.out rfl) ?_)
     refine (CU.out _ (Below.refl _ _)).mono ?_
     rintro e w3 ⟨rfl, h3⟩
     have d36 := C36.out _ h3
     have d0 := C0.out _ h3
     have H3 := Lib.hid (HB.out.below.trans (h3.mono HB.out.below.size))
     clear h3
     go_wp2
     go_ret
     exact ⟨rfl, H3.out⟩
 · rw [decide_eq_false m0, Bool.false_and, Bool.false_and] at hr
   subst hr
   have m0i : ¬ (m : Int) = 0 := by omega
   have m0b : ((m : Int) != 0) = true := by simp; omega
   go_enter Tryz.func48, Tryz.ntmps48
   go_wp2_with (fail)
   rw [<- HW1.out]
   refine (FO.out _).mono ?_
   rintro e w2 ⟨rfl, rfl⟩
   go_wp2_with (refine wpList_val rfl (load_note cs NL.out rfl _ (b := w.heap.size) (k := 0) RN.out rfl) ?_)
   refine (CU.out _ (Below.refl _ _)).mono ?_
   rintro e w3 ⟨rfl, h3⟩
   have H3 := Lib.hid (HB.out.below.trans (h3.mono HB.out.below.size))
   clear h3
   go_wp2
   go_ret
   exact ⟨rfl, H3.out⟩
theorem ntC_sum_at {cs : List Value} {n : Nte} {v : Value} (hcs : cs = ntC n v) (_hs : n.sum.length = 32) (j : Nat) (hj : j < n.sum.length) : cs[3 + j]? = some (byteV (n.sum.getD j 0)) := by
 rw [hcs]
 refine ntC_sum n v j _ ?_
 rw [List.getElem?_map, List.getD_eq_getElem?_getD, List.getElem?_eq_getElem hj]
 rfl
end Rec
end Go.Proofs.YtahjjcmeocibbaaGreatDoor
end
section
namespace Go.Proofs.YtahjjcmeocibbaaGreatDoor
open Go.RowKit Go.Own
namespace Rec
open Go.RecM Byt
section
variable {B : Nat} {w0 w : World} {Ps : List Asn} {p : Nat} {xs : RecM.Bs}
theorem w_new (H : Own.St B w0 w Ps) : Calls Tryz.prog 49 #[.int .i64 400] w fun e w' => ∃ p, e = .returned (.pointer (some ⟨p, 0, none⟩)) /\ Own.St B w0 w' (Cod.AW p ⟨400, [], 0⟩ :: Ps) :=
 Cod.newWriter_st H 400 (by decide)
theorem w_num (H : Own.St B w0 w (Cod.AW p ⟨400, xs, 0⟩ :: Ps)) (n k : Nat) (hk : k <= 8) {ys : RecM.Bs} (hy : ys = xs ++ RecM.le n k) (hl : ys.length <= 400) :
 Calls Tryz.prog 50 #[.pointer (some ⟨p, 0, none⟩), .int .u64 (n : Int), .int .i64 (k : Int)] w fun e w' => e = .returned (.tuple #[]) /\ Own.St B w0 w' (Cod.AW p ⟨400, ys, 0⟩ :: Ps) := by
 have hlen : ys.length = xs.length + k := by rw [hy, List.length_append, RecM.le_len]
 have h := Cod.num_st H 0 rfl n (k : Int) (by show xs.length <= _; omega)
 rw [Cod.num_fits _ _ _ rfl hk (by show (k : Int) <= 400 - (xs.length : Int); omega), cod_le, <- hy] at h
 exact h
theorem w_raw (H : Own.St B w0 w (Cod.AW p ⟨400, xs, 0⟩ :: Ps)) {ao : Option Addr} {bs : RecM.Bs} {m : Nat} (cap : Nat) (hV : View w (fun k => k < B) ao bs) (hm : bs.length = m) {ys : RecM.Bs} (hy : ys = xs ++ bs) (hl : ys.length <= 400) :
 Calls Tryz.prog 52 #[.pointer (some ⟨p, 0, none⟩), .slice ao m cap] w fun e w' => e = .returned (.tuple #[]) /\ Own.St B w0 w' (Cod.AW p ⟨400, ys, 0⟩ :: Ps) := by
 subst hm
 have hlen : ys.length = xs.length + bs.length := by rw [hy, List.length_append]
 have h := Cod.raw_st H 0 rfl cap hV (by omega) (by show xs.length <= _; omega)
 rw [Cod.lay_fits _ _ rfl (by show (bs.length : Int) <= 400 - (xs.length : Int); omega), <- hy] at h
 exact h
theorem w_blob (H : Own.St B w0 w (Cod.AW p ⟨400, xs, 0⟩ :: Ps)) {ao : Option Addr} {bs : RecM.Bs} {m : Nat} (cap : Nat) (hV : View w (fun k => k < B) ao bs) (hm : bs.length = m) {ys : RecM.Bs} (hy : ys = xs ++ (RecM.le m 2 ++ bs)) (hl : ys.length <= 400) :
 Calls Tryz.prog 53 #[.pointer (some ⟨p, 0, none⟩), .slice ao m cap] w fun e w' => e = .returned (.tuple #[]) /\ Own.St B w0 w' (Cod.AW p ⟨400, ys, 0⟩ :: Ps) := by
 subst hm
 have hlen : ys.length = xs.length + (2 + bs.length) := by rw [hy, List.length_append, List.length_append, RecM.le_len]
 have h := Cod.blob_st H 0 rfl cap hV (by omega) (by show xs.length <= _; omega)
 rw [Cod.blob_fits _ _ rfl (by omega) (by show ((2 + bs.length : Nat) : Int) <= 400 - (xs.length : Int); omega), cod_le, <- hy] at h
 exact h
theorem w_out (H : Own.St B w0 w (Cod.AW p ⟨400, xs, 0⟩ :: Ps)) {m : Nat} (hm : xs.length = m) (hl : m <= 400) :
 Calls Tryz.prog 54 #[.pointer (some ⟨p, 0, none⟩)] w fun e w' => ∃ ao cap, e = .returned (.tuple #[.slice ao m cap, .int .i64 0]) /\ Own.St B w0 w' (AB ao m cap xs :: Cod.AW p ⟨400, xs, 0⟩ :: Ps) :=
 Cod.out_st H 0 rfl hm (by omega)
end
theorem layDone_ok {x : RecM.Bs × Nat} {l : RecM.Bs} {m : Nat} (hx : x = (l, 0)) {w w1 w' : World} {ao : Option Addr} {cap : Nat} {Ps : List Asn} (hb : Below w.heap.size w w1) (h : Own.St w1.heap.size w1 w' (AB ao m cap l :: Ps)) : LayDone x w (.returned (.tuple #[.slice ao m cap, errN 0])) w' := by
 subst hx
 obtain rfl := (ab_len h 0 rfl).1
 exact ⟨ao, cap, rfl, given_own h 0 rfl, hb.trans (h.below.mono hb.size)⟩
theorem layDone_err {x : RecM.Bs × Nat} {k : Nat} (hx : x = ([], k)) {w w' : World} (h : Below w.heap.size w w') : LayDone x w (.returned (.tuple #[.slice none 0 0, errN k])) w' := by
 subst hx
 exact ⟨none, 0, rfl, ⟨.inl rfl, rfl, ⟨Nat.le_refl _, Nat.zero_le _⟩, fun _ => rfl⟩, h⟩
set_option maxRecDepth 6000 in
set_option maxHeartbeats 8000000 in
theorem lLay_any (n : Nte) (f : Fits n) (ao : Option Addr) (len cap : Nat) (w : World) (hg : Given w ao len cap n.data) (hb : len <= 1000000) :
 Calls Tryz.prog 19 #[.agg (ntC n (.slice ao len cap)).toArray] w (LayDone (lay n) w) := by
 obtain ⟨cs, hcs⟩ : ∃ cs, cs = ntC n (.slice ao len cap) := ⟨_, rfl⟩
 have hbox := (Own.St.start w).boxV 54 cs
 obtain ⟨w1, hw1⟩ : ∃ w1, w1 = w.alloc (.cells cs.toArray 54) := ⟨_, rfl⟩
 rw [<- hw1] at hbox
 have NL : Hid (cs.length = 37) := by show cs.length = 37; rw [hcs]; exact ntC_len n _ f.sum
 have RN : Hid (w1.rangeAt w.heap.size 0 cs) := fun j v hv => by rw [Nat.zero_add]; exact (hbox.cellV 0 rfl j hv).1
 have NTO : Hid (∀ wx, Below w1.heap.size w1 wx -> _) := fun wx hwx => nt_cells (hbox.later hwx) 0 rfl hcs f.sum
 have CR : Hid (Calls Tryz.prog 48 #[.agg cs.toArray] w1 fun e w' => e = .returned (.bool (right n)) /\ Below w1.heap.size w1 w') := by
  rw [hcs]
  exact lRight_any n f.sum ao len cap hg.size hb w1
 have HB1 := Lib.hid hbox.below
 have GV : Hid (∀ wx, Below w1.heap.size w1 wx -> View wx (fun k => k < w1.heap.size) ao n.data) := fun wx hwx => View.below ((hg.later hbox.below).view) hwx
 have KV : Hid (∀ wx, Below w1.heap.size w1 wx -> View wx (fun k => k < w1.heap.size) (some ⟨w.heap.size, 3, none⟩) n.sum) := by
  intro wx hwx
  have hlt := (hbox.ltV 0 rfl).2
  refine .inr ⟨w.heap.size, 3, rfl, hlt, Nat.lt_of_lt_of_le hlt hwx.size, fun j hj => ?_⟩
  have hc := (hbox.later hwx).cellV 0 rfl (3 + j) (ntC_sum_at hcs f.sum j hj)
  exact hc.1
 have HS := Lib.hid f.sum
 have HDL := Lib.hid hg.size
 have b1 := f.addr
 have b2 := f.seq
 have b3 := f.kn
 have HW1 := Lib.hid hw1
 obtain ⟨X, hX⟩ : ∃ X, X = lay n := ⟨_, rfl⟩
 rw [<- hX, <- hcs]
 have HX := Lib.hid hX
 obtain ⟨r, hr⟩ : ∃ r, r = right n := ⟨_, rfl⟩
 rw [<- hr] at CR
 have HR := Lib.hid hr.symm
 clear hcs hbox hg hX hr hw1
 cases r
 · have HE : Hid (X = ([], 1)) := by
    show X = _
    rw [HX.out]; unfold lay; rw [HR.out]; rfl
   clear NTO GV KV
   go_enter Tryz.func19, Tryz.ntmps19
   go_wp2_with (refine wpList_val rfl (load_note cs NL.out rfl _ (b := w.heap.size) (k := 0) (by rw [<- HW1.out]; exact RN.out) rfl) ?_)
   rw [<- HW1.out]
   refine CR.out.mono ?_
   clear CR
   rintro e w2 ⟨rfl, h2⟩
   have H2 := Lib.hid (HB1.out.trans (h2.mono HB1.out.size))
   clear h2
   go_wp2_with (fail)
   go_ret2
   exact layDone_err HE.out H2.out
 have HL : Hid (X = (laid n, 0)) := by show X = _; rw [HX.out]; exact lay_of HR.out
 have hk := right_kind HR.out
 have hd3 := right_data HR.out
 rw [HDL.out] at hd3
 obtain ⟨ad, had⟩ : ∃ a, a = n.addr := ⟨_, rfl⟩
 obtain ⟨sq, hsq⟩ : ∃ a, a = n.seq := ⟨_, rfl⟩
 obtain ⟨kn, hkn⟩ : ∃ a, a = n.kn := ⟨_, rfl⟩
 rw [<- had] at b1
 rw [<- hsq] at b2
 rw [<- hkn] at b3
 have HAD := Lib.hid had
 have HSQ := Lib.hid hsq
 have HKN := Lib.hid hkn
 clear had hsq hkn HX
 rcases hk with k0 | k0 | k0 | k0
 · have HKK : Hid ((n.kind.toNat : Int) = 1) := by show (n.kind.toNat : Int) = 1; rw [k0]; rfl
   have HF : Hid (∀ w, Calls Tryz.prog 51 #[.int .u8 1] w fun e w' => e = .returned (.int .u8 15) /\ w = w') := fun w => fields_any 1 (by decide) w
   obtain ⟨x0, hx0⟩ : ∃ x, x = ([] : RecM.Bs) ++ RecM.le 1 1 := ⟨_, rfl⟩
   have hxl0 : x0.length = 1 := by rw [hx0]; simp only [List.length_append, RecM.le_len, List.length_nil]
   have HY0 := Lib.hid hx0
   have HZ0 : Hid (x0.length <= 400) := by show _ <= _; omega
   obtain ⟨x1, hx1⟩ : ∃ x, x = x0 ++ RecM.le ad 4 := ⟨_, rfl⟩
   have hxl1 : x1.length = 5 := by rw [hx1]; simp only [List.length_append, RecM.le_len, hxl0]
   have HY1 := Lib.hid hx1
   have HZ1 : Hid (x1.length <= 400) := by show _ <= _; omega
   obtain ⟨x2, hx2⟩ : ∃ x, x = x1 ++ RecM.le sq 8 := ⟨_, rfl⟩
   have hxl2 : x2.length = 13 := by rw [hx2]; simp only [List.length_append, RecM.le_len, hxl1]
   have HY2 := Lib.hid hx2
   have HZ2 : Hid (x2.length <= 400) := by show _ <= _; omega
   obtain ⟨x3, hx3⟩ : ∃ x, x = x2 ++ n.sum := ⟨_, rfl⟩
   have hxl3 : x3.length = 45 := by rw [hx3]; simp only [List.length_append, HS.out, hxl2]
   have HY3 := Lib.hid hx3
   have HZ3 : Hid (x3.length <= 400) := by show _ <= _; omega
   obtain ⟨x4, hx4⟩ : ∃ x, x = x3 ++ RecM.le kn 4 := ⟨_, rfl⟩
   have hxl4 : x4.length = 49 := by rw [hx4]; simp only [List.length_append, RecM.le_len, hxl3]
   have HY4 := Lib.hid hx4
   have HZ4 : Hid (x4.length <= 400) := by show _ <= _; omega
   obtain ⟨x5, hx5⟩ : ∃ x, x = x4 ++ (RecM.le len 2 ++ n.data) := ⟨_, rfl⟩
   have hxl5 : x5.length = 51 + len := by rw [hx5]; simp only [List.length_append, RecM.le_len, HDL.out, hxl4]; omega
   have HY5 := Lib.hid hx5
   have HZ5 : Hid (x5.length <= 400) := by show _ <= _; omega
   have HLD : Hid (laid n = x5) := by
    show laid n = x5
    rw [hx5, hx4, hx3, hx2, hx1, hx0]
    try rw [HAD.out]
    try rw [HSQ.out]
    try rw [<- HDL.out]
    try rw [HKN.out]
    unfold laid
    rw [k0]
    simp [RecM.tail, RecM.le]
   have HXL := Lib.hid hxl5
   have HTOT : Hid (51 + len <= 400) := by show _ <= _; omega
   clear k0 hx0 hxl0 hx1 hxl1 hx2 hxl2 hx3 hxl3 hx4 hxl4 hx5 hxl5
   go_enter Tryz.func19, Tryz.ntmps19
   go_wp2_with (refine wpList_val rfl (load_note cs NL.out rfl _ (b := w.heap.size) (k := 0) (by rw [<- HW1.out]; exact RN.out) rfl) ?_)
   rw [<- HW1.out]
   refine CR.out.mono ?_
   clear CR
   rintro e w2 ⟨rfl, h2⟩
   have H2 := Lib.hid ((Own.St.start w1).later h2)
   clear h2
   go_wp2_with (fail)
   refine (w_new H2.out).mono ?_
   rintro e w3 ⟨p, rfl, h3⟩
   have nc := NTO.out _ h3.below
   rw [HKK.out, <- HAD.out, <- HSQ.out, <- HKN.out] at nc
   have d0 := nc.1
   have d1 := nc.2.1
   have d2 := nc.2.2.1
   have d35 := nc.2.2.2.1
   have d36 := nc.2.2.2.2.1
   clear nc
   have GW := Lib.hid (GV.out _ h3.below)
   have KW := Lib.hid (KV.out _ h3.below)
   have HH0 := Lib.hid h3
   clear h3
   go_wp2_with (fail)
   refine (w_num HH0.out 1 1 (by decide) HY0.out HZ0.out).mono ?_
   clear d0 d1 d2 d35 d36 GW KW
   rintro e w4 ⟨rfl, h4⟩
   have nc := NTO.out _ h4.below
   rw [HKK.out, <- HAD.out, <- HSQ.out, <- HKN.out] at nc
   have d0 := nc.1
   have d1 := nc.2.1
   have d2 := nc.2.2.1
   have d35 := nc.2.2.2.1
   have d36 := nc.2.2.2.2.1
   clear nc
   have GW := Lib.hid (GV.out _ h4.below)
   have KW := Lib.hid (KV.out _ h4.below)
   have HH1 := Lib.hid h4
   clear h4
   clear HH0
   go_wp2_with (fail)
   refine (HF.out _).mono ?_
   rintro e wf ⟨rfl, rfl⟩
   go_wp2_with (fail)
   refine (w_num HH1.out ad 4 (by decide) HY1.out HZ1.out).mono ?_
   clear d0 d1 d2 d35 d36 GW KW
   rintro e w5 ⟨rfl, h5⟩
   have nc := NTO.out _ h5.below
   rw [HKK.out, <- HAD.out, <- HSQ.out, <- HKN.out] at nc
   have d0 := nc.1
   have d1 := nc.2.1
   have d2 := nc.2.2.1
   have d35 := nc.2.2.2.1
   have d36 := nc.2.2.2.2.1
   clear nc
   have GW := Lib.hid (GV.out _ h5.below)
   have KW := Lib.hid (KV.out _ h5.below)
   have HH2 := Lib.hid h5
   clear h5
   clear HH1
   go_wp2_with (fail)
   refine (w_num HH2.out sq 8 (by decide) HY2.out HZ2.out).mono ?_
   clear d0 d1 d2 d35 d36 GW KW
   rintro e w6 ⟨rfl, h6⟩
   have nc := NTO.out _ h6.below
   rw [HKK.out, <- HAD.out, <- HSQ.out, <- HKN.out] at nc
   have d0 := nc.1
   have d1 := nc.2.1
   have d2 := nc.2.2.1
   have d35 := nc.2.2.2.1
   have d36 := nc.2.2.2.2.1
   clear nc
   have GW := Lib.hid (GV.out _ h6.below)
   have KW := Lib.hid (KV.out _ h6.below)
   have HH3 := Lib.hid h6
   clear h6
   clear HH2
   go_wp2_with (fail)
   refine (w_raw HH3.out 32 KW.out HS.out HY3.out HZ3.out).mono ?_
   clear d0 d1 d2 d35 d36 GW KW
   rintro e w7 ⟨rfl, h7⟩
   have nc := NTO.out _ h7.below
   rw [HKK.out, <- HAD.out, <- HSQ.out, <- HKN.out] at nc
   have d0 := nc.1
   have d1 := nc.2.1
   have d2 := nc.2.2.1
   have d35 := nc.2.2.2.1
   have d36 := nc.2.2.2.2.1
   clear nc
   have GW := Lib.hid (GV.out _ h7.below)
   have KW := Lib.hid (KV.out _ h7.below)
   have HH4 := Lib.hid h7
   clear h7
   clear HH3
   go_wp2_with (fail)
   refine (w_num HH4.out kn 4 (by decide) HY4.out HZ4.out).mono ?_
   clear d0 d1 d2 d35 d36 GW KW
   rintro e w8 ⟨rfl, h8⟩
   have nc := NTO.out _ h8.below
   rw [HKK.out, <- HAD.out, <- HSQ.out, <- HKN.out] at nc
   have d0 := nc.1
   have d1 := nc.2.1
   have d2 := nc.2.2.1
   have d35 := nc.2.2.2.1
   have d36 := nc.2.2.2.2.1
   clear nc
   have GW := Lib.hid (GV.out _ h8.below)
   have KW := Lib.hid (KV.out _ h8.below)
   have HH5 := Lib.hid h8
   clear h8
   clear HH4
   go_wp2_with (fail)
   refine (w_blob HH5.out cap GW.out HDL.out HY5.out HZ5.out).mono ?_
   clear d0 d1 d2 d35 d36 GW KW
   rintro e w9 ⟨rfl, h9⟩
   have nc := NTO.out _ h9.below
   rw [HKK.out, <- HAD.out, <- HSQ.out, <- HKN.out] at nc
   have d0 := nc.1
   have d1 := nc.2.1
   have d2 := nc.2.2.1
   have d35 := nc.2.2.2.1
   have d36 := nc.2.2.2.2.1
   clear nc
   have GW := Lib.hid (GV.out _ h9.below)
   have KW := Lib.hid (KV.out _ h9.below)
   have HH6 := Lib.hid h9
   clear h9
   clear HH5
   go_wp2_with (fail)
   refine (w_out HH6.out HXL.out HTOT.out).mono ?_
   clear d0 d1 d2 d35 d36 GW KW
   rintro e w30 ⟨a2, c2, rfl, h30⟩
   have H30 := Lib.hid h30
   clear h30
   go_wp2_with (fail)
   go_ret2
   refine layDone_ok (by rw [HL.out, HLD.out]) HB1.out H30.out
 · have HKK : Hid ((n.kind.toNat : Int) = 2) := by show (n.kind.toNat : Int) = 2; rw [k0]; rfl
   have HF : Hid (∀ w, Calls Tryz.prog 51 #[.int .u8 2] w fun e w' => e = .returned (.int .u8 3) /\ w = w') := fun w => fields_any 2 (by decide) w
   obtain ⟨x0, hx0⟩ : ∃ x, x = ([] : RecM.Bs) ++ RecM.le 2 1 := ⟨_, rfl⟩
   have hxl0 : x0.length = 1 := by rw [hx0]; simp only [List.length_append, RecM.le_len, List.length_nil]
   have HY0 := Lib.hid hx0
   have HZ0 : Hid (x0.length <= 400) := by show _ <= _; omega
   obtain ⟨x1, hx1⟩ : ∃ x, x = x0 ++ RecM.le ad 4 := ⟨_, rfl⟩
   have hxl1 : x1.length = 5 := by rw [hx1]; simp only [List.length_append, RecM.le_len, hxl0]
   have HY1 := Lib.hid hx1
   have HZ1 : Hid (x1.length <= 400) := by show _ <= _; omega
   obtain ⟨x2, hx2⟩ : ∃ x, x = x1 ++ RecM.le sq 8 := ⟨_, rfl⟩
   have hxl2 : x2.length = 13 := by rw [hx2]; simp only [List.length_append, RecM.le_len, hxl1]
   have HY2 := Lib.hid hx2
   have HZ2 : Hid (x2.length <= 400) := by show _ <= _; omega
   have HLD : Hid (laid n = x2) := by
    show laid n = x2
    rw [hx2, hx1, hx0]
    try rw [HAD.out]
    try rw [HSQ.out]
    try rw [<- HDL.out]
    try rw [HKN.out]
    unfold laid
    rw [k0]
    simp [RecM.le]
   have HXL := Lib.hid hxl2
   have HTOT : Hid (13 <= 400) := by show _ <= _; omega
   clear k0 hx0 hxl0 hx1 hxl1 hx2 hxl2
   go_enter Tryz.func19, Tryz.ntmps19
   go_wp2_with (refine wpList_val rfl (load_note cs NL.out rfl _ (b := w.heap.size) (k := 0) (by rw [<- HW1.out]; exact RN.out) rfl) ?_)
   rw [<- HW1.out]
   refine CR.out.mono ?_
   clear CR
   rintro e w2 ⟨rfl, h2⟩
   have H2 := Lib.hid ((Own.St.start w1).later h2)
   clear h2
   go_wp2_with (fail)
   refine (w_new H2.out).mono ?_
   rintro e w3 ⟨p, rfl, h3⟩
   have nc := NTO.out _ h3.below
   rw [HKK.out, <- HAD.out, <- HSQ.out, <- HKN.out] at nc
   have d0 := nc.1
   have d1 := nc.2.1
   have d2 := nc.2.2.1
   have d35 := nc.2.2.2.1
   have d36 := nc.2.2.2.2.1
   clear nc
   have GW := Lib.hid (GV.out _ h3.below)
   have KW := Lib.hid (KV.out _ h3.below)
   have HH0 := Lib.hid h3
   clear h3
   go_wp2_with (fail)
   refine (w_num HH0.out 2 1 (by decide) HY0.out HZ0.out).mono ?_
   clear d0 d1 d2 d35 d36 GW KW
   rintro e w4 ⟨rfl, h4⟩
   have nc := NTO.out _ h4.below
   rw [HKK.out, <- HAD.out, <- HSQ.out, <- HKN.out] at nc
   have d0 := nc.1
   have d1 := nc.2.1
   have d2 := nc.2.2.1
   have d35 := nc.2.2.2.1
   have d36 := nc.2.2.2.2.1
   clear nc
   have GW := Lib.hid (GV.out _ h4.below)
   have KW := Lib.hid (KV.out _ h4.below)
   have HH1 := Lib.hid h4
   clear h4
   clear HH0
   go_wp2_with (fail)
   refine (HF.out _).mono ?_
   rintro e wf ⟨rfl, rfl⟩
   go_wp2_with (fail)
   refine (w_num HH1.out ad 4 (by decide) HY1.out HZ1.out).mono ?_
   clear d0 d1 d2 d35 d36 GW KW
   rintro e w5 ⟨rfl, h5⟩
   have nc := NTO.out _ h5.below
   rw [HKK.out, <- HAD.out, <- HSQ.out, <- HKN.out] at nc
   have d0 := nc.1
   have d1 := nc.2.1
   have d2 := nc.2.2.1
   have d35 := nc.2.2.2.1
   have d36 := nc.2.2.2.2.1
   clear nc
   have GW := Lib.hid (GV.out _ h5.below)
   have KW := Lib.hid (KV.out _ h5.below)
   have HH2 := Lib.hid h5
   clear h5
   clear HH1
   go_wp2_with (fail)
   refine (w_num HH2.out sq 8 (by decide) HY2.out HZ2.out).mono ?_
   clear d0 d1 d2 d35 d36 GW KW
   rintro e w6 ⟨rfl, h6⟩
   have nc := NTO.out _ h6.below
   rw [HKK.out, <- HAD.out, <- HSQ.out, <- HKN.out] at nc
   have d0 := nc.1
   have d1 := nc.2.1
   have d2 := nc.2.2.1
   have d35 := nc.2.2.2.1
   have d36 := nc.2.2.2.2.1
   clear nc
   have GW := Lib.hid (GV.out _ h6.below)
   have KW := Lib.hid (KV.out _ h6.below)
   have HH3 := Lib.hid h6
   clear h6
   clear HH2
   go_wp2_with (fail)
   refine (w_out HH3.out HXL.out HTOT.out).mono ?_
   clear d0 d1 d2 d35 d36 GW KW
   rintro e w30 ⟨a2, c2, rfl, h30⟩
   have H30 := Lib.hid h30
   clear h30
   go_wp2_with (fail)
   go_ret2
   refine layDone_ok (by rw [HL.out, HLD.out]) HB1.out H30.out
 · have HKK : Hid ((n.kind.toNat : Int) = 3) := by show (n.kind.toNat : Int) = 3; rw [k0]; rfl
   have HF : Hid (∀ w, Calls Tryz.prog 51 #[.int .u8 3] w fun e w' => e = .returned (.int .u8 2) /\ w = w') := fun w => fields_any 3 (by decide) w
   obtain ⟨x0, hx0⟩ : ∃ x, x = ([] : RecM.Bs) ++ RecM.le 3 1 := ⟨_, rfl⟩
   have hxl0 : x0.length = 1 := by rw [hx0]; simp only [List.length_append, RecM.le_len, List.length_nil]
   have HY0 := Lib.hid hx0
   have HZ0 : Hid (x0.length <= 400) := by show _ <= _; omega
   obtain ⟨x1, hx1⟩ : ∃ x, x = x0 ++ RecM.le sq 8 := ⟨_, rfl⟩
   have hxl1 : x1.length = 9 := by rw [hx1]; simp only [List.length_append, RecM.le_len, hxl0]
   have HY1 := Lib.hid hx1
   have HZ1 : Hid (x1.length <= 400) := by show _ <= _; omega
   have HLD : Hid (laid n = x1) := by
    show laid n = x1
    rw [hx1, hx0]
    try rw [HAD.out]
    try rw [HSQ.out]
    try rw [<- HDL.out]
    try rw [HKN.out]
    unfold laid
    rw [k0]
    simp [RecM.le]
   have HXL := Lib.hid hxl1
   have HTOT : Hid (9 <= 400) := by show _ <= _; omega
   clear k0 hx0 hxl0 hx1 hxl1
   go_enter Tryz.func19, Tryz.ntmps19
   go_wp2_with (refine wpList_val rfl (load_note cs NL.out rfl _ (b := w.heap.size) (k := 0) (by rw [<- HW1.out]; exact RN.out) rfl) ?_)
   rw [<- HW1.out]
   refine CR.out.mono ?_
   clear CR
   rintro e w2 ⟨rfl, h2⟩
   have H2 := Lib.hid ((Own.St.start w1).later h2)
   clear h2
   go_wp2_with (fail)
   refine (w_new H2.out).mono ?_
   rintro e w3 ⟨p, rfl, h3⟩
   have nc := NTO.out _ h3.below
   rw [HKK.out, <- HAD.out, <- HSQ.out, <- HKN.out] at nc
   have d0 := nc.1
   have d1 := nc.2.1
   have d2 := nc.2.2.1
   have d35 := nc.2.2.2.1
   have d36 := nc.2.2.2.2.1
   clear nc
   have GW := Lib.hid (GV.out _ h3.below)
   have KW := Lib.hid (KV.out _ h3.below)
   have HH0 := Lib.hid h3
   clear h3
   go_wp2_with (fail)
   refine (w_num HH0.out 3 1 (by decide) HY0.out HZ0.out).mono ?_
   clear d0 d1 d2 d35 d36 GW KW
   rintro e w4 ⟨rfl, h4⟩
   have nc := NTO.out _ h4.below
   rw [HKK.out, <- HAD.out, <- HSQ.out, <- HKN.out] at nc
   have d0 := nc.1
   have d1 := nc.2.1
   have d2 := nc.2.2.1
   have d35 := nc.2.2.2.1
   have d36 := nc.2.2.2.2.1
   clear nc
   have GW := Lib.hid (GV.out _ h4.below)
   have KW := Lib.hid (KV.out _ h4.below)
   have HH1 := Lib.hid h4
   clear h4
   clear HH0
   go_wp2_with (fail)
   refine (HF.out _).mono ?_
   rintro e wf ⟨rfl, rfl⟩
   go_wp2_with (fail)
   refine (w_num HH1.out sq 8 (by decide) HY1.out HZ1.out).mono ?_
   clear d0 d1 d2 d35 d36 GW KW
   rintro e w5 ⟨rfl, h5⟩
   have nc := NTO.out _ h5.below
   rw [HKK.out, <- HAD.out, <- HSQ.out, <- HKN.out] at nc
   have d0 := nc.1
   have d1 := nc.2.1
   have d2 := nc.2.2.1
   have d35 := nc.2.2.2.1
   have d36 := nc.2.2.2.2.1
   clear nc
   have GW := Lib.hid (GV.out _ h5.below)
   have KW := Lib.hid (KV.out _ h5.below)
   have HH2 := Lib.hid h5
   clear h5
   clear HH1
   go_wp2_with (fail)
   refine (w_out HH2.out HXL.out HTOT.out).mono ?_
   clear d0 d1 d2 d35 d36 GW KW
   rintro e w30 ⟨a2, c2, rfl, h30⟩
   have H30 := Lib.hid h30
   clear h30
   go_wp2_with (fail)
   go_ret2
   refine layDone_ok (by rw [HL.out, HLD.out]) HB1.out H30.out
 · have HKK : Hid ((n.kind.toNat : Int) = 4) := by show (n.kind.toNat : Int) = 4; rw [k0]; rfl
   have HF : Hid (∀ w, Calls Tryz.prog 51 #[.int .u8 4] w fun e w' => e = .returned (.int .u8 12) /\ w = w') := fun w => fields_any 4 (by decide) w
   obtain ⟨x0, hx0⟩ : ∃ x, x = ([] : RecM.Bs) ++ RecM.le 4 1 := ⟨_, rfl⟩
   have hxl0 : x0.length = 1 := by rw [hx0]; simp only [List.length_append, RecM.le_len, List.length_nil]
   have HY0 := Lib.hid hx0
   have HZ0 : Hid (x0.length <= 400) := by show _ <= _; omega
   obtain ⟨x1, hx1⟩ : ∃ x, x = x0 ++ n.sum := ⟨_, rfl⟩
   have hxl1 : x1.length = 33 := by rw [hx1]; simp only [List.length_append, HS.out, hxl0]
   have HY1 := Lib.hid hx1
   have HZ1 : Hid (x1.length <= 400) := by show _ <= _; omega
   obtain ⟨x2, hx2⟩ : ∃ x, x = x1 ++ RecM.le kn 4 := ⟨_, rfl⟩
   have hxl2 : x2.length = 37 := by rw [hx2]; simp only [List.length_append, RecM.le_len, hxl1]
   have HY2 := Lib.hid hx2
   have HZ2 : Hid (x2.length <= 400) := by show _ <= _; omega
   obtain ⟨x3, hx3⟩ : ∃ x, x = x2 ++ (RecM.le len 2 ++ n.data) := ⟨_, rfl⟩
   have hxl3 : x3.length = 39 + len := by rw [hx3]; simp only [List.length_append, RecM.le_len, HDL.out, hxl2]; omega
   have HY3 := Lib.hid hx3
   have HZ3 : Hid (x3.length <= 400) := by show _ <= _; omega
   have HLD : Hid (laid n = x3) := by
    show laid n = x3
    rw [hx3, hx2, hx1, hx0]
    try rw [HAD.out]
    try rw [HSQ.out]
    try rw [<- HDL.out]
    try rw [HKN.out]
    unfold laid
    rw [k0]
    simp [RecM.tail, RecM.le]
   have HXL := Lib.hid hxl3
   have HTOT : Hid (39 + len <= 400) := by show _ <= _; omega
   clear k0 hx0 hxl0 hx1 hxl1 hx2 hxl2 hx3 hxl3
   go_enter Tryz.func19, Tryz.ntmps19
   go_wp2_with (refine wpList_val rfl (load_note cs NL.out rfl _ (b := w.heap.size) (k := 0) (by rw [<- HW1.out]; exact RN.out) rfl) ?_)
   rw [<- HW1.out]
   refine CR.out.mono ?_
   clear CR
   rintro e w2 ⟨rfl, h2⟩
   have H2 := Lib.hid ((Own.St.start w1).later h2)
   clear h2
   go_wp2_with (fail)
   refine (w_new H2.out).mono ?_
   rintro e w3 ⟨p, rfl, h3⟩
   have nc := NTO.out _ h3.below
   rw [HKK.out, <- HAD.out, <- HSQ.out, <- HKN.out] at nc
   have d0 := nc.1
   have d1 := nc.2.1
   have d2 := nc.2.2.1
   have d35 := nc.2.2.2.1
   have d36 := nc.2.2.2.2.1
   clear nc
   have GW := Lib.hid (GV.out _ h3.below)
   have KW := Lib.hid (KV.out _ h3.below)
   have HH0 := Lib.hid h3
   clear h3
   go_wp2_with (fail)
   refine (w_num HH0.out 4 1 (by decide) HY0.out HZ0.out).mono ?_
   clear d0 d1 d2 d35 d36 GW KW
   rintro e w4 ⟨rfl, h4⟩
   have nc := NTO.out _ h4.below
   rw [HKK.out, <- HAD.out, <- HSQ.out, <- HKN.out] at nc
   have d0 := nc.1
   have d1 := nc.2.1
   have d2 := nc.2.2.1
   have d35 := nc.2.2.2.1
   have d36 := nc.2.2.2.2.1
   clear nc
   have GW := Lib.hid (GV.out _ h4.below)
   have KW := Lib.hid (KV.out _ h4.below)
   have HH1 := Lib.hid h4
   clear h4
   clear HH0
   go_wp2_with (fail)
   refine (HF.out _).mono ?_
   rintro e wf ⟨rfl, rfl⟩
   go_wp2_with (fail)
   refine (w_raw HH1.out 32 KW.out HS.out HY1.out HZ1.out).mono ?_
   clear d0 d1 d2 d35 d36 GW KW
   rintro e w5 ⟨rfl, h5⟩
   have nc := NTO.out _ h5.below
   rw [HKK.out, <- HAD.out, <- HSQ.out, <- HKN.out] at nc
   have d0 := nc.1
   have d1 := nc.2.1
   have d2 := nc.2.2.1
   have d35 := nc.2.2.2.1
   have d36 := nc.2.2.2.2.1
   clear nc
   have GW := Lib.hid (GV.out _ h5.below)
   have KW := Lib.hid (KV.out _ h5.below)
   have HH2 := Lib.hid h5
   clear h5
   clear HH1
   go_wp2_with (fail)
   refine (w_num HH2.out kn 4 (by decide) HY2.out HZ2.out).mono ?_
   clear d0 d1 d2 d35 d36 GW KW
   rintro e w6 ⟨rfl, h6⟩
   have nc := NTO.out _ h6.below
   rw [HKK.out, <- HAD.out, <- HSQ.out, <- HKN.out] at nc
   have d0 := nc.1
   have d1 := nc.2.1
   have d2 := nc.2.2.1
   have d35 := nc.2.2.2.1
   have d36 := nc.2.2.2.2.1
   clear nc
   have GW := Lib.hid (GV.out _ h6.below)
   have KW := Lib.hid (KV.out _ h6.below)
   have HH3 := Lib.hid h6
   clear h6
   clear HH2
   go_wp2_with (fail)
   refine (w_blob HH3.out cap GW.out HDL.out HY3.out HZ3.out).mono ?_
   clear d0 d1 d2 d35 d36 GW KW
   rintro e w7 ⟨rfl, h7⟩
   have nc := NTO.out _ h7.below
   rw [HKK.out, <- HAD.out, <- HSQ.out, <- HKN.out] at nc
   have d0 := nc.1
   have d1 := nc.2.1
   have d2 := nc.2.2.1
   have d35 := nc.2.2.2.1
   have d36 := nc.2.2.2.2.1
   clear nc
   have GW := Lib.hid (GV.out _ h7.below)
   have KW := Lib.hid (KV.out _ h7.below)
   have HH4 := Lib.hid h7
   clear h7
   clear HH3
   go_wp2_with (fail)
   refine (w_out HH4.out HXL.out HTOT.out).mono ?_
   clear d0 d1 d2 d35 d36 GW KW
   rintro e w30 ⟨a2, c2, rfl, h30⟩
   have H30 := Lib.hid h30
   clear h30
   go_wp2_with (fail)
   go_ret2
   refine layDone_ok (by rw [HL.out, HLD.out]) HB1.out H30.out
end Rec
end Go.Proofs.YtahjjcmeocibbaaGreatDoor
end
