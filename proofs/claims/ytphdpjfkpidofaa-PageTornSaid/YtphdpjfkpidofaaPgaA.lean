/- The landed page: its bytes as an array; lay. -/
import Derived.Test.YtphdpjfkpidofaaPagQ
import Derived.Test.YtphdpjfkpidofaaRoc
import Derived.Test.YtphdpjfkpidofaaLaxH
import Derived.Test.YtphdpjfkpidofaaLaxF
import Derived.Great.Walk
import Derived.Laws.BitsAllLaws
namespace Go.Own
open Go.RowKit
section
variable {B : Nat} {w0 w : World} {Ps : List Asn} {b : Nat} {t : TypeId} {vs : List Value}
/-- some of its cells are written -/
theorem St.setMid (i : Nat) : ∀ (r : List Value) (o : Nat) (w : World) (Ps : List Asn) (vs : List Value), St B w0 w Ps → Ps[i]? = some (AVals b t vs) → o + r.length ≤ vs.length →
    St B w0 (w.setCells b o r) (Ps.set i (AVals b t (vs.take o ++ r ++ vs.drop (o + r.length))))
  | [], o, w, Ps, l, h, hi, hl => by
    have ee : l.take o ++ [] ++ l.drop (o + ([] : List Value).length) = l := by simp
    rw [ee]
    have hs : Ps.set i (AVals b t l) = Ps := by
      apply List.ext_getElem?
      intro j
      by_cases hj : j = i
      · subst hj
        rw [List.getElem?_set_self (List.getElem?_eq_some_iff.1 hi).1, hi]
      · rw [List.getElem?_set_ne (Ne.symm hj)]
    rw [hs]
    exact h
  | c :: r, o, w, Ps, l, h, hi, hl => by
    have put := h.storeV i hi o c
    have hlt : i < Ps.length := (List.getElem?_eq_some_iff.1 hi).1
    have h2 := St.setMid i r (o + 1) _ _ (l.set o c) put (by rw [List.getElem?_set_self hlt]) (by simp at hl ⊢; omega)
    rw [List.set_set] at h2
    have ho : o < l.length := by simp at hl; omega
    have ee : (l.set o c).take (o + 1) ++ r ++ (l.set o c).drop (o + 1 + r.length) = l.take o ++ (c :: r) ++ l.drop (o + (c :: r).length) := by
      have e0 : (l.set o c).take o = l.take o := by
        apply List.ext_getElem?
        intro j
        by_cases hj : j < o
        · rw [List.getElem?_take_of_lt hj, List.getElem?_take_of_lt hj, List.getElem?_set_ne (by omega)]
        · rw [List.getElem?_eq_none (by simp; omega), List.getElem?_eq_none (by simp; omega)]
      have e1 : (l.set o c).drop (o + 1 + r.length) = l.drop (o + (c :: r).length) := by
        apply List.ext_getElem?
        intro j
        rw [List.getElem?_drop, List.getElem?_drop, List.getElem?_set_ne (by omega)]
        congr 1
        simp
        omega
      rw [List.take_succ_eq_append_getElem (by simpa using ho), e0, e1]
      simp
    rw [ee] at h2
    exact h2
/-- an array of one's own, whole, as a slice of one's own -/
theorem St.valsRow {n : Nat} (H : St B w0 w (AVals b t vs :: Ps)) (hn : vs.length = n) (hm : n ≤ maxLen) : St B w0 w (ARow t 1 (.slice (some ⟨b, 0, none⟩) n n) n vs :: Ps) := by
  obtain ⟨S, hS, _, put⟩ := H.at 0 rfl
  refine put S w (ARow t 1 (.slice (some ⟨b, 0, none⟩) n n) n vs) ⟨⟨by rw [hn]; omega, .inr ⟨b, n, vs.toArray, rfl, Nat.zero_le _, hS.1, Nat.le_refl _, hm, by simp [hn], by simp [← hn]⟩⟩, fun k => ?_⟩ (Step.refl S w)
  rw [hS.2 k]
  simp [Value.ownBlock, eq_comm]
end
end Go.Own
namespace Go.PagM
/-- the page as it stands ahead of the bits -/
def raw (c d : UInt8) : Bs := c :: d :: (List.replicate 125 0 ++ [90])
theorem raw_len (c d : UInt8) : (raw c d).length = 128 := by simp [raw]
theorem raw_set (c d e : UInt8) : (raw c d).set 0 e = raw e d := rfl
theorem raw_laid (f : Frm) (h : f.data.length ≤ 125) : (raw (UInt8.ofNat (headN f)) (UInt8.ofNat f.data.length)).take 2 ++ f.data ++ (raw (UInt8.ofNat (headN f)) (UInt8.ofNat f.data.length)).drop (2 + f.data.length) = laid f := by
  unfold raw laid
  rw [Nat.add_comm 2, List.drop_succ_cons, List.drop_succ_cons, List.drop_append_of_le_length (by simp; omega), List.drop_replicate]
  rfl
end Go.PagM
namespace Go.Proofs.Ytphdpjfkpidofaa
open Go.RowKit Go.Own
namespace Pag
open Go.PagM Byt

theorem info_page (l : Bs) (h : l.length = 128) : (Try.prog.info? 47).map (·.size) = some (l.map byteV).toArray.size := by
  have e : (l.map byteV).toArray.size = 128 := by simp [h]
  have h0 : (Try.prog.info? 47).map (fun i => i.size) = some 128 := by kernel_rfl
  rw [e]
  exact h0
theorem info_pageL (l : Bs) (h : l.length = 128) : (Try.prog.info? 47).map (·.size) = some (l.map byteV).length := by
  have h0 : (Try.prog.info? 47).map (fun i => i.size) = some 128 := by kernel_rfl
  rw [List.length_map, h]
  exact h0
theorem zero_page : (Try.prog.info? 47).bind (·.zero) = some (.agg ((List.replicate 128 (0 : UInt8)).map byteV).toArray) := by kernel_rfl
theorem built_raw (x y : Int) : Try.prog.built 47 [(0, .int .u8 x), (1, .int .u8 y), (127, .int .u8 90)] = some (.int .u8 x :: .int .u8 y :: ((List.replicate 125 (0 : UInt8) ++ [90]).map byteV)).toArray := by kernel_rfl
set_option maxRecDepth 100000 in
theorem or64 : ∀ k : Nat, k < 64 → bits .or .u8 (k : Int) 64 = ((k + 64 : Nat) : Int) := by decide
set_option maxRecDepth 100000 in
theorem or128 : ∀ k : Nat, k < 128 → bits .or .u8 (k : Int) 128 = ((k + 128 : Nat) : Int) := by decide
set_option maxRecDepth 100000 in
theorem and63 : ∀ k : Nat, k < 256 → bits .and .u8 (k : Int) 63 = ((k % 64 : Nat) : Int) := by decide
set_option maxRecDepth 100000 in
theorem and64 : ∀ k : Nat, k < 256 → (bits .and .u8 (k : Int) 64 != 0) = decide (k / 64 % 2 = 1) := by decide
set_option maxRecDepth 100000 in
theorem and128 : ∀ k : Nat, k < 256 → (bits .and .u8 (k : Int) 128 != 0) = decide (k / 128 = 1) := by decide
/-- copy onto a part of an array of one's own -/
theorem wpList_a8_copy {ops : Array Oper} {rest : List Oper} {o : Oper} {a : Act} {w : World} {Q : Exit → Act → World → Prop} {B : Nat} {w0 : World} {Ps : List Asn} (hgd : o.guard = none) (d s : Operand)
    (ho : o.op = .call { callee := .builtin .copy, args := #[d, s], argTypes := #[22, 22] }) (H : Own.St B w0 w Ps) (i : Nat) {b k nn cc : Nat} {t : TypeId} {l : List UInt8} (hi : Ps[i]? = some (A8 b t l)) (hd : a.eval d = .slice (some ⟨b, k, none⟩) nn cc)
    (bo : Option Addr) (m c : Nat) (news : List UInt8) (hx : a.eval s = .slice bo m c) (hl : news.length = m) (hmn : m ≤ nn) (hkl : k + nn ≤ l.length) (hno : bo = none → m = 0)
    (hc : ∀ a, bo = some a → ∀ j u, (news.map byteV)[j]? = some u → w.cell? (a.add j) = some u)
    (h : ∀ w', Own.St B w0 w' (Ps.set i (A8 b t (l.take k ++ news ++ l.drop (k + m)))) → wpList Try.prog ops Q rest (a.put o.dst (goInt m)) w') : wpList Try.prog ops Q (o :: rest) a w := by
  refine wpList_plain hgd fun K hK => ?_
  have hset := Own.St.setMid i (news.map byteV) k w Ps (l.map byteV) H hi (by simp; omega)
  have e : AVals b t ((l.map byteV).take k ++ news.map byteV ++ (l.map byteV).drop (k + (news.map byteV).length)) = A8 b t (l.take k ++ news ++ l.drop (k + m)) := by
    unfold A8
    rw [List.map_append, List.map_append, List.map_take, List.map_drop, List.length_map, hl]
  rw [e] at hset
  have hcells : ∀ j, j < (news.map byteV).length → (w.cell? ⟨b, k + j, none⟩).isSome = true ∧ w.frozen? ⟨b, k + j, none⟩ = false := by
    intro j hj
    rw [List.length_map] at hj
    obtain ⟨h1, h2⟩ := A8.cell H i hi (k + j) (by omega)
    exact ⟨by rw [h1]; rfl, h2⟩
  have hrun : (Builtin.copy_ #[22, 22] o.type #[.slice (some ⟨b, k, none⟩) nn cc, .slice bo m c]).run Try.prog w = .ok (goInt m) (w.setCells b k (news.map byteV)) := by
    cases bo with
    | none =>
      have hm := hno rfl
      subst hm
      obtain rfl : news = [] := List.eq_nil_of_length_eq_zero hl
      exact run_copy_none (P := Try.prog) w 22 22 o.type 5 _ none nn cc 0 c Try.underlying22 info8 (Nat.min_eq_left (Nat.zero_le _))
    | some ad =>
      have := run_copy_cells (P := Try.prog) w 22 22 o.type 5 b k nn cc ad m c (news.map byteV) Try.underlying22 info8 (by rw [List.length_map, hl]; exact (Nat.min_eq_left hmn).symm) (hc ad rfl) (fun j hj => (hcells j hj).1) (fun j hj => (hcells j hj).2) (byteV_one _)
      rw [List.length_map, hl] at this
      exact this
  unfold Oper.wp
  simp [execOp, ho, resolve, invoke, builtin, hd, hx, hrun, Result.andThen]
  exact hK _ _ (h _ hset)

set_option maxRecDepth 10000 in
set_option maxHeartbeats 8000000 in
theorem lay_any (f : Frm) (ao : Option Addr) (n cap : Nat) (w : World) (hg : Given w ao n cap f.data) (hk : f.kind.toNat ≤ 63) (hn : n ≤ 125) :
    Calls Try.prog 23 #[frV f.kind.toNat f.first f.last (.slice ao n cap)] w fun e w' => e = .returned (.agg ((laid f).map byteV).toArray) ∧ Below w.heap.size w w' := by
  have H := Own.St.start w
  have hdl := hg.size
  have hrl := raw_laid f (by rw [hdl]; exact hn)
  have hhl := headN_lt hk
  obtain ⟨X, hX⟩ : ∃ X, X = laid f := ⟨_, rfl⟩
  rw [← hX] at hrl ⊢
  have hXl : X.length = 128 := by rw [hX]; exact laid_len f (by rw [hdl]; exact hn)
  obtain ⟨h, hh⟩ : ∃ h, h = UInt8.ofNat (headN f) := ⟨_, rfl⟩
  have hhn : h.toNat = headN f := by rw [hh]; exact ofNat_toNat _ hhl
  rw [← hh] at hrl
  obtain ⟨d, hd⟩ : ∃ d, d = UInt8.ofNat f.data.length := ⟨_, rfl⟩
  have hdn : (n : Int) = (d.toNat : Int) := by rw [hd, ofNat_toNat _ (by omega), hdl]
  rw [← hd, hdl] at hrl
  unfold headN at hhn
  obtain ⟨kind, first, last, data⟩ := f
  simp only at hg hk hdl hrl hhn ⊢
  obtain ⟨k, hkk⟩ : ∃ k, k = kind.toNat := ⟨_, rfl⟩
  rw [← hkk] at hk hhn ⊢
  have HD := Lib.hid hdl
  have HRL := Lib.hid hrl
  have HXL := Lib.hid hXl
  have HG := Lib.hid hg
  obtain ⟨z, hz⟩ : ∃ z, z = ((List.replicate 128 (0 : UInt8)).map byteV).toArray := ⟨_, rfl⟩
  have ZP : Hid ((Try.prog.info? 47).bind (·.zero) = some (.agg z)) := by rw [hz]; exact zero_page
  obtain ⟨br, hbr⟩ : ∃ b, b = (w.alloc (.cells (frC k first last (.slice ao n cap)) 24)).heap.size := ⟨_, rfl⟩
  obtain ⟨W2, hW2⟩ : ∃ W, W = (w.alloc (.cells (frC k first last (.slice ao n cap)) 24)).alloc (.cells z 47) := ⟨_, rfl⟩
  obtain ⟨bp, hbp⟩ : ∃ b, b = W2.heap.size := ⟨_, rfl⟩
  obtain ⟨W3, hW3⟩ : ∃ W, W = W2.alloc (.cells z 47) := ⟨_, rfl⟩
  have hbox := ((H.boxV 24 (frC k first last (.slice ao n cap)).toList))
  have hb1 := A8.box hbox 47 (List.replicate 128 0)
  rw [← hz] at hb1
  simp only [Array.toArray_toList] at hb1
  rw [← hbr, ← hW2] at hb1
  have hb2 := A8.box hb1 47 (List.replicate 128 0)
  rw [← hz, ← hbp, ← hW3] at hb2
  obtain ⟨d0, hd0⟩ : ∃ d0, d0 = raw kind d := ⟨_, rfl⟩
  have hdl0 : d0.length = 128 := by rw [hd0]; exact raw_len _ _
  have TH := Lib.hid (A8.there hb2 0 rfl d0 (by rw [hdl0]; rfl))
  have h4 := A8.setAll hb2 0 rfl d0 (by rw [hdl0]; rfl)
  simp only [List.set_cons_zero] at h4
  obtain ⟨W4, hW4⟩ : ∃ W, W = W3.setCells bp 0 (d0.map byteV).toArray.toList := ⟨_, rfl⟩
  rw [← hW4] at h4
  have HW2 := Lib.hid hW2
  have HW3 := Lib.hid hW3
  have HW4 := Lib.hid hW4
  have HBR := Lib.hid hbr
  have HBP := Lib.hid hbp
  have H4 := Lib.hid h4
  have IB := Lib.hid (info_page d0 hdl0)
  have OB := Lib.hid (one8 d0)
  have BE : Hid (Try.prog.built 47 [(0, .int .u8 (k : Int)), (1, .int .u8 (d.toNat : Int)), (127, .int .u8 90)] = some (d0.map byteV).toArray) := by
    rw [hd0, hkk]; exact built_raw _ _
  have q0 := (hb2.cellV 2 rfl 0 rfl).1
  have q3 := (hb2.cellV 2 rfl 3 rfl).1
  have q02 := (hb1.cellV 1 rfl 0 rfl).1
  have q32 := (hb1.cellV 1 rfl 3 rfl).1
  have IX := Lib.hid (info_page X hXl)
  have OX := Lib.hid (one8 X)
  have HD0 := Lib.hid hd0
  have HDL := Lib.hid hdl0
  have HKK := Lib.hid hkk
  clear hz hW4 hW2 hW3 hbr hbp hbox hb2 hb1 hd0 hdl0 h4 hkk hd hdl hrl hXl hg H hh hX
  cases first <;> cases last
  · simp only [if_true, if_false, Bool.false_eq_true, Nat.add_zero] at hhn
    have p1 := (H4.out.cellV 2 rfl 1 rfl).1
    have c0 := A8.cell H4.out 0 rfl 0 (by rw [HDL.out]; decide)
    rw [HD0.out, show ((raw kind d).getD 0 0).toNat = k from HKK.out.symm] at c0
    have p2 := (H4.out.cellV 2 rfl 2 rfl).1
    have hfin : kind = h := UInt8.toNat_inj.1 (by have := HKK.out; omega)
    subst hfin
    have H7 := H4.out
    simp only [List.set_cons_zero, HD0.out, raw_set] at H7
    have H7 := Lib.hid H7
    clear hhn 
    go_enter Try.func23, Try.ntmps23
    go_wp2_with (first
      | (refine Own.wpList_allocZ rfl 47 rfl z ZP.out ?_; rw [← HBR.out, ← HW2.out])
      | (refine Own.wpList_allocZ rfl 47 rfl z ZP.out ?_; rw [← HBP.out, ← HW3.out])
      | (refine Own.wpList_built rfl 47 #[(0, .tmp 5), (1, .tmp 9), (127, .const (.int .u8 90))] rfl (d0.map byteV).toArray ?_ ?_; · (simp only [List.map_toArray, List.map_cons, List.map_nil, List.toList_toArray]; exact BE.out))
      | (refine wpList_store_mid rfl 47 (.tmp 3) (.tmp 10) rfl bp 0 (d0.map byteV).toArray rfl rfl TH.out IB.out OB.out ?_; rw [← HW4.out]))
    generalize W4 = W7 at H7 ⊢
    have GW := HG.out.later H7.out.below
    have P3 : Hid (∀ wx, Below W7.heap.size W7 wx → wx.cell? ⟨w.heap.size, 3, none⟩ = some (.slice ao n cap)) := fun wx hwx => ((H7.out.later hwx).cellV 2 rfl 3 rfl).1
    refine wp_laxW_list 3 (by kernel_rfl) (by kernel_rfl) (by kernel_rfl) (by kernel_rfl) (by kernel_rfl) ?_
    simp only [List.take_succ_cons, List.take_zero, List.drop_succ_cons, List.drop_zero]
    refine wpL_run1 (x := .tmp 3) (.pointer (some ⟨bp, 0, none⟩)) (.slice (some ⟨bp, 2, none⟩) 126 126) (by kernel_rfl) (by kernel_rfl) (by kernel_rfl) (by kernel_rfl) (by kernel_rfl) (fun wx ρ hwx h0 hc => by simp [go_sem, h0, hc]) ?_
    refine wpL_run1 (x := .tmp 1) (.pointer (some ⟨w.heap.size, 0, none⟩)) (.pointer (some ⟨w.heap.size, 3, none⟩)) (by kernel_rfl) (by kernel_rfl) (by kernel_rfl) (by kernel_rfl) (by kernel_rfl) (fun wx ρ hwx h0 hc => by simp [go_sem, h0, hc]) ?_
    refine wpL_run1 (x := .tmp 24) (.pointer (some ⟨w.heap.size, 3, none⟩)) (.slice ao n cap) (by kernel_rfl) (by kernel_rfl) (by kernel_rfl) (by kernel_rfl) (by kernel_rfl) (fun wx ρ hwx h0 hc => by simp [go_sem, h0, hc, P3.out wx hwx]) ?_
    refine wpL_end (by kernel_rfl) (fun w8 hw8 => ?_)
    simp only [FinL, setL, List.set_cons_zero, List.set_cons_succ]
    intro _
    have H8 := Lib.hid (H7.out.later hw8)
    have G8 := GW.later hw8
    have HC := Lib.hid (vcells G8.view)
    have HNO := Lib.hid (given_nil G8)
    clear hw8 P3 H7 G8 GW
    go_wp2_with (first
      | (refine wpList_a8_copy rfl (.tmp 23) (.tmp 25) rfl H8.out 0 (l := raw kind d) rfl rfl ao n cap data rfl HD.out (by omega) (by rw [raw_len]; decide) (fun h => (HNO.out h).1) HC.out ?_; intro w9 h9; rw [HRL.out] at h9; simp only [List.set_cons_zero] at h9; have ROW := Lib.hid (A8.row h9 0 rfl); have TH9 := Lib.hid (A8.there h9 1 rfl X (by rw [HXL.out]; rfl)); have LAST := Lib.hid (A8.setAll h9 1 rfl X (by rw [HXL.out]; rfl)); clear h9)
      | (refine wpList_load_row rfl 47 (.tmp 3) rfl bp rfl 47 _ (0, 0) _ ROW.out Try.underlying47 rfl IX.out ?_)
      | (refine wpList_store_mid rfl 47 (.tmp 2) (.tmp 27) rfl br 0 (X.map byteV).toArray rfl rfl TH9.out IX.out OX.out ?_))
    have END := Lib.hid (A8.row LAST.out 1 rfl)
    refine bodyPost_ret (results_cell_row rfl _ _ br 47 _ (0, 0) _ rfl END.out Try.underlying47 rfl IX.out) rfl ?_
    exact ⟨rfl, LAST.out.below⟩
  · simp only [if_true, if_false, Bool.false_eq_true, Nat.add_zero] at hhn
    have p1 := (H4.out.cellV 2 rfl 1 rfl).1
    have c0 := A8.cell H4.out 0 rfl 0 (by rw [HDL.out]; decide)
    rw [HD0.out, show ((raw kind d).getD 0 0).toNat = k from HKK.out.symm] at c0
    have p2 := (H4.out.cellV 2 rfl 2 rfl).1
    obtain ⟨u2, hu2⟩ : ∃ u, u = UInt8.ofNat (k + 128) := ⟨_, rfl⟩
    have hu2n : u2.toNat = k + 128 := by rw [hu2]; exact ofNat_toNat _ (by omega)
    have e128 : bits .or .u8 (k : Int) 128 = (u2.toNat : Int) := by rw [or128 (k) (by omega), hu2n]
    have H6 := Lib.hid (A8.store H4.out 0 rfl 0 u2)
    have hfin : u2 = h := UInt8.toNat_inj.1 (by have := HKK.out; omega)
    subst hfin
    have H7 := H6.out
    simp only [List.set_cons_zero, HD0.out, raw_set] at H7
    have H7 := Lib.hid H7
    clear hhn hu2 hu2n H6
    go_enter Try.func23, Try.ntmps23
    go_wp2_with (first
      | (refine Own.wpList_allocZ rfl 47 rfl z ZP.out ?_; rw [← HBR.out, ← HW2.out])
      | (refine Own.wpList_allocZ rfl 47 rfl z ZP.out ?_; rw [← HBP.out, ← HW3.out])
      | (refine Own.wpList_built rfl 47 #[(0, .tmp 5), (1, .tmp 9), (127, .const (.int .u8 90))] rfl (d0.map byteV).toArray ?_ ?_; · (simp only [List.map_toArray, List.map_cons, List.map_nil, List.toList_toArray]; exact BE.out))
      | (refine wpList_store_mid rfl 47 (.tmp 3) (.tmp 10) rfl bp 0 (d0.map byteV).toArray rfl rfl TH.out IB.out OB.out ?_; rw [← HW4.out]))
    have H7 := H7.out
    generalize (W4.setCell ⟨bp, 0, none⟩ (.int .u8 (u2.toNat : Int))) = W7 at H7 ⊢
    have H7 := Lib.hid H7
    have GW := HG.out.later H7.out.below
    have P3 : Hid (∀ wx, Below W7.heap.size W7 wx → wx.cell? ⟨w.heap.size, 3, none⟩ = some (.slice ao n cap)) := fun wx hwx => ((H7.out.later hwx).cellV 2 rfl 3 rfl).1
    refine wp_laxW_list 3 (by kernel_rfl) (by kernel_rfl) (by kernel_rfl) (by kernel_rfl) (by kernel_rfl) ?_
    simp only [List.take_succ_cons, List.take_zero, List.drop_succ_cons, List.drop_zero]
    refine wpL_run1 (x := .tmp 3) (.pointer (some ⟨bp, 0, none⟩)) (.slice (some ⟨bp, 2, none⟩) 126 126) (by kernel_rfl) (by kernel_rfl) (by kernel_rfl) (by kernel_rfl) (by kernel_rfl) (fun wx ρ hwx h0 hc => by simp [go_sem, h0, hc]) ?_
    refine wpL_run1 (x := .tmp 1) (.pointer (some ⟨w.heap.size, 0, none⟩)) (.pointer (some ⟨w.heap.size, 3, none⟩)) (by kernel_rfl) (by kernel_rfl) (by kernel_rfl) (by kernel_rfl) (by kernel_rfl) (fun wx ρ hwx h0 hc => by simp [go_sem, h0, hc]) ?_
    refine wpL_run1 (x := .tmp 24) (.pointer (some ⟨w.heap.size, 3, none⟩)) (.slice ao n cap) (by kernel_rfl) (by kernel_rfl) (by kernel_rfl) (by kernel_rfl) (by kernel_rfl) (fun wx ρ hwx h0 hc => by simp [go_sem, h0, hc, P3.out wx hwx]) ?_
    refine wpL_end (by kernel_rfl) (fun w8 hw8 => ?_)
    simp only [FinL, setL, List.set_cons_zero, List.set_cons_succ]
    intro _
    have H8 := Lib.hid (H7.out.later hw8)
    have G8 := GW.later hw8
    have HC := Lib.hid (vcells G8.view)
    have HNO := Lib.hid (given_nil G8)
    clear hw8 P3 H7 G8 GW
    go_wp2_with (first
      | (refine wpList_a8_copy rfl (.tmp 23) (.tmp 25) rfl H8.out 0 (l := raw u2 d) rfl rfl ao n cap data rfl HD.out (by omega) (by rw [raw_len]; decide) (fun h => (HNO.out h).1) HC.out ?_; intro w9 h9; rw [HRL.out] at h9; simp only [List.set_cons_zero] at h9; have ROW := Lib.hid (A8.row h9 0 rfl); have TH9 := Lib.hid (A8.there h9 1 rfl X (by rw [HXL.out]; rfl)); have LAST := Lib.hid (A8.setAll h9 1 rfl X (by rw [HXL.out]; rfl)); clear h9)
      | (refine wpList_load_row rfl 47 (.tmp 3) rfl bp rfl 47 _ (0, 0) _ ROW.out Try.underlying47 rfl IX.out ?_)
      | (refine wpList_store_mid rfl 47 (.tmp 2) (.tmp 27) rfl br 0 (X.map byteV).toArray rfl rfl TH9.out IX.out OX.out ?_))
    have END := Lib.hid (A8.row LAST.out 1 rfl)
    refine bodyPost_ret (results_cell_row rfl _ _ br 47 _ (0, 0) _ rfl END.out Try.underlying47 rfl IX.out) rfl ?_
    exact ⟨rfl, LAST.out.below⟩
  · simp only [if_true, if_false, Bool.false_eq_true, Nat.add_zero] at hhn
    have p1 := (H4.out.cellV 2 rfl 1 rfl).1
    have c0 := A8.cell H4.out 0 rfl 0 (by rw [HDL.out]; decide)
    rw [HD0.out, show ((raw kind d).getD 0 0).toNat = k from HKK.out.symm] at c0
    obtain ⟨u1, hu1⟩ : ∃ u, u = UInt8.ofNat (k + 64) := ⟨_, rfl⟩
    have hu1n : u1.toNat = k + 64 := by rw [hu1]; exact ofNat_toNat _ (by omega)
    have e64 : bits .or .u8 (k : Int) 64 = (u1.toNat : Int) := by rw [or64 k (by omega), hu1n]
    have H5 := Lib.hid (A8.store H4.out 0 rfl 0 u1)
    have g0 := A8.cell H5.out 0 rfl 0 (by rw [List.length_set, HDL.out]; decide)
    rw [HD0.out, raw_set, show ((raw u1 d).getD 0 0).toNat = u1.toNat from rfl] at g0
    have p2 := (H5.out.cellV 2 rfl 2 rfl).1
    have hfin : u1 = h := UInt8.toNat_inj.1 (by have := HKK.out; omega)
    subst hfin
    have H7 := H5.out
    simp only [List.set_cons_zero, HD0.out, raw_set] at H7
    have H7 := Lib.hid H7
    clear hhn hu1 hu1n H5
    go_enter Try.func23, Try.ntmps23
    go_wp2_with (first
      | (refine Own.wpList_allocZ rfl 47 rfl z ZP.out ?_; rw [← HBR.out, ← HW2.out])
      | (refine Own.wpList_allocZ rfl 47 rfl z ZP.out ?_; rw [← HBP.out, ← HW3.out])
      | (refine Own.wpList_built rfl 47 #[(0, .tmp 5), (1, .tmp 9), (127, .const (.int .u8 90))] rfl (d0.map byteV).toArray ?_ ?_; · (simp only [List.map_toArray, List.map_cons, List.map_nil, List.toList_toArray]; exact BE.out))
      | (refine wpList_store_mid rfl 47 (.tmp 3) (.tmp 10) rfl bp 0 (d0.map byteV).toArray rfl rfl TH.out IB.out OB.out ?_; rw [← HW4.out]))
    have H7 := H7.out
    generalize (W4.setCell ⟨bp, 0, none⟩ (.int .u8 (u1.toNat : Int))) = W7 at H7 ⊢
    have H7 := Lib.hid H7
    have GW := HG.out.later H7.out.below
    have P3 : Hid (∀ wx, Below W7.heap.size W7 wx → wx.cell? ⟨w.heap.size, 3, none⟩ = some (.slice ao n cap)) := fun wx hwx => ((H7.out.later hwx).cellV 2 rfl 3 rfl).1
    refine wp_laxW_list 3 (by kernel_rfl) (by kernel_rfl) (by kernel_rfl) (by kernel_rfl) (by kernel_rfl) ?_
    simp only [List.take_succ_cons, List.take_zero, List.drop_succ_cons, List.drop_zero]
    refine wpL_run1 (x := .tmp 3) (.pointer (some ⟨bp, 0, none⟩)) (.slice (some ⟨bp, 2, none⟩) 126 126) (by kernel_rfl) (by kernel_rfl) (by kernel_rfl) (by kernel_rfl) (by kernel_rfl) (fun wx ρ hwx h0 hc => by simp [go_sem, h0, hc]) ?_
    refine wpL_run1 (x := .tmp 1) (.pointer (some ⟨w.heap.size, 0, none⟩)) (.pointer (some ⟨w.heap.size, 3, none⟩)) (by kernel_rfl) (by kernel_rfl) (by kernel_rfl) (by kernel_rfl) (by kernel_rfl) (fun wx ρ hwx h0 hc => by simp [go_sem, h0, hc]) ?_
    refine wpL_run1 (x := .tmp 24) (.pointer (some ⟨w.heap.size, 3, none⟩)) (.slice ao n cap) (by kernel_rfl) (by kernel_rfl) (by kernel_rfl) (by kernel_rfl) (by kernel_rfl) (fun wx ρ hwx h0 hc => by simp [go_sem, h0, hc, P3.out wx hwx]) ?_
    refine wpL_end (by kernel_rfl) (fun w8 hw8 => ?_)
    simp only [FinL, setL, List.set_cons_zero, List.set_cons_succ]
    intro _
    have H8 := Lib.hid (H7.out.later hw8)
    have G8 := GW.later hw8
    have HC := Lib.hid (vcells G8.view)
    have HNO := Lib.hid (given_nil G8)
    clear hw8 P3 H7 G8 GW
    go_wp2_with (first
      | (refine wpList_a8_copy rfl (.tmp 23) (.tmp 25) rfl H8.out 0 (l := raw u1 d) rfl rfl ao n cap data rfl HD.out (by omega) (by rw [raw_len]; decide) (fun h => (HNO.out h).1) HC.out ?_; intro w9 h9; rw [HRL.out] at h9; simp only [List.set_cons_zero] at h9; have ROW := Lib.hid (A8.row h9 0 rfl); have TH9 := Lib.hid (A8.there h9 1 rfl X (by rw [HXL.out]; rfl)); have LAST := Lib.hid (A8.setAll h9 1 rfl X (by rw [HXL.out]; rfl)); clear h9)
      | (refine wpList_load_row rfl 47 (.tmp 3) rfl bp rfl 47 _ (0, 0) _ ROW.out Try.underlying47 rfl IX.out ?_)
      | (refine wpList_store_mid rfl 47 (.tmp 2) (.tmp 27) rfl br 0 (X.map byteV).toArray rfl rfl TH9.out IX.out OX.out ?_))
    have END := Lib.hid (A8.row LAST.out 1 rfl)
    refine bodyPost_ret (results_cell_row rfl _ _ br 47 _ (0, 0) _ rfl END.out Try.underlying47 rfl IX.out) rfl ?_
    exact ⟨rfl, LAST.out.below⟩
  · simp only [if_true, if_false, Bool.false_eq_true, Nat.add_zero] at hhn
    have p1 := (H4.out.cellV 2 rfl 1 rfl).1
    have c0 := A8.cell H4.out 0 rfl 0 (by rw [HDL.out]; decide)
    rw [HD0.out, show ((raw kind d).getD 0 0).toNat = k from HKK.out.symm] at c0
    obtain ⟨u1, hu1⟩ : ∃ u, u = UInt8.ofNat (k + 64) := ⟨_, rfl⟩
    have hu1n : u1.toNat = k + 64 := by rw [hu1]; exact ofNat_toNat _ (by omega)
    have e64 : bits .or .u8 (k : Int) 64 = (u1.toNat : Int) := by rw [or64 k (by omega), hu1n]
    have H5 := Lib.hid (A8.store H4.out 0 rfl 0 u1)
    have g0 := A8.cell H5.out 0 rfl 0 (by rw [List.length_set, HDL.out]; decide)
    rw [HD0.out, raw_set, show ((raw u1 d).getD 0 0).toNat = u1.toNat from rfl] at g0
    have p2 := (H5.out.cellV 2 rfl 2 rfl).1
    obtain ⟨u2, hu2⟩ : ∃ u, u = UInt8.ofNat (u1.toNat + 128) := ⟨_, rfl⟩
    have hu2n : u2.toNat = u1.toNat + 128 := by rw [hu2]; exact ofNat_toNat _ (by omega)
    have e128 : bits .or .u8 (u1.toNat : Int) 128 = (u2.toNat : Int) := by rw [or128 (u1.toNat) (by omega), hu2n]
    have H6 := Lib.hid (A8.store H5.out 0 rfl 0 u2)
    have hfin : u2 = h := UInt8.toNat_inj.1 (by have := HKK.out; omega)
    subst hfin
    have H7 := H6.out
    simp only [List.set_cons_zero, HD0.out, raw_set] at H7
    have H7 := Lib.hid H7
    clear hhn hu1 hu1n H5 hu2 hu2n H6
    go_enter Try.func23, Try.ntmps23
    go_wp2_with (first
      | (refine Own.wpList_allocZ rfl 47 rfl z ZP.out ?_; rw [← HBR.out, ← HW2.out])
      | (refine Own.wpList_allocZ rfl 47 rfl z ZP.out ?_; rw [← HBP.out, ← HW3.out])
      | (refine Own.wpList_built rfl 47 #[(0, .tmp 5), (1, .tmp 9), (127, .const (.int .u8 90))] rfl (d0.map byteV).toArray ?_ ?_; · (simp only [List.map_toArray, List.map_cons, List.map_nil, List.toList_toArray]; exact BE.out))
      | (refine wpList_store_mid rfl 47 (.tmp 3) (.tmp 10) rfl bp 0 (d0.map byteV).toArray rfl rfl TH.out IB.out OB.out ?_; rw [← HW4.out]))
    have H7 := H7.out
    generalize ((W4.setCell ⟨bp, 0, none⟩ (.int .u8 (u1.toNat : Int))).setCell ⟨bp, 0, none⟩ (.int .u8 (u2.toNat : Int))) = W7 at H7 ⊢
    have H7 := Lib.hid H7
    have GW := HG.out.later H7.out.below
    have P3 : Hid (∀ wx, Below W7.heap.size W7 wx → wx.cell? ⟨w.heap.size, 3, none⟩ = some (.slice ao n cap)) := fun wx hwx => ((H7.out.later hwx).cellV 2 rfl 3 rfl).1
    refine wp_laxW_list 3 (by kernel_rfl) (by kernel_rfl) (by kernel_rfl) (by kernel_rfl) (by kernel_rfl) ?_
    simp only [List.take_succ_cons, List.take_zero, List.drop_succ_cons, List.drop_zero]
    refine wpL_run1 (x := .tmp 3) (.pointer (some ⟨bp, 0, none⟩)) (.slice (some ⟨bp, 2, none⟩) 126 126) (by kernel_rfl) (by kernel_rfl) (by kernel_rfl) (by kernel_rfl) (by kernel_rfl) (fun wx ρ hwx h0 hc => by simp [go_sem, h0, hc]) ?_
    refine wpL_run1 (x := .tmp 1) (.pointer (some ⟨w.heap.size, 0, none⟩)) (.pointer (some ⟨w.heap.size, 3, none⟩)) (by kernel_rfl) (by kernel_rfl) (by kernel_rfl) (by kernel_rfl) (by kernel_rfl) (fun wx ρ hwx h0 hc => by simp [go_sem, h0, hc]) ?_
    refine wpL_run1 (x := .tmp 24) (.pointer (some ⟨w.heap.size, 3, none⟩)) (.slice ao n cap) (by kernel_rfl) (by kernel_rfl) (by kernel_rfl) (by kernel_rfl) (by kernel_rfl) (fun wx ρ hwx h0 hc => by simp [go_sem, h0, hc, P3.out wx hwx]) ?_
    refine wpL_end (by kernel_rfl) (fun w8 hw8 => ?_)
    simp only [FinL, setL, List.set_cons_zero, List.set_cons_succ]
    intro _
    have H8 := Lib.hid (H7.out.later hw8)
    have G8 := GW.later hw8
    have HC := Lib.hid (vcells G8.view)
    have HNO := Lib.hid (given_nil G8)
    clear hw8 P3 H7 G8 GW
    go_wp2_with (first
      | (refine wpList_a8_copy rfl (.tmp 23) (.tmp 25) rfl H8.out 0 (l := raw u2 d) rfl rfl ao n cap data rfl HD.out (by omega) (by rw [raw_len]; decide) (fun h => (HNO.out h).1) HC.out ?_; intro w9 h9; rw [HRL.out] at h9; simp only [List.set_cons_zero] at h9; have ROW := Lib.hid (A8.row h9 0 rfl); have TH9 := Lib.hid (A8.there h9 1 rfl X (by rw [HXL.out]; rfl)); have LAST := Lib.hid (A8.setAll h9 1 rfl X (by rw [HXL.out]; rfl)); clear h9)
      | (refine wpList_load_row rfl 47 (.tmp 3) rfl bp rfl 47 _ (0, 0) _ ROW.out Try.underlying47 rfl IX.out ?_)
      | (refine wpList_store_mid rfl 47 (.tmp 2) (.tmp 27) rfl br 0 (X.map byteV).toArray rfl rfl TH9.out IX.out OX.out ?_))
    have END := Lib.hid (A8.row LAST.out 1 rfl)
    refine bodyPost_ret (results_cell_row rfl _ _ br 47 _ (0, 0) _ rfl END.out Try.underlying47 rfl IX.out) rfl ?_
    exact ⟨rfl, LAST.out.below⟩
end Pag
end Go.Proofs.Ytphdpjfkpidofaa
