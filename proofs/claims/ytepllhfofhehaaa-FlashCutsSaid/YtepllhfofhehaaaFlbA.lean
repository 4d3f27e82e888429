/- The landed flash: an erased page, pages erased. -/
import Derived.Test.YtepllhfofhehaaaFlbG
import Derived.Deep.MidRow
import Derived.Laws.Rows
namespace Go.Proofs.Ytepllhfofhehaaa
open Go.RowKit Go.Own
namespace Fla
open Go.FlaM Byt

theorem info_page (l : Bs) (h : l.length = 128) : (Try.prog.info? 76).map (·.size) = some (l.map byteV).toArray.size := by
  have e : (l.map byteV).toArray.size = 128 := by simp [h]
  have h0 : (Try.prog.info? 76).map (fun i => i.size) = some 128 := by kernel_rfl
  rw [e]
  exact h0
theorem info_pageL (l : Bs) (h : l.length = 128) : (Try.prog.info? 76).map (·.size) = some (l.map byteV).length := by
  have h0 : (Try.prog.info? 76).map (fun i => i.size) = some 128 := by kernel_rfl
  rw [List.length_map, h]
  exact h0

/-- a new variable of many cells -/
theorem wpList_allocZ {P : Program} {ops : Array Oper} {rest : List Oper} {o : Oper} {a : Act} {w : World} {Q : Exit → Act → World → Prop} (hgd : o.guard = none) (ty : TypeId) (ho : o.op = .alloc ty) (z : Array Value) (hz : (P.info? ty).bind (·.zero) = some (.agg z))
    (h : wpList P ops Q rest (a.put o.dst (.pointer (some ⟨w.heap.size, 0, none⟩))) (w.alloc (.cells z ty))) : wpList P ops Q (o :: rest) a w := by
  refine wpList_plain hgd fun K hK => ?_
  obtain ⟨i, hi, hi2⟩ := Option.bind_eq_some_iff.1 hz
  unfold Oper.wp
  simp [execOp, ho, Instr.alloc, zeroValue, typeInfo, hi, hi2, Result.andThen]
  exact hK _ _ h
theorem zero_page : (Try.prog.info? 76).bind (·.zero) = some (.agg ((List.replicate 128 (0 : UInt8)).map byteV).toArray) := by kernel_rfl

set_option maxRecDepth 10000 in
set_option maxHeartbeats 4000000 in
theorem erased_st {B : Nat} {w0 w : World} {Ps : List Asn} (H : Own.St B w0 w Ps) : Calls Try.prog 43 #[] w fun e w' => e = .returned (.agg (FlaM.blank.map byteV).toArray) ∧ Own.St B w0 w' Ps := by
  obtain ⟨bl, hbl⟩ : ∃ b, b = FlaM.blank := ⟨_, rfl⟩
  rw [← hbl]
  have HBL : Hid (bl.length = 128) := by show bl.length = 128; rw [hbl]; exact blank_len
  have HRE : Hid (List.replicate 128 255 = bl) := by show List.replicate 128 255 = bl; rw [hbl]; rfl
  clear hbl
  have hst := A8.box (A8.box H 76 (List.replicate 128 0)) 76 (List.replicate 128 0)
  simp only [size_alloc'] at hst
  obtain ⟨z, hz⟩ : ∃ z, z = ((List.replicate 128 (0 : UInt8)).map byteV).toArray := ⟨_, rfl⟩
  have ZP : Hid ((Try.prog.info? 76).bind (·.zero) = some (.agg z)) := by rw [hz]; exact zero_page
  rw [← hz] at hst
  clear hz
  go_enter Try.func43, Try.ntmps43
  go_wp2_with (first
    | (refine Fla.wpList_allocZ rfl 76 rfl z ZP.out ?_))
  generalize (w.alloc (.cells z 76)).alloc (.cells z 76) = W1 at hst ⊢
  obtain ⟨br, hbr⟩ : ∃ b, b = w.heap.size := ⟨_, rfl⟩
  obtain ⟨bc, hbc⟩ : ∃ b, b = w.heap.size + 1 := ⟨_, rfl⟩
  rw [← hbc, ← hbr] at hst
  rw [← hbc, ← hbr]
  have HST := Lib.hid hst
  clear hst hbr hbc
  go_loopw [3] (fun v wr => ∃ k : Nat, k ≤ 128 ∧ v = .int .i64 (k : Int) ∧ Own.St B w0 wr (A8 bc 76 (ones 255 128 k) :: A8 br 76 (List.replicate 128 0) :: Ps)) (fun v _ => 128 - (intOf v).toNat)
  case atStart => exact ⟨0, Nat.zero_le _, rfl, by rw [ones_zero]; exact HST.out⟩
  case round =>
    obtain ⟨k, hk128, rfl, H⟩ := hrel
    have H := Lib.hid H
    clear HST
    by_cases hk : (k : Int) < 128
    · have hkn : k < 128 := by omega
      obtain ⟨cc, cf⟩ := A8.cell H.out 0 rfl k (by unfold ones; simp; omega)
      have PUT : Hid (Own.St B w0 (wr.setCell ⟨bc, k, none⟩ (.int .u8 255)) (A8 bc 76 (ones 255 128 (k + 1)) :: A8 br 76 (List.replicate 128 0) :: Ps)) := by
        have h := A8.store H.out 0 rfl k 255
        simp only [List.set_cons_zero] at h
        rw [ones_set 255 128 k hkn] at h
        exact h
      clear H
      go_wp2
      go_roundw
      case rel => exact ⟨k + 1, by omega, by go_num, PUT.out⟩
      case measure => simp [intOf]; omega
    · have H2 : Hid (Own.St B w0 wr (A8 bc 76 bl :: A8 br 76 (List.replicate 128 0) :: Ps)) := by
        have h := H.out
        rw [show k = 128 by omega, ones_all, HRE.out] at h
        exact h
      have ROW := Lib.hid (A8.row H2.out 0 rfl)
      have THERE := Lib.hid (A8.there H2.out 1 rfl bl (by rw [HBL.out]; rfl))
      have IB := Lib.hid (info_page _ HBL.out)
      have OB := Lib.hid (one8 bl)
      have LAST := Lib.hid (A8.setAll H2.out 1 rfl bl (by rw [HBL.out]; rfl))
      clear H hk128 HRE HBL
      go_wp2_with (first
        | (refine wpList_load_row rfl 76 (.tmp 1) rfl bc rfl 76 _ (0, 0) _ ROW.out Try.underlying76 rfl IB.out ?_)
        | (refine wpList_store_mid rfl 76 (.tmp 0) (.tmp 9) rfl br 0 (bl.map byteV).toArray rfl rfl THERE.out IB.out OB.out ?_))
      have END := Lib.hid (A8.row LAST.out 1 rfl)
      refine bodyPost_ret (results_cell_row rfl _ _ br 76 _ (0, 0) _ rfl END.out Try.underlying76 rfl IB.out) rfl ?_
      exact ⟨rfl, LAST.out.drop 2⟩

theorem wipe_cells {row : List Bs} (h : Wide row) (k : Nat) (hk : k < row.length) : ((wipeTo row (k + 1)).flatten.map byteV) = ((wipeTo row k).flatten.map byteV).take (k * 128) ++ FlaM.blank.map byteV ++ ((wipeTo row k).flatten.map byteV).drop (k * 128 + 128) := by
  have hl := wipeTo_len row k
  show (((wipeTo row k).set k FlaM.blank).flatten.map byteV) = _
  rw [flat_set k FlaM.blank (wide_wipe h k) (by omega), List.map_append, List.map_append, List.map_take, List.map_drop, show (k + 1) * 128 = k * 128 + 128 by omega]

set_option maxRecDepth 10000 in
set_option maxHeartbeats 4000000 in
/-- the first m pages of a row -/
theorem wipe_st {B : Nat} {w0 w : World} {Ps : List Asn} {r : Option Addr × Nat} {row : List Bs} (H : Own.St B w0 w (pRow 76 r row :: Ps)) (hw : Wide row) (m : Nat) (hm : m ≤ row.length) (hb : row.length ≤ 64) :
    Calls Try.prog 32 #[.slice r.1 m r.2] w fun e w' => e = .returned (.tuple #[]) ∧ Own.St B w0 w' (pRow 76 r (wipeTo row m) :: Ps) := by
  obtain ⟨ao, cap⟩ := r
  obtain ⟨bl, hbl⟩ : ∃ b, b = FlaM.blank := ⟨_, rfl⟩
  have HBL : Hid (bl.length = 128) := by show bl.length = 128; rw [hbl]; exact blank_len
  have HEQ := Lib.hid hbl
  clear hbl
  have HST := Lib.hid H
  have HW := Lib.hid hw
  have hlen := H.rowLen 0 rfl
  have HL := Lib.hid hlen
  have hm64 : m ≤ 64 := by omega
  clear H hw hlen
  go_enter Try.func32, Try.ntmps32
  go_wp2
  go_loopw [5] (fun v wr => ∃ k : Nat, k ≤ m ∧ v = .int .i64 (k : Int) ∧ Own.St B w0 wr (pRow 76 (ao, cap) (wipeTo row k) :: Ps)) (fun v _ => m - (intOf v).toNat)
  case atStart => exact ⟨0, Nat.zero_le _, rfl, HST.out⟩
  case round =>
    obtain ⟨k, hkm, rfl, H⟩ := hrel
    have H := Lib.hid H
    clear HST
    by_cases hk : (k : Int) < (m : Int)
    · have hkn : k < m := by omega
      have ce := erased_st H.out
      rw [← HEQ.out] at ce
      have CE := Lib.hid ce
      clear ce
      go_wp2_with (fail)
      refine CE.out.mono ?_
      clear CE
      rintro e w1 ⟨rfl, h1⟩
      have hl2 := wipeTo_len row k
      obtain ⟨g, rfl, _, _, _⟩ := h1.rowAt 0 rfl (k * 128) (by omega)
      have H1 := Lib.hid h1
      have hlen := (h1.rowLen 0 rfl)
      clear h1
      have THERE : Hid (w1.there g (k * 128) (bl.map byteV).toArray.size) := by
        intro j hj
        have hj2 : j < 128 := by simpa [HBL.out] using hj
        have hjn : k * 128 + j < (wipeTo row k).length * 128 := by omega
        obtain ⟨c1, c2⟩ := H1.out.rowRange 0 rfl (k * 128 + j) hjn
        refine ⟨?_, c2⟩
        rw [c1, List.getElem?_eq_getElem (by omega)]
        rfl
      have PUT : Hid (Own.St B w0 (w1.setCells g (k * 128) (bl.map byteV).toArray.toList) (pRow 76 (some ⟨g, 0, none⟩, cap) (wipeTo row (k + 1)) :: Ps)) := by
        have h := St.rowCells 0 (bl.map byteV) (k * 128) w1 _ _ H1.out rfl (by simp [HBL.out]; omega)
        simp only [List.set_cons_zero, List.length_map, HBL.out] at h
        rw [HEQ.out, ← wipe_cells HW.out k (by omega), ← HEQ.out] at h
        unfold pRow
        rw [wipeTo_len]
        rw [wipeTo_len] at h
        exact h
      have IB := Lib.hid (info_page _ HBL.out)
      have OB := Lib.hid (one8 bl)
      clear H H1 hlen
      go_wp2_with (refine wpList_store_mid rfl 76 (.tmp 11) (.tmp 10) rfl g (k * 128) (bl.map byteV).toArray rfl rfl THERE.out IB.out OB.out ?_)
      go_roundw
      case rel => exact ⟨k + 1, by omega, by go_num, PUT.out⟩
      case measure => simp [intOf]; omega
    · obtain rfl : k = m := by omega
      go_wp2
      go_end0
      exact ⟨rfl, H.out⟩
end Fla
end Go.Proofs.Ytepllhfofhehaaa
