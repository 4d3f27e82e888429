/- The landed page: frame, Take, Lay. -/
import Derived.Test.YtphdpjfkpidofaaPgaA
namespace Go.Proofs.Ytphdpjfkpidofaa
open Go.RowKit Go.Own
namespace Pag
open Go.PagM Byt
theorem manyByte : Many Try.prog 22 5 1 1 := ⟨Try.underlying22, by kernel_rfl, by decide⟩
set_option maxHeartbeats 800000 in
/-- bytes.Clone of cells that lie anywhere -/
theorem cloneBytes {B : Nat} {w0 w : World} {Ps : List Asn} (H : Own.St B w0 w Ps) (a : Addr) (n cap : Nat) (l : PagM.Bs) (hl : l.length = n) (hc : ∀ j u, (l.map byteV)[j]? = some u → w.cell? (a.add j) = some u) (hb : n ≤ 100000) :
    Calls Try.prog 25 #[.slice (some a) n cap] w fun e w' => ∃ a' c', e = .returned (.slice a' n c') ∧ Own.St B w0 w' (AB a' n c' l :: Ps) := by
  have H1 := Lib.hid (H.emptyRow 5 1)
  have HL : Hid ((l.map byteV).length = n * 1) := by show (l.map byteV).length = n * 1; simp [hl]
  have HN : Hid (∀ a', some a = some a' → ∀ j u, (l.map byteV)[j]? = some u → (w.alloc (.cells #[] 5)).cell? (a'.add j) = some u) := by
    intro a' ha j u hu
    cases ha
    exact cell_alloc (hc j u hu) _
  clear H hc
  have hq := eqlNil (P := Try.prog) w 22 _ (some a) n cap Try.underlying22
  simp only [Option.isNone_some] at hq
  go_enter Try.func25, Try.ntmps25
  go_wp2_with (refine wpList_many_append manyByte rfl (.tmp 5) (.tmp 6) rfl H1.out 0 rfl rfl (some a) n cap (l.map byteV) rfl (by intro h; cases h) HL.out HN.out (byteV_one _) (by omega) (by decide) ?_; intro a2 c2 w2 h2; simp only [List.set_cons_zero, Nat.zero_add, List.nil_append] at h2 ⊢; have H2 := Lib.hid h2; clear h2)
  go_ret
  exact ⟨_, _, rfl, H2.out⟩
theorem range_box {B : Nat} {w0 w : World} {Ps : List Asn} {b : Nat} {t : TypeId} {cs : List Value} (H : Own.St B w0 w Ps) (i : Nat) (hi : Ps[i]? = some (AVals b t cs)) : w.rangeAt b 0 cs := fun j v hv => by
  rw [Nat.zero_add]
  exact (H.cellV i hi j hv).1
theorem load_pageE (l : PagM.Bs) (hl : l.length = 128) {o : Oper} {x : Tmp} (ho : o.op = .load 47 (.tmp x)) {b k : Nat} (ρ : Operand → Value) {w : World} (hr : w.rangeAt b k (l.map byteV)) (h0 : ρ (.tmp x) = .pointer (some ⟨b, k, none⟩)) : (execOp ρ o).run Try.prog w = .ok (.value (.agg (l.map byteV).toArray)) w := by
  have := run_loadAt_mid (P := Try.prog) w b k 47 (l.map byteV) _ hr Try.underlying47 rfl (info_pageL l hl)
  unfold execOp
  simp only [ho, h0, Sem.run_bind, this, Result.andThen_ok, Sem.run_pure]
theorem info_frameL (cs : List Value) (h : cs.length = 4) : (Try.prog.info? 24).map (·.size) = some cs.length := by
  have h0 : (Try.prog.info? 24).map (fun i => i.size) = some 4 := by kernel_rfl
  rw [h]
  exact h0
theorem load_frameE (cs : List Value) (hl : cs.length = 4) {o : Oper} {x : Tmp} (ho : o.op = .load 24 (.tmp x)) {b k : Nat} (ρ : Operand → Value) {w : World} (hr : w.rangeAt b k cs) (h0 : ρ (.tmp x) = .pointer (some ⟨b, k, none⟩)) : (execOp ρ o).run Try.prog w = .ok (.value (.agg cs.toArray)) w := by
  have := run_loadAt_mid (P := Try.prog) w b k 24 cs _ hr Try.underlying24 rfl (info_frameL cs hl)
  unfold execOp
  simp only [ho, h0, Sem.run_bind, this, Result.andThen_ok, Sem.run_pure]
theorem bytes_eq (a b : PagM.Bs) : decide (a.map (fun x => (x.toNat : Int)) = b.map (fun x => (x.toNat : Int))) = decide (a = b) := by
  apply decide_eq_decide.2
  constructor
  · intro h
    exact (List.map_inj_right (fun x y h => UInt8.toNat_inj.1 (by omega))).1 h
  · rintro rfl; rfl
theorem bytes_ints (l : PagM.Bs) : (l.map (fun x => (x.toNat : Int))).map (Value.int .u8) = l.map byteV := by
  rw [List.map_map]; rfl
theorem neq_pageE {o : Oper} {x y : Tmp} (ho : o.op = .binOp .neq 47 (.tmp x) (.tmp y) 47) {a b : PagM.Bs} (ha : a.length = 128) (hb : b.length = 128) {v : Bool} (hv : decide (a = b) = v) (ρ : Operand → Value) (w : World)
    (h0 : ρ (.tmp x) = .agg (a.map byteV).toArray) (h1 : ρ (.tmp y) = .agg (b.map byteV).toArray) : (execOp ρ o).run Try.prog w = .ok (.value (.bool (!v))) w := by
  have h := run_equalIn_ints (P := Try.prog) 9998 47 5 .u8 (a.map (fun x => (x.toNat : Int))) (b.map (fun x => (x.toNat : Int))) (by simp [ha, hb]) (by rw [List.length_map, ha]; exact Try.underlying47) Try.underlying5 (fun w => by kernel_rfl) (fun w => by kernel_rfl) w
  rw [bytes_eq, hv, bytes_ints, bytes_ints] at h
  have h' : (Op.equalIn 10000 47 (.agg (a.map byteV).toArray) (.agg (b.map byteV).toArray)).run Try.prog w = .ok v w := h
  unfold execOp
  simp only [ho, h0, h1]
  generalize (a.map byteV).toArray = A at h' ⊢
  generalize (b.map byteV).toArray = B at h' ⊢
  simp [go_sem, h']

theorem cut_arr {o : Oper} {x y : Tmp} (ho : o.op = .slice 47 (.tmp x) (some (.const (.int .i64 2))) (some (.tmp y)) none) (b dn : Nat) (hd : dn ≤ 125) (ρ : Operand → Value) (w : World) (h0 : ρ (.tmp x) = .pointer (some ⟨b, 0, none⟩)) (h1 : ρ (.tmp y) = .int .i64 (2 + (dn : Int))) (hc : ρ (.const (.int .i64 2)) = .int .i64 2) :
    (execOp ρ o).run Try.prog w = .ok (.value (.slice (some ⟨b, 2, none⟩) dn 126)) w := by
  obtain ⟨q, hq⟩ : ∃ q, q = 2 + dn := ⟨_, rfl⟩
  rw [show (2 : Int) + (dn : Int) = (q : Int) by omega] at h1
  have a1 : q ≤ 128 := by omega
  have a2 : (q : Int) ≤ 128 := by omega
  have a3 : (2 : Int) ≤ (q : Int) := by omega
  have a4 : 2 ≤ q := by omega
  have a5 : q - 2 = dn := by omega
  have a6 : (q : Int) - 2 = (dn : Int) := by omega
  simp [execOp, ho, h0, h1, hc, go_sem, a1, a2, a3, a4, a5, a6, add_of]
set_option maxRecDepth 10000 in
set_option maxHeartbeats 4000000 in
theorem frame_any (p : PagM.Bs) (hl : p.length = 128) (h1 : (p.getD 1 0).toNat ≤ 125) (w : World) :
    Calls Try.prog 24 #[.agg (p.map byteV).toArray] w fun e w' => ∃ ao cap, e = .returned (frV (guess p).kind.toNat (guess p).first (guess p).last (.slice ao (guess p).data.length cap)) ∧ Own.St w.heap.size w w' [AB ao (guess p).data.length cap (guess p).data] := by
  obtain ⟨gk, hgk⟩ : ∃ x, x = (guess p).kind := ⟨_, rfl⟩
  obtain ⟨gf, hgf⟩ : ∃ x, x = (guess p).first := ⟨_, rfl⟩
  obtain ⟨gl, hgl⟩ : ∃ x, x = (guess p).last := ⟨_, rfl⟩
  obtain ⟨gd, hgd⟩ : ∃ x, x = (guess p).data := ⟨_, rfl⟩
  rw [← hgk, ← hgf, ← hgl, ← hgd]
  obtain ⟨a, ha⟩ : ∃ a, a = p.getD 0 0 := ⟨_, rfl⟩
  obtain ⟨d, hd⟩ : ∃ d, d = p.getD 1 0 := ⟨_, rfl⟩
  have ha8 : a.toNat ≤ 255 := by have := a.toNat_lt; omega
  have hgdl : gd.length = d.toNat := by rw [hgd, hd]; exact (guess_small p hl h1).2
  rw [← hd] at h1
  have ek : bits .and .u8 (a.toNat : Int) 63 = (gk.toNat : Int) := by
    have : gk.toNat = a.toNat % 64 := by rw [hgk, ha]; unfold guess; exact ofNat_toNat _ (by omega)
    rw [and63 a.toNat (by omega), this]
  have ef : (bits .and .u8 (a.toNat : Int) 64 != 0) = gf := by
    rw [and64 a.toNat (by omega), hgf, ha]; rfl
  have el : (bits .and .u8 (a.toNat : Int) 128 != 0) = gl := by
    rw [and128 a.toNat (by omega), hgl, ha]; rfl
  have hbox := A8.box (Own.St.start w) 47 p
  have hbx2 := hbox.boxV 24 [.int .u8 0, .bool false, .bool false, .slice none 0 0]
  simp only [size_alloc'] at hbx2
  have c0 := (A8.cell hbx2 1 rfl 0 (by rw [hl]; decide)).1
  have c1 := (A8.cell hbx2 1 rfl 1 (by rw [hl]; decide)).1
  rw [← ha] at c0
  rw [← hd] at c1
  have CL : Hid (Calls Try.prog 25 #[.slice (some ⟨w.heap.size, 2, none⟩) d.toNat 126] ((w.alloc (.cells (p.map byteV).toArray 47)).alloc (.cells #[.int .u8 0, .bool false, .bool false, .slice none 0 0] 24)) fun e w' => ∃ a' c', e = .returned (.slice a' d.toNat c') ∧ Own.St w.heap.size w w' [AB a' d.toNat c' gd, AVals (w.heap.size + 1) 24 [.int .u8 0, .bool false, .bool false, .slice none 0 0], A8 w.heap.size 47 p]) := by
    refine cloneBytes hbx2 _ _ _ gd hgdl ?_ (by omega)
    intro j u hu
    have hj := (List.getElem?_eq_some_iff.1 hu).1
    rw [List.length_map, hgdl] at hj
    have h2 := (A8.cell hbx2 1 rfl (2 + j) (by rw [hl]; omega)).1
    rw [add_of, h2, ← hu, hgd]
    unfold guess
    simp only
    rw [List.getElem?_map, List.getElem?_take_of_lt (by rw [← hd]; exact hj), List.getElem?_drop, List.getElem?_eq_getElem (by rw [hl]; omega), List.getD_eq_getElem?_getD, List.getElem?_eq_getElem (by rw [hl]; omega)]
    rfl
  have HGDL := Lib.hid hgdl
  have HP := Lib.hid hl
  clear hbox hbx2 hgk hgf hgl hgd ha hd hgdl hl
  go_enter Try.func24, Try.ntmps24
  go_wp2_with (refine Byt.wpList_val rfl (cut_arr rfl w.heap.size d.toNat h1 _ _ rfl rfl rfl) ?_)
  refine CL.out.mono ?_
  clear CL c0 c1
  rintro e w3 ⟨a3, c3, rfl, h3⟩
  have H3 := Lib.hid h3
  have q0 := h3.cellV 1 rfl 0 rfl
  have q1 := h3.cellV 1 rfl 1 rfl
  have q2 := h3.cellV 1 rfl 2 rfl
  have q3 := h3.cellV 1 rfl 3 rfl
  have h7 := (((h3.storeV 1 rfl 0 (.int .u8 (gk.toNat : Int))).storeV 1 rfl 1 (.bool gf)).storeV 1 rfl 2 (.bool gl)).storeV 1 rfl 3 (.slice a3 d.toNat c3)
  have H7 := Lib.hid h7
  clear h3 h7
  go_wp2
  refine bodyPost_ret (results_cell_row rfl _ _ (w.heap.size + 1) 24 _ (0, 0) _ rfl (H7.out.rowV 1 rfl) Try.underlying24 rfl (info_frame _ rfl)) rfl ?_
  rw [HGDL.out]
  exact ⟨a3, c3, rfl, (H7.out.swap2.drop 1).drop2⟩
end Pag
end Go.Proofs.Ytphdpjfkpidofaa
