/- CrcOne: the walk. -/
import Derived.Test.YthbipankdbfdjaaLaw2
import Derived.Test.YthbipankdbfdjaaArrEq
namespace Go.Proofs.Ythbipankdbfdjaa
open Go.RowKit Go.Own
namespace Crc
open Go.CrcM Cod

/-- a load of a block of four bytes -/
theorem load_four {W w : World} {b : Nat} {fz : Nat × Nat} {p0 p1 p2 p3 : UInt8} (hb : W.heap[b]? = some (.cells #[.int .u8 p0.toNat, .int .u8 p1.toNat, .int .u8 p2.toNat, .int .u8 p3.toNat] 36 fz)) (hw : Below W.heap.size W w) :
    ∀ (o : Oper) (x : Tmp), o.op = .load 36 (.tmp x) → ∀ ρ : Operand → Value, ρ (.tmp x) = .pointer (some ⟨b, 0, none⟩) → (execOp ρ o).run Try.prog w = .ok (.value (.agg #[.int .u8 p0.toNat, .int .u8 p1.toNat, .int .u8 p2.toNat, .int .u8 p3.toNat])) w := by
  intro o x ho ρ h0
  have hb' := (hw.block b (lt_of_block hb)).trans hb
  have c0 := cell_of_block (i := 0) hb' rfl
  have c1 := cell_of_block (i := 1) hb' rfl
  have c2 := cell_of_block (i := 2) hb' rfl
  have c3 := cell_of_block (i := 3) hb' rfl
  simp [execOp, ho, h0, go_sem, c0, c1, c2, c3]

theorem eql_four {p0 p1 p2 p3 q0 q1 q2 q3 : UInt8} (v : Bool) (hv : decide ([p0, p1, p2, p3] = [q0, q1, q2, q3]) = v) :
    ∀ (o : Oper) (x y : Tmp), o.op = .binOp .eql 36 (.tmp x) (.tmp y) 36 → ∀ (ρ : Operand → Value) (w : World), ρ (.tmp x) = .agg #[.int .u8 p0.toNat, .int .u8 p1.toNat, .int .u8 p2.toNat, .int .u8 p3.toNat] → ρ (.tmp y) = .agg #[.int .u8 q0.toNat, .int .u8 q1.toNat, .int .u8 q2.toNat, .int .u8 q3.toNat] →
      (execOp ρ o).run Try.prog w = .ok (.value (.bool v)) w := by
  intro o x y ho ρ w h0 h1
  have h := run_equalIn_ints (P := Try.prog) 9998 36 5 .u8 [(p0.toNat : Int), p1.toNat, p2.toNat, p3.toNat] [(q0.toNat : Int), q1.toNat, q2.toNat, q3.toNat] rfl Try.underlying36 Try.underlying5 (fun w => by kernel_rfl) (fun w => by kernel_rfl) w
  have e : decide ([(p0.toNat : Int), p1.toNat, p2.toNat, p3.toNat] = [(q0.toNat : Int), q1.toNat, q2.toNat, q3.toNat]) = v := by
    rw [← hv]
    apply decide_eq_decide.2
    simp [← UInt8.toNat_inj]
    omega
  rw [e] at h
  have h' : (Op.equalIn 10000 36 (.agg #[.int .u8 (p0.toNat : Int), .int .u8 p1.toNat, .int .u8 p2.toNat, .int .u8 p3.toNat]) (.agg #[.int .u8 (q0.toNat : Int), .int .u8 q1.toNat, .int .u8 q2.toNat, .int .u8 q3.toNat])).run Try.prog w = .ok v w := h
  simp [execOp, ho, h0, h1, go_sem, h']

theorem le4_of (l : List UInt8) (hl : l.length = 4) : ∃ p : R, l = le4 p := by
  match l, hl with
  | [a, b, c, d], _ =>
    refine ⟨BitVec.ofNat 32 (a.toNat + 256 * b.toNat + 65536 * c.toNat + 16777216 * d.toNat), ?_⟩
    have h1 := a.toNat_lt
    have h2 := b.toNat_lt
    have h3 := c.toNat_lt
    have h4 := d.toNat_lt
    unfold le4
    rw [BitVec.toNat_ofNat, Nat.mod_eq_of_lt (by omega)]
    simp only [List.cons.injEq, and_true]
    refine ⟨?_, ?_, ?_, ?_⟩ <;> (apply UInt8.toNat_inj.1; simp; try omega)

set_option maxHeartbeats 800000 in
theorem walk_one (a0 : Int) (w0 : (Lit.int .u32 a0).wf = true) (c1 : Array Value) (l1 : List UInt8) {w : World} (w1 : inBytesA 4 l1 w.heap.size w c1.toList) (c2 : Array Value) (l2 : List UInt8) (w2 : inBytesA 4 l2 w.heap.size w c2.toList) :
    Calls Try.prog 8 #[.int .u32 a0, .agg c1, .agg c2] w (RetTrue w) := by
  obtain ⟨s, rfl⟩ := reg_of w0
  obtain ⟨e1, hl1⟩ := w1
  obtain ⟨e2, hl2⟩ := w2
  obtain ⟨p, rfl⟩ := le4_of l1 hl1
  obtain ⟨q, rfl⟩ := le4_of l2 hl2
  obtain rfl : c1 = ((le4 p).map byteV).toArray := by rw [← e1]
  obtain rfl : c2 = ((le4 q).map byteV).toArray := by rw [← e2]
  clear e1 e2 hl1 hl2 w0
  obtain ⟨p0, p1, p2, p3, hp⟩ : ∃ p0 p1 p2 p3, le4 p = [p0, p1, p2, p3] := ⟨_, _, _, _, rfl⟩
  obtain ⟨q0, q1, q2, q3, hq⟩ : ∃ q0 q1 q2 q3, le4 q = [q0, q1, q2, q3] := ⟨_, _, _, _, rfl⟩
  rw [hp, hq]
  simp only [List.map_cons, List.map_nil, byteV]
  obtain ⟨x, hx⟩ : ∃ x, x = msum s (le4 p) := ⟨_, rfl⟩
  obtain ⟨y, hy⟩ : ∃ y, y = msum s (le4 q) := ⟨_, rfl⟩
  have hxy : (x = y) ↔ [p0, p1, p2, p3] = [q0, q1, q2, q3] := by
    rw [← hp, ← hq, hx, hy]
    exact ⟨fun h => by rw [msum_inj s h], fun h => by rw [h]⟩
  have HP := Lib.hid hp
  have HQ := Lib.hid hq
  have HX := Lib.hid hx
  have HY := Lib.hid hy
  have HXI := Lib.hid hxy
  clear hp hq hx hy hxy
  go_enter Try.func8, Try.ntmps8
  go_wp2
  obtain ⟨W, hW⟩ : ∃ W, W = (w.alloc (.cells #[.int .u8 (p0.toNat : Int), .int .u8 (p1.toNat : Int), .int .u8 (p2.toNat : Int), .int .u8 (p3.toNat : Int)] 36)).alloc (.cells #[.int .u8 (q0.toNat : Int), .int .u8 (q1.toNat : Int), .int .u8 (q2.toNat : Int), .int .u8 (q3.toNat : Int)] 36) := ⟨_, rfl⟩
  rw [← hW]
  obtain ⟨b1, hb1⟩ : ∃ b, b = w.heap.size := ⟨_, rfl⟩
  obtain ⟨b2, hb2⟩ : ∃ b, b = w.heap.size + 1 := ⟨_, rfl⟩
  rw [← hb2, ← hb1]
  have g1 : W.heap[b1]? = some (.cells #[.int .u8 (p0.toNat : Int), .int .u8 (p1.toNat : Int), .int .u8 (p2.toNat : Int), .int .u8 (p3.toNat : Int)] 36) := by
    rw [hW, hb1, Below.heap_alloc _ _ _ (by simp)]; exact heap_alloc_new w _
  have g2 : W.heap[b2]? = some (.cells #[.int .u8 (q0.toNat : Int), .int .u8 (q1.toNat : Int), .int .u8 (q2.toNat : Int), .int .u8 (q3.toNat : Int)] 36) := by
    have := heap_alloc_new (w.alloc (.cells #[.int .u8 (p0.toNat : Int), .int .u8 (p1.toNat : Int), .int .u8 (p2.toNat : Int), .int .u8 (p3.toNat : Int)] 36)) (.cells #[.int .u8 (q0.toNat : Int), .int .u8 (q1.toNat : Int), .int .u8 (q2.toNat : Int), .int .u8 (q3.toNat : Int)] 36)
    rw [hW, hb2]; simpa using this
  have HBW : Hid (Below w.heap.size w W) := by
    show Below w.heap.size w W
    rw [hW]; exact ((Below.refl _ _).alloc (Nat.le_refl _) _).alloc (by simp) _
  have vw : ∀ (b : Nat) (r0 r1 r2 r3 : UInt8), W.heap[b]? = some (.cells #[.int .u8 (r0.toNat : Int), .int .u8 (r1.toNat : Int), .int .u8 (r2.toNat : Int), .int .u8 (r3.toNat : Int)] 36) → View W (fun _ => True) (some ⟨b, 0, none⟩) [r0, r1, r2, r3] := by
    intro b r0 r1 r2 r3 hb
    refine .inr ⟨b, 0, rfl, trivial, lt_of_block hb, fun j hj => ?_⟩
    match j, hj with
    | 0, _ => exact cell_of_block (i := 0 + 0) hb rfl
    | 1, _ => exact cell_of_block (i := 0 + 1) hb rfl
    | 2, _ => exact cell_of_block (i := 0 + 2) hb rfl
    | 3, _ => exact cell_of_block (i := 0 + 3) hb rfl
    | n + 4, h => simp at h; omega
  have HC1 : Hid (∀ wx, Below W.heap.size W wx → Calls Try.prog 15 #[.int .u32 s.toNat, .slice (some ⟨b1, 0, none⟩) 4 4] wx fun e w' => e = .returned (.int .u32 x.toNat) ∧ Below wx.heap.size wx w') := by
    intro wx hwx
    have h := more_any _ s _ [p0, p1, p2, p3] 4 wx (view_later (vw b1 p0 p1 p2 p3 g1) hwx) (by simp)
    rw [← HP.out, ← HX.out, HP.out] at h
    exact h.mono fun _ _ h => ⟨h.1, h.2 ▸ Below.refl _ _⟩
  have HC2 : Hid (∀ wx, Below W.heap.size W wx → Calls Try.prog 15 #[.int .u32 s.toNat, .slice (some ⟨b2, 0, none⟩) 4 4] wx fun e w' => e = .returned (.int .u32 y.toNat) ∧ Below wx.heap.size wx w') := by
    intro wx hwx
    have h := more_any _ s _ [q0, q1, q2, q3] 4 wx (view_later (vw b2 q0 q1 q2 q3 g2) hwx) (by simp)
    rw [← HQ.out, ← HY.out, HQ.out] at h
    exact h.mono fun _ _ h => ⟨h.1, h.2 ▸ Below.refl _ _⟩
  have G1 := Lib.hid g1
  have G2 := Lib.hid g2
  clear g1 g2 vw hW hb1 hb2
  by_cases hxy : x = y
  · have HXY : Hid (x.toNat = y.toNat) := by show x.toNat = y.toNat; rw [hxy]
    have HEQ := Lib.hid (eql_four (p0 := p0) (p1 := p1) (p2 := p2) (p3 := p3) (q0 := q0) (q1 := q1) (q2 := q2) (q3 := q3) true (decide_eq_true (HXI.out.1 hxy)))
    clear hxy
    refine wp_lax_list (by kernel_rfl) (by kernel_rfl) (by kernel_rfl) ?_
    refine wpL_fn (.bool true) [] rfl (by kernel_rfl) (by kernel_rfl) (by kernel_rfl) (by kernel_rfl) (fun _ _ => by simp [go_sem]) (fun wx hwx => shown_any wx) ?_
    refine wpL_move (.bool true) rfl (by kernel_rfl) (by kernel_rfl) (by kernel_rfl) (by kernel_rfl) ?_
    refine wpL_move (.int .u32 s.toNat) rfl (by kernel_rfl) (by kernel_rfl) (by kernel_rfl) (by kernel_rfl) ?_
    refine wpL_run1 (x := .tmp 4) (.pointer (some ⟨b1, 0, none⟩)) (.slice (some ⟨b1, 0, none⟩) 4 4) (by kernel_rfl) (by kernel_rfl) (by kernel_rfl) (by kernel_rfl) (by kernel_rfl) (fun wx ρ hwx h0 hc => by simp [go_sem, h0, hc]) ?_
    refine wpL_fn (.int .u32 x.toNat) [.int .u32 s.toNat, .slice (some ⟨b1, 0, none⟩) 4 4] rfl (by kernel_rfl) (by kernel_rfl) (by kernel_rfl) (by kernel_rfl) (fun _ _ => by simp [go_sem]) (fun wx hwx => HC1.out wx hwx) ?_
    refine wpL_move (.int .u32 s.toNat) rfl (by kernel_rfl) (by kernel_rfl) (by kernel_rfl) (by kernel_rfl) ?_
    refine wpL_run1 (x := .tmp 5) (.pointer (some ⟨b2, 0, none⟩)) (.slice (some ⟨b2, 0, none⟩) 4 4) (by kernel_rfl) (by kernel_rfl) (by kernel_rfl) (by kernel_rfl) (by kernel_rfl) (fun wx ρ hwx h0 hc => by simp [go_sem, h0, hc]) ?_
    refine wpL_fn (.int .u32 y.toNat) [.int .u32 s.toNat, .slice (some ⟨b2, 0, none⟩) 4 4] rfl (by kernel_rfl) (by kernel_rfl) (by kernel_rfl) (by kernel_rfl) (fun _ _ => by simp [go_sem]) (fun wx hwx => HC2.out wx hwx) ?_
    refine wpL_run2 (x := .tmp 11) (y := .tmp 14) (.int .u32 x.toNat) (.int .u32 y.toNat) (.bool true) (by kernel_rfl) (by kernel_rfl) (by kernel_rfl) (by kernel_rfl) (by kernel_rfl) (by kernel_rfl) (fun wx ρ hwx h0 h1 hc => by simp [h0, h1, hc, go_sem, HXY.out]) ?_
    refine wpL_run1 (x := .tmp 4) (.pointer (some ⟨b1, 0, none⟩)) (.agg #[.int .u8 (p0.toNat : Int), .int .u8 (p1.toNat : Int), .int .u8 (p2.toNat : Int), .int .u8 (p3.toNat : Int)]) (by kernel_rfl) (by kernel_rfl) (by kernel_rfl) (by kernel_rfl) (by kernel_rfl) (fun wx ρ hwx h0 hc => load_four G1.out hwx _ _ rfl ρ h0) ?_
    refine wpL_run1 (x := .tmp 5) (.pointer (some ⟨b2, 0, none⟩)) (.agg #[.int .u8 (q0.toNat : Int), .int .u8 (q1.toNat : Int), .int .u8 (q2.toNat : Int), .int .u8 (q3.toNat : Int)]) (by kernel_rfl) (by kernel_rfl) (by kernel_rfl) (by kernel_rfl) (by kernel_rfl) (fun wx ρ hwx h0 hc => load_four G2.out hwx _ _ rfl ρ h0) ?_
    refine wpL_run2 (x := .tmp 16) (y := .tmp 17) (.agg #[.int .u8 (p0.toNat : Int), .int .u8 (p1.toNat : Int), .int .u8 (p2.toNat : Int), .int .u8 (p3.toNat : Int)]) (.agg #[.int .u8 (q0.toNat : Int), .int .u8 (q1.toNat : Int), .int .u8 (q2.toNat : Int), .int .u8 (q3.toNat : Int)]) (.bool true) (by kernel_rfl) (by kernel_rfl) (by kernel_rfl) (by kernel_rfl) (by kernel_rfl) (by kernel_rfl) (fun wx ρ hwx h0 h1 hc => HEQ.out _ _ _ rfl ρ wx h0 h1) ?_
    refine wpL_run2 (x := .tmp 15) (y := .tmp 18) (.bool true) (.bool true) (.bool true) (by kernel_rfl) (by kernel_rfl) (by kernel_rfl) (by kernel_rfl) (by kernel_rfl) (by kernel_rfl) (fun wx ρ hwx h0 h1 hc => by simp [go_sem, h0, h1, hc]) ?_
    refine wpL_run2 (x := .tmp 8) (y := .tmp 19) (.bool true) (.bool true) (.bool true) (by kernel_rfl) (by kernel_rfl) (by kernel_rfl) (by kernel_rfl) (by kernel_rfl) (by kernel_rfl) (fun wx ρ hwx h0 h1 hc => by simp [go_sem, h0, h1]) ?_
    refine wpL_assign (.bool true) rfl (by kernel_rfl) (by kernel_rfl) (by kernel_rfl) (by kernel_rfl) ?_
    refine wpL_end (by kernel_rfl) (fun w1 hw => ?_)
    have HW := Lib.hid (HBW.out.trans (hw.mono HBW.out.size))
    clear hw
    simp only [FinL, setL, List.set_cons_zero, List.set_cons_succ]
    go_wp2
    go_ret
    exact ⟨rfl, HW.out⟩
  · have HXY : Hid (¬ (x.toNat : Int) = (y.toNat : Int)) := fun h => hxy (BitVec.eq_of_toNat_eq (by omega))
    have HEQ := Lib.hid (eql_four (p0 := p0) (p1 := p1) (p2 := p2) (p3 := p3) (q0 := q0) (q1 := q1) (q2 := q2) (q3 := q3) false (decide_eq_false (fun h => hxy (HXI.out.2 h))))
    clear hxy
    refine wp_lax_list (by kernel_rfl) (by kernel_rfl) (by kernel_rfl) ?_
    refine wpL_fn (.bool true) [] rfl (by kernel_rfl) (by kernel_rfl) (by kernel_rfl) (by kernel_rfl) (fun _ _ => by simp [go_sem]) (fun wx hwx => shown_any wx) ?_
    refine wpL_move (.bool true) rfl (by kernel_rfl) (by kernel_rfl) (by kernel_rfl) (by kernel_rfl) ?_
    refine wpL_move (.int .u32 s.toNat) rfl (by kernel_rfl) (by kernel_rfl) (by kernel_rfl) (by kernel_rfl) ?_
    refine wpL_run1 (x := .tmp 4) (.pointer (some ⟨b1, 0, none⟩)) (.slice (some ⟨b1, 0, none⟩) 4 4) (by kernel_rfl) (by kernel_rfl) (by kernel_rfl) (by kernel_rfl) (by kernel_rfl) (fun wx ρ hwx h0 hc => by simp [go_sem, h0, hc]) ?_
    refine wpL_fn (.int .u32 x.toNat) [.int .u32 s.toNat, .slice (some ⟨b1, 0, none⟩) 4 4] rfl (by kernel_rfl) (by kernel_rfl) (by kernel_rfl) (by kernel_rfl) (fun _ _ => by simp [go_sem]) (fun wx hwx => HC1.out wx hwx) ?_
    refine wpL_move (.int .u32 s.toNat) rfl (by kernel_rfl) (by kernel_rfl) (by kernel_rfl) (by kernel_rfl) ?_
    refine wpL_run1 (x := .tmp 5) (.pointer (some ⟨b2, 0, none⟩)) (.slice (some ⟨b2, 0, none⟩) 4 4) (by kernel_rfl) (by kernel_rfl) (by kernel_rfl) (by kernel_rfl) (by kernel_rfl) (fun wx ρ hwx h0 hc => by simp [go_sem, h0, hc]) ?_
    refine wpL_fn (.int .u32 y.toNat) [.int .u32 s.toNat, .slice (some ⟨b2, 0, none⟩) 4 4] rfl (by kernel_rfl) (by kernel_rfl) (by kernel_rfl) (by kernel_rfl) (fun _ _ => by simp [go_sem]) (fun wx hwx => HC2.out wx hwx) ?_
    refine wpL_run2 (x := .tmp 11) (y := .tmp 14) (.int .u32 x.toNat) (.int .u32 y.toNat) (.bool false) (by kernel_rfl) (by kernel_rfl) (by kernel_rfl) (by kernel_rfl) (by kernel_rfl) (by kernel_rfl) (fun wx ρ hwx h0 h1 hc => by simp [h0, h1, hc, go_sem, HXY.out]) ?_
    refine wpL_run1 (x := .tmp 4) (.pointer (some ⟨b1, 0, none⟩)) (.agg #[.int .u8 (p0.toNat : Int), .int .u8 (p1.toNat : Int), .int .u8 (p2.toNat : Int), .int .u8 (p3.toNat : Int)]) (by kernel_rfl) (by kernel_rfl) (by kernel_rfl) (by kernel_rfl) (by kernel_rfl) (fun wx ρ hwx h0 hc => load_four G1.out hwx _ _ rfl ρ h0) ?_
    refine wpL_run1 (x := .tmp 5) (.pointer (some ⟨b2, 0, none⟩)) (.agg #[.int .u8 (q0.toNat : Int), .int .u8 (q1.toNat : Int), .int .u8 (q2.toNat : Int), .int .u8 (q3.toNat : Int)]) (by kernel_rfl) (by kernel_rfl) (by kernel_rfl) (by kernel_rfl) (by kernel_rfl) (fun wx ρ hwx h0 hc => load_four G2.out hwx _ _ rfl ρ h0) ?_
    refine wpL_run2 (x := .tmp 16) (y := .tmp 17) (.agg #[.int .u8 (p0.toNat : Int), .int .u8 (p1.toNat : Int), .int .u8 (p2.toNat : Int), .int .u8 (p3.toNat : Int)]) (.agg #[.int .u8 (q0.toNat : Int), .int .u8 (q1.toNat : Int), .int .u8 (q2.toNat : Int), .int .u8 (q3.toNat : Int)]) (.bool false) (by kernel_rfl) (by kernel_rfl) (by kernel_rfl) (by kernel_rfl) (by kernel_rfl) (by kernel_rfl) (fun wx ρ hwx h0 h1 hc => HEQ.out _ _ _ rfl ρ wx h0 h1) ?_
    refine wpL_run2 (x := .tmp 15) (y := .tmp 18) (.bool false) (.bool false) (.bool true) (by kernel_rfl) (by kernel_rfl) (by kernel_rfl) (by kernel_rfl) (by kernel_rfl) (by kernel_rfl) (fun wx ρ hwx h0 h1 hc => by simp [go_sem, h0, h1, hc]) ?_
    refine wpL_run2 (x := .tmp 8) (y := .tmp 19) (.bool true) (.bool true) (.bool true) (by kernel_rfl) (by kernel_rfl) (by kernel_rfl) (by kernel_rfl) (by kernel_rfl) (by kernel_rfl) (fun wx ρ hwx h0 h1 hc => by simp [go_sem, h0, h1]) ?_
    refine wpL_assign (.bool true) rfl (by kernel_rfl) (by kernel_rfl) (by kernel_rfl) (by kernel_rfl) ?_
    refine wpL_end (by kernel_rfl) (fun w1 hw => ?_)
    have HW := Lib.hid (HBW.out.trans (hw.mono HBW.out.size))
    clear hw
    simp only [FinL, setL, List.set_cons_zero, List.set_cons_succ]
    go_wp2
    go_ret
    exact ⟨rfl, HW.out⟩

end Crc
end Go.Proofs.Ythbipankdbfdjaa
