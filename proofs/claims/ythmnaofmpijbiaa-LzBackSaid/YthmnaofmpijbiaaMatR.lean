/- The document's own answers for layer 5: how many bytes are the same. -/
import Derived.Test.YthmnaofmpijbiaaByt
import Derived.Test.YthmnaofmpijbiaaMatM
import Derived.Test.YthmnaofmpijbiaaLax
import Derived.Lib.Hide
import Derived.Laws.BitsAllLaws
import Derived.WalkLawsBesides
namespace Go.Proofs.Ythmnaofmpijbiaa
open Go.RowKit Go.Own
namespace Mat
open Go.MatM Byt

theorem lss2 {o : Oper} {x y : Operand} (ho : o.op = .binOp .lss 3 x y 3) (k j : Int) {v : Bool} (hv : decide (k < j) = v) (ρ : Operand → Value) (w : World) (h0 : ρ x = .int .i64 k) (h1 : ρ y = .int .i64 j) : (execOp ρ o).run Try.prog w = .ok (.value (.bool v)) w := by
  simp only [execOp, ho, h0, h1]
  simp [go_sem, ← hv]
theorem eql8 {o : Oper} {x y : Operand} (ho : o.op = .binOp .eql 5 x y 5) (c d : UInt8) {v : Bool} (hv : decide (c = d) = v) (ρ : Operand → Value) (w : World) (h0 : ρ x = .int .u8 (c.toNat : Int)) (h1 : ρ y = .int .u8 (d.toNat : Int)) : (execOp ρ o).run Try.prog w = .ok (.value (.bool v)) w := by
  have e : ((c.toNat : Int) == (d.toNat : Int)) = v := by
    rw [← hv, Bool.eq_iff_iff, beq_iff_eq, decide_eq_true_eq]
    exact ⟨fun h => UInt8.toNat_inj.1 (by omega), fun h => by rw [h]⟩
  simp only [execOp, ho, h0, h1]
  generalize (c.toNat : Int) = a at e
  generalize (d.toNat : Int) = b at e
  simp [go_sem, e]
theorem add_two {o : Oper} {x y : Tmp} (ho : o.op = .binOp .add 3 (.tmp x) (.tmp y) 3) (k j : Nat) (hb : k + j ≤ 1000000000) {q : Nat} (hq : q = k + j) : ∀ (ρ : Operand → Value) w, ρ (.tmp x) = .int .i64 (k : Int) → ρ (.tmp y) = .int .i64 (j : Int) → (execOp ρ o).run Try.prog w = .ok (.value (.int .i64 (q : Int))) w := by
  intro ρ w h0 h1
  have e : IntKind.i64.wrap ((k : Int) + (j : Int)) = (q : Int) := (IntWalk.i64_in _ (by omega)).trans (by omega)
  simp only [execOp, ho, h0, h1]
  generalize (k : Int) = m at e
  generalize (j : Int) = m2 at e
  simp [go_sem, e]
theorem idx_at {o : Oper} {x y : Tmp} (ho : o.op = .indexAddr 22 (.tmp x) (.tmp y)) {ao : Option Addr} {b of len cap : Nat} (hao : ao = some ⟨b, of, none⟩) (k : Nat) (hk : k < len) : ∀ (ρ : Operand → Value) w, ρ (.tmp x) = .slice ao len cap → ρ (.tmp y) = .int .i64 (k : Int) → (execOp ρ o).run Try.prog w = .ok (.value (.pointer (some ⟨b, of + k, none⟩))) w := by
  intro ρ w h0 h1
  subst hao
  have hk' : (k : Int) < (len : Int) := by omega
  simp [execOp, ho, h0, h1, go_sem, hk, hk', add_of]
theorem load8 {o : Oper} {x : Tmp} (ho : o.op = .load 5 (.tmp x)) {a : Addr} {c : UInt8} (ρ : Operand → Value) {w : World} (hc : w.cell? a = some (.int .u8 (c.toNat : Int))) (h0 : ρ (.tmp x) = .pointer (some a)) : (execOp ρ o).run Try.prog w = .ok (.value (.int .u8 (c.toNat : Int))) w := by
  simp [execOp, ho, h0, go_sem, hc]

/-- P5.1, for any two numbers -/
def comI (l : Bs) (i k : Int) : Nat := if i < 0 ∨ k < 0 ∨ (l.length : Int) ≤ i ∨ (l.length : Int) ≤ k then 0 else com l i.toNat k.toNat

set_option maxHeartbeats 4000000 in
theorem refCommon_any (ao : Option Addr) (len cap : Nat) (l : Bs) (i k : Int) (w : World) (hV : View w (fun k => k < w.heap.size) ao l) (hn : l.length = len) (hb : len ≤ 100000000) :
    Calls Try.prog 31 #[.slice ao len cap, .int .i64 i, .int .i64 k] w fun e w' => e = .returned (.int .i64 (comI l i k : Nat)) ∧ Below w.heap.size w w' := by
  have HN := Lib.hid hn
  have HV := Lib.hid hV
  clear hn hV
  obtain ⟨R, hR⟩ : ∃ r, r = comI l i k := ⟨_, rfl⟩
  rw [← hR]
  by_cases hi0 : i < 0
  · have h0 : R = 0 := by rw [hR]; unfold comI; rw [if_pos (by omega)]
    subst h0
    clear hR
    go_enter Try.func31, Try.ntmps31
    go_wp2
    go_ret
    exact ⟨rfl, Below.refl _ _⟩
  by_cases hk0 : k < 0
  · have h0 : R = 0 := by rw [hR]; unfold comI; rw [if_pos (by omega)]
    subst h0
    clear hR
    go_enter Try.func31, Try.ntmps31
    go_wp2
    go_ret
    exact ⟨rfl, Below.refl _ _⟩
  obtain ⟨i, rfl⟩ := Int.eq_ofNat_of_zero_le (show 0 ≤ i by omega)
  obtain ⟨k, rfl⟩ := Int.eq_ofNat_of_zero_le (show 0 ≤ k by omega)
  by_cases hil : i < len
  · by_cases hkl : k < len
    · have hRc : R = com l i k := by rw [hR]; unfold comI; rw [if_neg (by have := HN.out; omega)]; rfl
      have HR := Lib.hid hRc
      obtain ⟨b, o, hao, _, _, _⟩ := vat HV.out (k := i) (by rw [HN.out]; exact hil)
      have HAO := Lib.hid hao
      have HBYTE : Hid (∀ wx j, Below w.heap.size w wx → j < len → wx.cell? ⟨b, o + j, none⟩ = some (.int .u8 ((by' l j).toNat : Int))) := by
        intro wx j hwx hj
        obtain ⟨b', o', h1, _, _, h2⟩ := vat (View.below HV.out hwx) (k := j) (by rw [HN.out]; exact hj)
        rw [HAO.out] at h1
        cases h1
        exact h2
      clear hR hRc hao hi0 hk0
      go_enter Try.func31, Try.ntmps31
      go_wp2
      go_loopw [7] (fun v wr => ∃ n : Nat, n ≤ 130 ∧ v = .int .i64 (n : Int) ∧ Below w.heap.size w wr ∧ cnt l i k (130 - n) n = R) (fun v _ => 131 - (intOf v).toNat)
      case atStart => exact ⟨0, Nat.zero_le _, rfl, Below.refl _ _, HR.out.symm⟩
      case round =>
        obtain ⟨n, hn130, rfl, hbel, hcnt⟩ := hrel
        have HB := Lib.hid hbel
        have HCNT := Lib.hid hcnt
        clear hbel hcnt
        obtain ⟨ni, hni⟩ : ∃ q, q = i + n := ⟨_, rfl⟩
        obtain ⟨nk, hnk⟩ : ∃ q, q = k + n := ⟨_, rfl⟩
        have HNI := Lib.hid hni
        have HNK := Lib.hid hnk
        by_cases h130 : n = 130
        · have H27 : Hid (decide ((n : Int) < 130) = false) := by show decide ((n : Int) < 130) = false; simp; omega
          have HEND : Hid (R = n) := by show R = n; rw [← HCNT.out, h130]; rfl
          clear hni hnk
          go_wp2
          refine wp_lax_list (by kernel_rfl) (by kernel_rfl) (by kernel_rfl) ?_
          refine wpL_move (.int .i64 (n : Int)) rfl (by kernel_rfl) (by kernel_rfl) (by kernel_rfl) (by kernel_rfl) ?_
          refine wpL_run1 (x := .tmp 26) (.int .i64 (n : Int)) (.bool false) (by kernel_rfl) (by kernel_rfl) (by kernel_rfl) (by kernel_rfl) (by kernel_rfl) (fun wx ρ hwx h0 hc => lss2 rfl _ _ H27.out ρ wx h0 (hc _)) ?_
          refine wpL_move (.bool false) rfl (by kernel_rfl) (by kernel_rfl) (by kernel_rfl) (by kernel_rfl) ?_
          refine wpL_skip (by kernel_rfl) (by kernel_rfl) ?_
          refine wpL_skip (by kernel_rfl) (by kernel_rfl) ?_
          refine wpL_skip (by kernel_rfl) (by kernel_rfl) ?_
          refine wpL_skip (by kernel_rfl) (by kernel_rfl) ?_
          refine wpL_skip (by kernel_rfl) (by kernel_rfl) ?_
          refine wpL_skip (by kernel_rfl) (by kernel_rfl) ?_
          refine wpL_run1 (x := .tmp 28) (.bool false) (.bool false) (by kernel_rfl) (by kernel_rfl) (by kernel_rfl) (by kernel_rfl) (by kernel_rfl) (fun wx ρ hwx h0 hc => by simp [go_sem, h0, hc]) ?_
          refine wpL_move (.bool false) rfl (by kernel_rfl) (by kernel_rfl) (by kernel_rfl) (by kernel_rfl) ?_
          refine wpL_skip (by kernel_rfl) (by kernel_rfl) ?_
          refine wpL_skip (by kernel_rfl) (by kernel_rfl) ?_
          refine wpL_skip (by kernel_rfl) (by kernel_rfl) ?_
          refine wpL_skip (by kernel_rfl) (by kernel_rfl) ?_
          refine wpL_skip (by kernel_rfl) (by kernel_rfl) ?_
          refine wpL_skip (by kernel_rfl) (by kernel_rfl) ?_
          refine wpL_run1 (x := .tmp 36) (.bool false) (.bool false) (by kernel_rfl) (by kernel_rfl) (by kernel_rfl) (by kernel_rfl) (by kernel_rfl) (fun wx ρ hwx h0 hc => by simp [go_sem, h0, hc]) ?_
          refine wpL_move (.bool false) rfl (by kernel_rfl) (by kernel_rfl) (by kernel_rfl) (by kernel_rfl) ?_
          refine wpL_skip (by kernel_rfl) (by kernel_rfl) ?_
          refine wpL_skip (by kernel_rfl) (by kernel_rfl) ?_
          refine wpL_skip (by kernel_rfl) (by kernel_rfl) ?_
          refine wpL_skip (by kernel_rfl) (by kernel_rfl) ?_
          refine wpL_skip (by kernel_rfl) (by kernel_rfl) ?_
          refine wpL_skip (by kernel_rfl) (by kernel_rfl) ?_
          refine wpL_skip (by kernel_rfl) (by kernel_rfl) ?_
          refine wpL_skip (by kernel_rfl) (by kernel_rfl) ?_
          refine wpL_skip (by kernel_rfl) (by kernel_rfl) ?_
          refine wpL_skip (by kernel_rfl) (by kernel_rfl) ?_
          refine wpL_skip (by kernel_rfl) (by kernel_rfl) ?_
          refine wpL_skip (by kernel_rfl) (by kernel_rfl) ?_
          refine wpL_skip (by kernel_rfl) (by kernel_rfl) ?_
          refine wpL_run1 (x := .tmp 44) (.bool false) (.bool false) (by kernel_rfl) (by kernel_rfl) (by kernel_rfl) (by kernel_rfl) (by kernel_rfl) (fun wx ρ hwx h0 hc => by simp [go_sem, h0, hc]) ?_
          refine wpL_end (by kernel_rfl) (fun wd hwd => ?_)
          simp only [FinL, setL, List.set_cons_zero, List.set_cons_succ]
          have BZ := Lib.hid (HB.out.trans (hwd.mono HB.out.size))
          clear hwd
          go_wp2
          go_ret
          exact ⟨by rw [HEND.out]; rfl, BZ.out⟩
        · have H27 : Hid (decide ((n : Int) < 130) = true) := by show decide ((n : Int) < 130) = true; simp; omega
          obtain ⟨f, hf⟩ : ∃ f, 130 - n = f + 1 := ⟨129 - n, by omega⟩
          have HSTOP : Hid (¬ (i + n < l.length ∧ k + n < l.length ∧ by' l (i + n) = by' l (k + n)) → R = n) := by
            intro h
            rw [← HCNT.out, hf]
            unfold cnt
            rw [if_neg h]
          by_cases h34 : ni < len
          · have H34 : Hid (decide ((ni : Int) < (len : Int)) = true) := by show decide ((ni : Int) < (len : Int)) = true; simp; omega
            have HLI := Lib.hid h34
            by_cases h42 : nk < len
            · have H42 : Hid (decide ((nk : Int) < (len : Int)) = true) := by show decide ((nk : Int) < (len : Int)) = true; simp; omega
              have HLK := Lib.hid h42
              obtain ⟨c1, hc1⟩ : ∃ c, c = by' l ni := ⟨_, rfl⟩
              obtain ⟨c2, hc2⟩ : ∃ c, c = by' l nk := ⟨_, rfl⟩
              have HC1 : Hid (∀ wx, Below wr.heap.size wr wx → wx.cell? ⟨b, o + ni, none⟩ = some (.int .u8 (c1.toNat : Int))) := fun wx hwx => by rw [hc1]; exact HBYTE.out wx ni (HB.out.trans (hwx.mono HB.out.size)) HLI.out
              have HC2 : Hid (∀ wx, Below wr.heap.size wr wx → wx.cell? ⟨b, o + nk, none⟩ = some (.int .u8 (c2.toNat : Int))) := fun wx hwx => by rw [hc2]; exact HBYTE.out wx nk (HB.out.trans (hwx.mono HB.out.size)) HLK.out
              by_cases h57 : c1 = c2
              · have H57 : Hid (decide (c1 = c2) = true) := decide_eq_true h57
                have HNEXT : Hid (cnt l i k (130 - (n + 1)) (n + 1) = R) := by
                  show cnt l i k (130 - (n + 1)) (n + 1) = R
                  rw [← HCNT.out, hf, show 130 - (n + 1) = f by omega]
                  conv => rhs; unfold cnt
                  rw [if_pos (by rw [HN.out, ← hni, ← hnk, ← hc1, ← hc2]; exact ⟨h34, h42, h57⟩)]
                clear hni hnk hc1 hc2 h57 hf
                go_wp2
                refine wp_lax_list (by kernel_rfl) (by kernel_rfl) (by kernel_rfl) ?_
                refine wpL_move (.int .i64 (n : Int)) rfl (by kernel_rfl) (by kernel_rfl) (by kernel_rfl) (by kernel_rfl) ?_
                refine wpL_run1 (x := .tmp 26) (.int .i64 (n : Int)) (.bool true) (by kernel_rfl) (by kernel_rfl) (by kernel_rfl) (by kernel_rfl) (by kernel_rfl) (fun wx ρ hwx h0 hc => lss2 rfl _ _ H27.out ρ wx h0 (hc _)) ?_
                refine wpL_move (.bool true) rfl (by kernel_rfl) (by kernel_rfl) (by kernel_rfl) (by kernel_rfl) ?_
                refine wpL_move (.int .i64 (i : Int)) rfl (by kernel_rfl) (by kernel_rfl) (by kernel_rfl) (by kernel_rfl) ?_
                refine wpL_move (.int .i64 (n : Int)) rfl (by kernel_rfl) (by kernel_rfl) (by kernel_rfl) (by kernel_rfl) ?_
                refine wpL_run2 (x := .tmp 29) (y := .tmp 30) (.int .i64 (i : Int)) (.int .i64 (n : Int)) (.int .i64 (ni : Int)) (by kernel_rfl) (by kernel_rfl) (by kernel_rfl) (by kernel_rfl) (by kernel_rfl) (by kernel_rfl) (fun wx ρ hwx h0 h1 hc => add_two rfl i n (by omega) HNI.out ρ wx h0 h1) ?_
                refine wpL_move (.slice ao len cap) rfl (by kernel_rfl) (by kernel_rfl) (by kernel_rfl) (by kernel_rfl) ?_
                refine wpL_run1 (x := .tmp 32) (.slice ao len cap) (.int .i64 (len : Int)) (by kernel_rfl) (by kernel_rfl) (by kernel_rfl) (by kernel_rfl) (by kernel_rfl) (fun wx ρ hwx h0 hc => by simp [go_sem, h0, hc]) ?_
                refine wpL_run2 (x := .tmp 31) (y := .tmp 33) (.int .i64 (ni : Int)) (.int .i64 (len : Int)) (.bool true) (by kernel_rfl) (by kernel_rfl) (by kernel_rfl) (by kernel_rfl) (by kernel_rfl) (by kernel_rfl) (fun wx ρ hwx h0 h1 hc => lss2 rfl _ _ H34.out ρ wx h0 h1) ?_
                refine wpL_run2 (x := .tmp 28) (y := .tmp 34) (.bool true) (.bool true) (.bool true) (by kernel_rfl) (by kernel_rfl) (by kernel_rfl) (by kernel_rfl) (by kernel_rfl) (by kernel_rfl) (fun wx ρ hwx h0 h1 hc => by simp [go_sem, h0, h1]) ?_
                refine wpL_move (.bool true) rfl (by kernel_rfl) (by kernel_rfl) (by kernel_rfl) (by kernel_rfl) ?_
                refine wpL_move (.int .i64 (k : Int)) rfl (by kernel_rfl) (by kernel_rfl) (by kernel_rfl) (by kernel_rfl) ?_
                refine wpL_move (.int .i64 (n : Int)) rfl (by kernel_rfl) (by kernel_rfl) (by kernel_rfl) (by kernel_rfl) ?_
                refine wpL_run2 (x := .tmp 37) (y := .tmp 38) (.int .i64 (k : Int)) (.int .i64 (n : Int)) (.int .i64 (nk : Int)) (by kernel_rfl) (by kernel_rfl) (by kernel_rfl) (by kernel_rfl) (by kernel_rfl) (by kernel_rfl) (fun wx ρ hwx h0 h1 hc => add_two rfl k n (by omega) HNK.out ρ wx h0 h1) ?_
                refine wpL_move (.slice ao len cap) rfl (by kernel_rfl) (by kernel_rfl) (by kernel_rfl) (by kernel_rfl) ?_
                refine wpL_run1 (x := .tmp 40) (.slice ao len cap) (.int .i64 (len : Int)) (by kernel_rfl) (by kernel_rfl) (by kernel_rfl) (by kernel_rfl) (by kernel_rfl) (fun wx ρ hwx h0 hc => by simp [go_sem, h0, hc]) ?_
                refine wpL_run2 (x := .tmp 39) (y := .tmp 41) (.int .i64 (nk : Int)) (.int .i64 (len : Int)) (.bool true) (by kernel_rfl) (by kernel_rfl) (by kernel_rfl) (by kernel_rfl) (by kernel_rfl) (by kernel_rfl) (fun wx ρ hwx h0 h1 hc => lss2 rfl _ _ H42.out ρ wx h0 h1) ?_
                refine wpL_run2 (x := .tmp 36) (y := .tmp 42) (.bool true) (.bool true) (.bool true) (by kernel_rfl) (by kernel_rfl) (by kernel_rfl) (by kernel_rfl) (by kernel_rfl) (by kernel_rfl) (fun wx ρ hwx h0 h1 hc => by simp [go_sem, h0, h1]) ?_
                refine wpL_move (.bool true) rfl (by kernel_rfl) (by kernel_rfl) (by kernel_rfl) (by kernel_rfl) ?_
                refine wpL_move (.slice ao len cap) rfl (by kernel_rfl) (by kernel_rfl) (by kernel_rfl) (by kernel_rfl) ?_
                refine wpL_move (.int .i64 (i : Int)) rfl (by kernel_rfl) (by kernel_rfl) (by kernel_rfl) (by kernel_rfl) ?_
                refine wpL_move (.int .i64 (n : Int)) rfl (by kernel_rfl) (by kernel_rfl) (by kernel_rfl) (by kernel_rfl) ?_
                refine wpL_run2 (x := .tmp 46) (y := .tmp 47) (.int .i64 (i : Int)) (.int .i64 (n : Int)) (.int .i64 (ni : Int)) (by kernel_rfl) (by kernel_rfl) (by kernel_rfl) (by kernel_rfl) (by kernel_rfl) (by kernel_rfl) (fun wx ρ hwx h0 h1 hc => add_two rfl i n (by omega) HNI.out ρ wx h0 h1) ?_
                refine wpL_run2 (x := .tmp 45) (y := .tmp 48) (.slice ao len cap) (.int .i64 (ni : Int)) (.pointer (some ⟨b, o + ni, none⟩)) (by kernel_rfl) (by kernel_rfl) (by kernel_rfl) (by kernel_rfl) (by kernel_rfl) (by kernel_rfl) (fun wx ρ hwx h0 h1 hc => idx_at rfl HAO.out ni HLI.out ρ wx h0 h1) ?_
                refine wpL_run1 (x := .tmp 49) (.pointer (some ⟨b, o + ni, none⟩)) (.int .u8 (c1.toNat : Int)) (by kernel_rfl) (by kernel_rfl) (by kernel_rfl) (by kernel_rfl) (by kernel_rfl) (fun wx ρ hwx h0 hc => load8 rfl ρ (HC1.out wx hwx) h0) ?_
                refine wpL_move (.slice ao len cap) rfl (by kernel_rfl) (by kernel_rfl) (by kernel_rfl) (by kernel_rfl) ?_
                refine wpL_move (.int .i64 (k : Int)) rfl (by kernel_rfl) (by kernel_rfl) (by kernel_rfl) (by kernel_rfl) ?_
                refine wpL_move (.int .i64 (n : Int)) rfl (by kernel_rfl) (by kernel_rfl) (by kernel_rfl) (by kernel_rfl) ?_
                refine wpL_run2 (x := .tmp 52) (y := .tmp 53) (.int .i64 (k : Int)) (.int .i64 (n : Int)) (.int .i64 (nk : Int)) (by kernel_rfl) (by kernel_rfl) (by kernel_rfl) (by kernel_rfl) (by kernel_rfl) (by kernel_rfl) (fun wx ρ hwx h0 h1 hc => add_two rfl k n (by omega) HNK.out ρ wx h0 h1) ?_
                refine wpL_run2 (x := .tmp 51) (y := .tmp 54) (.slice ao len cap) (.int .i64 (nk : Int)) (.pointer (some ⟨b, o + nk, none⟩)) (by kernel_rfl) (by kernel_rfl) (by kernel_rfl) (by kernel_rfl) (by kernel_rfl) (by kernel_rfl) (fun wx ρ hwx h0 h1 hc => idx_at rfl HAO.out nk HLK.out ρ wx h0 h1) ?_
                refine wpL_run1 (x := .tmp 55) (.pointer (some ⟨b, o + nk, none⟩)) (.int .u8 (c2.toNat : Int)) (by kernel_rfl) (by kernel_rfl) (by kernel_rfl) (by kernel_rfl) (by kernel_rfl) (fun wx ρ hwx h0 hc => load8 rfl ρ (HC2.out wx hwx) h0) ?_
                refine wpL_run2 (x := .tmp 50) (y := .tmp 56) (.int .u8 (c1.toNat : Int)) (.int .u8 (c2.toNat : Int)) (.bool true) (by kernel_rfl) (by kernel_rfl) (by kernel_rfl) (by kernel_rfl) (by kernel_rfl) (by kernel_rfl) (fun wx ρ hwx h0 h1 hc => eql8 rfl c1 c2 H57.out ρ wx h0 h1) ?_
                refine wpL_run2 (x := .tmp 44) (y := .tmp 57) (.bool true) (.bool true) (.bool true) (by kernel_rfl) (by kernel_rfl) (by kernel_rfl) (by kernel_rfl) (by kernel_rfl) (by kernel_rfl) (fun wx ρ hwx h0 h1 hc => by simp [go_sem, h0, h1]) ?_
                refine wpL_end (by kernel_rfl) (fun wd hwd => ?_)
                simp only [FinL, setL, List.set_cons_zero, List.set_cons_succ]
                have BZ := Lib.hid (HB.out.trans (hwd.mono HB.out.size))
                clear hwd
                go_wp2
                go_roundw
                case rel => exact ⟨n + 1, by omega, by go_num, BZ.out, HNEXT.out⟩
                case measure => simp [intOf]; omega
              · have H57 : Hid (decide (c1 = c2) = false) := decide_eq_false h57
                have HEND : Hid (R = n) := HSTOP.out (by rw [← hni, ← hnk, ← hc1, ← hc2]; exact fun h => h57 h.2.2)
                clear hni hnk hc1 hc2 h57 hf
                go_wp2
                refine wp_lax_list (by kernel_rfl) (by kernel_rfl) (by kernel_rfl) ?_
                refine wpL_move (.int .i64 (n : Int)) rfl (by kernel_rfl) (by kernel_rfl) (by kernel_rfl) (by kernel_rfl) ?_
                refine wpL_run1 (x := .tmp 26) (.int .i64 (n : Int)) (.bool true) (by kernel_rfl) (by kernel_rfl) (by kernel_rfl) (by kernel_rfl) (by kernel_rfl) (fun wx ρ hwx h0 hc => lss2 rfl _ _ H27.out ρ wx h0 (hc _)) ?_
                refine wpL_move (.bool true) rfl (by kernel_rfl) (by kernel_rfl) (by kernel_rfl) (by kernel_rfl) ?_
                refine wpL_move (.int .i64 (i : Int)) rfl (by kernel_rfl) (by kernel_rfl) (by kernel_rfl) (by kernel_rfl) ?_
                refine wpL_move (.int .i64 (n : Int)) rfl (by kernel_rfl) (by kernel_rfl) (by kernel_rfl) (by kernel_rfl) ?_
                refine wpL_run2 (x := .tmp 29) (y := .tmp 30) (.int .i64 (i : Int)) (.int .i64 (n : Int)) (.int .i64 (ni : Int)) (by kernel_rfl) (by kernel_rfl) (by kernel_rfl) (by kernel_rfl) (by kernel_rfl) (by kernel_rfl) (fun wx ρ hwx h0 h1 hc => add_two rfl i n (by omega) HNI.out ρ wx h0 h1) ?_
                refine wpL_move (.slice ao len cap) rfl (by kernel_rfl) (by kernel_rfl) (by kernel_rfl) (by kernel_rfl) ?_
                refine wpL_run1 (x := .tmp 32) (.slice ao len cap) (.int .i64 (len : Int)) (by kernel_rfl) (by kernel_rfl) (by kernel_rfl) (by kernel_rfl) (by kernel_rfl) (fun wx ρ hwx h0 hc => by simp [go_sem, h0, hc]) ?_
                refine wpL_run2 (x := .tmp 31) (y := .tmp 33) (.int .i64 (ni : Int)) (.int .i64 (len : Int)) (.bool true) (by kernel_rfl) (by kernel_rfl) (by kernel_rfl) (by kernel_rfl) (by kernel_rfl) (by kernel_rfl) (fun wx ρ hwx h0 h1 hc => lss2 rfl _ _ H34.out ρ wx h0 h1) ?_
                refine wpL_run2 (x := .tmp 28) (y := .tmp 34) (.bool true) (.bool true) (.bool true) (by kernel_rfl) (by kernel_rfl) (by kernel_rfl) (by kernel_rfl) (by kernel_rfl) (by kernel_rfl) (fun wx ρ hwx h0 h1 hc => by simp [go_sem, h0, h1]) ?_
                refine wpL_move (.bool true) rfl (by kernel_rfl) (by kernel_rfl) (by kernel_rfl) (by kernel_rfl) ?_
                refine wpL_move (.int .i64 (k : Int)) rfl (by kernel_rfl) (by kernel_rfl) (by kernel_rfl) (by kernel_rfl) ?_
                refine wpL_move (.int .i64 (n : Int)) rfl (by kernel_rfl) (by kernel_rfl) (by kernel_rfl) (by kernel_rfl) ?_
                refine wpL_run2 (x := .tmp 37) (y := .tmp 38) (.int .i64 (k : Int)) (.int .i64 (n : Int)) (.int .i64 (nk : Int)) (by kernel_rfl) (by kernel_rfl) (by kernel_rfl) (by kernel_rfl) (by kernel_rfl) (by kernel_rfl) (fun wx ρ hwx h0 h1 hc => add_two rfl k n (by omega) HNK.out ρ wx h0 h1) ?_
                refine wpL_move (.slice ao len cap) rfl (by kernel_rfl) (by kernel_rfl) (by kernel_rfl) (by kernel_rfl) ?_
                refine wpL_run1 (x := .tmp 40) (.slice ao len cap) (.int .i64 (len : Int)) (by kernel_rfl) (by kernel_rfl) (by kernel_rfl) (by kernel_rfl) (by kernel_rfl) (fun wx ρ hwx h0 hc => by simp [go_sem, h0, hc]) ?_
                refine wpL_run2 (x := .tmp 39) (y := .tmp 41) (.int .i64 (nk : Int)) (.int .i64 (len : Int)) (.bool true) (by kernel_rfl) (by kernel_rfl) (by kernel_rfl) (by kernel_rfl) (by kernel_rfl) (by kernel_rfl) (fun wx ρ hwx h0 h1 hc => lss2 rfl _ _ H42.out ρ wx h0 h1) ?_
                refine wpL_run2 (x := .tmp 36) (y := .tmp 42) (.bool true) (.bool true) (.bool true) (by kernel_rfl) (by kernel_rfl) (by kernel_rfl) (by kernel_rfl) (by kernel_rfl) (by kernel_rfl) (fun wx ρ hwx h0 h1 hc => by simp [go_sem, h0, h1]) ?_
                refine wpL_move (.bool true) rfl (by kernel_rfl) (by kernel_rfl) (by kernel_rfl) (by kernel_rfl) ?_
                refine wpL_move (.slice ao len cap) rfl (by kernel_rfl) (by kernel_rfl) (by kernel_rfl) (by kernel_rfl) ?_
                refine wpL_move (.int .i64 (i : Int)) rfl (by kernel_rfl) (by kernel_rfl) (by kernel_rfl) (by kernel_rfl) ?_
                refine wpL_move (.int .i64 (n : Int)) rfl (by kernel_rfl) (by kernel_rfl) (by kernel_rfl) (by kernel_rfl) ?_
                refine wpL_run2 (x := .tmp 46) (y := .tmp 47) (.int .i64 (i : Int)) (.int .i64 (n : Int)) (.int .i64 (ni : Int)) (by kernel_rfl) (by kernel_rfl) (by kernel_rfl) (by kernel_rfl) (by kernel_rfl) (by kernel_rfl) (fun wx ρ hwx h0 h1 hc => add_two rfl i n (by omega) HNI.out ρ wx h0 h1) ?_
                refine wpL_run2 (x := .tmp 45) (y := .tmp 48) (.slice ao len cap) (.int .i64 (ni : Int)) (.pointer (some ⟨b, o + ni, none⟩)) (by kernel_rfl) (by kernel_rfl) (by kernel_rfl) (by kernel_rfl) (by kernel_rfl) (by kernel_rfl) (fun wx ρ hwx h0 h1 hc => idx_at rfl HAO.out ni HLI.out ρ wx h0 h1) ?_
                refine wpL_run1 (x := .tmp 49) (.pointer (some ⟨b, o + ni, none⟩)) (.int .u8 (c1.toNat : Int)) (by kernel_rfl) (by kernel_rfl) (by kernel_rfl) (by kernel_rfl) (by kernel_rfl) (fun wx ρ hwx h0 hc => load8 rfl ρ (HC1.out wx hwx) h0) ?_
                refine wpL_move (.slice ao len cap) rfl (by kernel_rfl) (by kernel_rfl) (by kernel_rfl) (by kernel_rfl) ?_
                refine wpL_move (.int .i64 (k : Int)) rfl (by kernel_rfl) (by kernel_rfl) (by kernel_rfl) (by kernel_rfl) ?_
                refine wpL_move (.int .i64 (n : Int)) rfl (by kernel_rfl) (by kernel_rfl) (by kernel_rfl) (by kernel_rfl) ?_
                refine wpL_run2 (x := .tmp 52) (y := .tmp 53) (.int .i64 (k : Int)) (.int .i64 (n : Int)) (.int .i64 (nk : Int)) (by kernel_rfl) (by kernel_rfl) (by kernel_rfl) (by kernel_rfl) (by kernel_rfl) (by kernel_rfl) (fun wx ρ hwx h0 h1 hc => add_two rfl k n (by omega) HNK.out ρ wx h0 h1) ?_
                refine wpL_run2 (x := .tmp 51) (y := .tmp 54) (.slice ao len cap) (.int .i64 (nk : Int)) (.pointer (some ⟨b, o + nk, none⟩)) (by kernel_rfl) (by kernel_rfl) (by kernel_rfl) (by kernel_rfl) (by kernel_rfl) (by kernel_rfl) (fun wx ρ hwx h0 h1 hc => idx_at rfl HAO.out nk HLK.out ρ wx h0 h1) ?_
                refine wpL_run1 (x := .tmp 55) (.pointer (some ⟨b, o + nk, none⟩)) (.int .u8 (c2.toNat : Int)) (by kernel_rfl) (by kernel_rfl) (by kernel_rfl) (by kernel_rfl) (by kernel_rfl) (fun wx ρ hwx h0 hc => load8 rfl ρ (HC2.out wx hwx) h0) ?_
                refine wpL_run2 (x := .tmp 50) (y := .tmp 56) (.int .u8 (c1.toNat : Int)) (.int .u8 (c2.toNat : Int)) (.bool false) (by kernel_rfl) (by kernel_rfl) (by kernel_rfl) (by kernel_rfl) (by kernel_rfl) (by kernel_rfl) (fun wx ρ hwx h0 h1 hc => eql8 rfl c1 c2 H57.out ρ wx h0 h1) ?_
                refine wpL_run2 (x := .tmp 44) (y := .tmp 57) (.bool true) (.bool false) (.bool false) (by kernel_rfl) (by kernel_rfl) (by kernel_rfl) (by kernel_rfl) (by kernel_rfl) (by kernel_rfl) (fun wx ρ hwx h0 h1 hc => by simp [go_sem, h0, h1]) ?_
                refine wpL_end (by kernel_rfl) (fun wd hwd => ?_)
                simp only [FinL, setL, List.set_cons_zero, List.set_cons_succ]
                have BZ := Lib.hid (HB.out.trans (hwd.mono HB.out.size))
                clear hwd
                go_wp2
                go_ret
                exact ⟨by rw [HEND.out]; rfl, BZ.out⟩
            · have H42 : Hid (decide ((nk : Int) < (len : Int)) = false) := by show decide ((nk : Int) < (len : Int)) = false; simp; omega
              have HEND : Hid (R = n) := HSTOP.out (by rw [HN.out]; omega)
              clear hni hnk hf
              go_wp2
              refine wp_lax_list (by kernel_rfl) (by kernel_rfl) (by kernel_rfl) ?_
              refine wpL_move (.int .i64 (n : Int)) rfl (by kernel_rfl) (by kernel_rfl) (by kernel_rfl) (by kernel_rfl) ?_
              refine wpL_run1 (x := .tmp 26) (.int .i64 (n : Int)) (.bool true) (by kernel_rfl) (by kernel_rfl) (by kernel_rfl) (by kernel_rfl) (by kernel_rfl) (fun wx ρ hwx h0 hc => lss2 rfl _ _ H27.out ρ wx h0 (hc _)) ?_
              refine wpL_move (.bool true) rfl (by kernel_rfl) (by kernel_rfl) (by kernel_rfl) (by kernel_rfl) ?_
              refine wpL_move (.int .i64 (i : Int)) rfl (by kernel_rfl) (by kernel_rfl) (by kernel_rfl) (by kernel_rfl) ?_
              refine wpL_move (.int .i64 (n : Int)) rfl (by kernel_rfl) (by kernel_rfl) (by kernel_rfl) (by kernel_rfl) ?_
              refine wpL_run2 (x := .tmp 29) (y := .tmp 30) (.int .i64 (i : Int)) (.int .i64 (n : Int)) (.int .i64 (ni : Int)) (by kernel_rfl) (by kernel_rfl) (by kernel_rfl) (by kernel_rfl) (by kernel_rfl) (by kernel_rfl) (fun wx ρ hwx h0 h1 hc => add_two rfl i n (by omega) HNI.out ρ wx h0 h1) ?_
              refine wpL_move (.slice ao len cap) rfl (by kernel_rfl) (by kernel_rfl) (by kernel_rfl) (by kernel_rfl) ?_
              refine wpL_run1 (x := .tmp 32) (.slice ao len cap) (.int .i64 (len : Int)) (by kernel_rfl) (by kernel_rfl) (by kernel_rfl) (by kernel_rfl) (by kernel_rfl) (fun wx ρ hwx h0 hc => by simp [go_sem, h0, hc]) ?_
              refine wpL_run2 (x := .tmp 31) (y := .tmp 33) (.int .i64 (ni : Int)) (.int .i64 (len : Int)) (.bool true) (by kernel_rfl) (by kernel_rfl) (by kernel_rfl) (by kernel_rfl) (by kernel_rfl) (by kernel_rfl) (fun wx ρ hwx h0 h1 hc => lss2 rfl _ _ H34.out ρ wx h0 h1) ?_
              refine wpL_run2 (x := .tmp 28) (y := .tmp 34) (.bool true) (.bool true) (.bool true) (by kernel_rfl) (by kernel_rfl) (by kernel_rfl) (by kernel_rfl) (by kernel_rfl) (by kernel_rfl) (fun wx ρ hwx h0 h1 hc => by simp [go_sem, h0, h1]) ?_
              refine wpL_move (.bool true) rfl (by kernel_rfl) (by kernel_rfl) (by kernel_rfl) (by kernel_rfl) ?_
              refine wpL_move (.int .i64 (k : Int)) rfl (by kernel_rfl) (by kernel_rfl) (by kernel_rfl) (by kernel_rfl) ?_
              refine wpL_move (.int .i64 (n : Int)) rfl (by kernel_rfl) (by kernel_rfl) (by kernel_rfl) (by kernel_rfl) ?_
              refine wpL_run2 (x := .tmp 37) (y := .tmp 38) (.int .i64 (k : Int)) (.int .i64 (n : Int)) (.int .i64 (nk : Int)) (by kernel_rfl) (by kernel_rfl) (by kernel_rfl) (by kernel_rfl) (by kernel_rfl) (by kernel_rfl) (fun wx ρ hwx h0 h1 hc => add_two rfl k n (by omega) HNK.out ρ wx h0 h1) ?_
              refine wpL_move (.slice ao len cap) rfl (by kernel_rfl) (by kernel_rfl) (by kernel_rfl) (by kernel_rfl) ?_
              refine wpL_run1 (x := .tmp 40) (.slice ao len cap) (.int .i64 (len : Int)) (by kernel_rfl) (by kernel_rfl) (by kernel_rfl) (by kernel_rfl) (by kernel_rfl) (fun wx ρ hwx h0 hc => by simp [go_sem, h0, hc]) ?_
              refine wpL_run2 (x := .tmp 39) (y := .tmp 41) (.int .i64 (nk : Int)) (.int .i64 (len : Int)) (.bool false) (by kernel_rfl) (by kernel_rfl) (by kernel_rfl) (by kernel_rfl) (by kernel_rfl) (by kernel_rfl) (fun wx ρ hwx h0 h1 hc => lss2 rfl _ _ H42.out ρ wx h0 h1) ?_
              refine wpL_run2 (x := .tmp 36) (y := .tmp 42) (.bool true) (.bool false) (.bool false) (by kernel_rfl) (by kernel_rfl) (by kernel_rfl) (by kernel_rfl) (by kernel_rfl) (by kernel_rfl) (fun wx ρ hwx h0 h1 hc => by simp [go_sem, h0, h1]) ?_
              refine wpL_move (.bool false) rfl (by kernel_rfl) (by kernel_rfl) (by kernel_rfl) (by kernel_rfl) ?_
              refine wpL_skip (by kernel_rfl) (by kernel_rfl) ?_
              refine wpL_skip (by kernel_rfl) (by kernel_rfl) ?_
              refine wpL_skip (by kernel_rfl) (by kernel_rfl) ?_
              refine wpL_skip (by kernel_rfl) (by kernel_rfl) ?_
              refine wpL_skip (by kernel_rfl) (by kernel_rfl) ?_
              refine wpL_skip (by kernel_rfl) (by kernel_rfl) ?_
              refine wpL_skip (by kernel_rfl) (by kernel_rfl) ?_
              refine wpL_skip (by kernel_rfl) (by kernel_rfl) ?_
              refine wpL_skip (by kernel_rfl) (by kernel_rfl) ?_
              refine wpL_skip (by kernel_rfl) (by kernel_rfl) ?_
              refine wpL_skip (by kernel_rfl) (by kernel_rfl) ?_
              refine wpL_skip (by kernel_rfl) (by kernel_rfl) ?_
              refine wpL_skip (by kernel_rfl) (by kernel_rfl) ?_
              refine wpL_run1 (x := .tmp 44) (.bool false) (.bool false) (by kernel_rfl) (by kernel_rfl) (by kernel_rfl) (by kernel_rfl) (by kernel_rfl) (fun wx ρ hwx h0 hc => by simp [go_sem, h0, hc]) ?_
              refine wpL_end (by kernel_rfl) (fun wd hwd => ?_)
              simp only [FinL, setL, List.set_cons_zero, List.set_cons_succ]
              have BZ := Lib.hid (HB.out.trans (hwd.mono HB.out.size))
              clear hwd
              go_wp2
              go_ret
              exact ⟨by rw [HEND.out]; rfl, BZ.out⟩
          · have H34 : Hid (decide ((ni : Int) < (len : Int)) = false) := by show decide ((ni : Int) < (len : Int)) = false; simp; omega
            have HEND : Hid (R = n) := HSTOP.out (by rw [HN.out]; omega)
            clear hni hnk hf
            go_wp2
            refine wp_lax_list (by kernel_rfl) (by kernel_rfl) (by kernel_rfl) ?_
            refine wpL_move (.int .i64 (n : Int)) rfl (by kernel_rfl) (by kernel_rfl) (by kernel_rfl) (by kernel_rfl) ?_
            refine wpL_run1 (x := .tmp 26) (.int .i64 (n : Int)) (.bool true) (by kernel_rfl) (by kernel_rfl) (by kernel_rfl) (by kernel_rfl) (by kernel_rfl) (fun wx ρ hwx h0 hc => lss2 rfl _ _ H27.out ρ wx h0 (hc _)) ?_
            refine wpL_move (.bool true) rfl (by kernel_rfl) (by kernel_rfl) (by kernel_rfl) (by kernel_rfl) ?_
            refine wpL_move (.int .i64 (i : Int)) rfl (by kernel_rfl) (by kernel_rfl) (by kernel_rfl) (by kernel_rfl) ?_
            refine wpL_move (.int .i64 (n : Int)) rfl (by kernel_rfl) (by kernel_rfl) (by kernel_rfl) (by kernel_rfl) ?_
            refine wpL_run2 (x := .tmp 29) (y := .tmp 30) (.int .i64 (i : Int)) (.int .i64 (n : Int)) (.int .i64 (ni : Int)) (by kernel_rfl) (by kernel_rfl) (by kernel_rfl) (by kernel_rfl) (by kernel_rfl) (by kernel_rfl) (fun wx ρ hwx h0 h1 hc => add_two rfl i n (by omega) HNI.out ρ wx h0 h1) ?_
            refine wpL_move (.slice ao len cap) rfl (by kernel_rfl) (by kernel_rfl) (by kernel_rfl) (by kernel_rfl) ?_
            refine wpL_run1 (x := .tmp 32) (.slice ao len cap) (.int .i64 (len : Int)) (by kernel_rfl) (by kernel_rfl) (by kernel_rfl) (by kernel_rfl) (by kernel_rfl) (fun wx ρ hwx h0 hc => by simp [go_sem, h0, hc]) ?_
            refine wpL_run2 (x := .tmp 31) (y := .tmp 33) (.int .i64 (ni : Int)) (.int .i64 (len : Int)) (.bool false) (by kernel_rfl) (by kernel_rfl) (by kernel_rfl) (by kernel_rfl) (by kernel_rfl) (by kernel_rfl) (fun wx ρ hwx h0 h1 hc => lss2 rfl _ _ H34.out ρ wx h0 h1) ?_
            refine wpL_run2 (x := .tmp 28) (y := .tmp 34) (.bool true) (.bool false) (.bool false) (by kernel_rfl) (by kernel_rfl) (by kernel_rfl) (by kernel_rfl) (by kernel_rfl) (by kernel_rfl) (fun wx ρ hwx h0 h1 hc => by simp [go_sem, h0, h1]) ?_
            refine wpL_move (.bool false) rfl (by kernel_rfl) (by kernel_rfl) (by kernel_rfl) (by kernel_rfl) ?_
            refine wpL_skip (by kernel_rfl) (by kernel_rfl) ?_
            refine wpL_skip (by kernel_rfl) (by kernel_rfl) ?_
            refine wpL_skip (by kernel_rfl) (by kernel_rfl) ?_
            refine wpL_skip (by kernel_rfl) (by kernel_rfl) ?_
            refine wpL_skip (by kernel_rfl) (by kernel_rfl) ?_
            refine wpL_skip (by kernel_rfl) (by kernel_rfl) ?_
            refine wpL_run1 (x := .tmp 36) (.bool false) (.bool false) (by kernel_rfl) (by kernel_rfl) (by kernel_rfl) (by kernel_rfl) (by kernel_rfl) (fun wx ρ hwx h0 hc => by simp [go_sem, h0, hc]) ?_
            refine wpL_move (.bool false) rfl (by kernel_rfl) (by kernel_rfl) (by kernel_rfl) (by kernel_rfl) ?_
            refine wpL_skip (by kernel_rfl) (by kernel_rfl) ?_
            refine wpL_skip (by kernel_rfl) (by kernel_rfl) ?_
            refine wpL_skip (by kernel_rfl) (by kernel_rfl) ?_
            refine wpL_skip (by kernel_rfl) (by kernel_rfl) ?_
            refine wpL_skip (by kernel_rfl) (by kernel_rfl) ?_
            refine wpL_skip (by kernel_rfl) (by kernel_rfl) ?_
            refine wpL_skip (by kernel_rfl) (by kernel_rfl) ?_
            refine wpL_skip (by kernel_rfl) (by kernel_rfl) ?_
            refine wpL_skip (by kernel_rfl) (by kernel_rfl) ?_
            refine wpL_skip (by kernel_rfl) (by kernel_rfl) ?_
            refine wpL_skip (by kernel_rfl) (by kernel_rfl) ?_
            refine wpL_skip (by kernel_rfl) (by kernel_rfl) ?_
            refine wpL_skip (by kernel_rfl) (by kernel_rfl) ?_
            refine wpL_run1 (x := .tmp 44) (.bool false) (.bool false) (by kernel_rfl) (by kernel_rfl) (by kernel_rfl) (by kernel_rfl) (by kernel_rfl) (fun wx ρ hwx h0 hc => by simp [go_sem, h0, hc]) ?_
            refine wpL_end (by kernel_rfl) (fun wd hwd => ?_)
            simp only [FinL, setL, List.set_cons_zero, List.set_cons_succ]
            have BZ := Lib.hid (HB.out.trans (hwd.mono HB.out.size))
            clear hwd
            go_wp2
            go_ret
            exact ⟨by rw [HEND.out]; rfl, BZ.out⟩
    · have h0 : R = 0 := by rw [hR]; unfold comI; rw [if_pos (by have := HN.out; omega)]
      subst h0
      clear hR
      go_enter Try.func31, Try.ntmps31
      go_wp2
      go_ret
      exact ⟨rfl, Below.refl _ _⟩
  · have h0 : R = 0 := by rw [hR]; unfold comI; rw [if_pos (by have := HN.out; omega)]
    subst h0
    clear hR
    go_enter Try.func31, Try.ntmps31
    go_wp2
    go_ret
    exact ⟨rfl, Below.refl _ _⟩

end Mat
end Go.Proofs.Ythmnaofmpijbiaa
