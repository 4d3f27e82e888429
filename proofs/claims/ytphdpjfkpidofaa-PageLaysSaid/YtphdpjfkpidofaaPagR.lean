/- Layer 9: values; the document's answer: Lay, Take. -/
import Derived.Test.YtphdpjfkpidofaaPagM
import Derived.Test.YtphdpjfkpidofaaCpy
import Derived.Test.YtphdpjfkpidofaaStrS
import Derived.BigRegion
import Derived.BigQuiet
import Derived.Deep.QuietTactic
import Derived.Lib.Hide
import Derived.Laws.Rows
namespace Go.Proofs.Ytphdpjfkpidofaa
open Go.RowKit Go.Own
namespace Pag
open Go.PagM Byt

abbrev errP (n : Nat) : Value := .int .i64 (n : Int)
/-- a frame as a value -/
abbrev frV (k : Nat) (a z : Bool) (d : Value) : Value := .agg #[.int .u8 (k : Int), .bool a, .bool z, d]
abbrev frC (k : Nat) (a z : Bool) (d : Value) : Array Value := #[.int .u8 (k : Int), .bool a, .bool z, d]
/-- an answer of Lay -/
def LayDone (x : PagM.Bs × Nat) (w : World) (e : Ending) (w' : World) : Prop := ∃ ao cap, e = .returned (.tuple #[.slice ao x.1.length cap, errP x.2]) ∧ Given w' ao x.1.length cap x.1 ∧ Below w.heap.size w w'
/-- .. and its bytes are one's own -/
def LayNew (x : PagM.Bs × Nat) (w : World) (e : Ending) (w' : World) : Prop := ∃ ao cap, e = .returned (.tuple #[.slice ao x.1.length cap, errP x.2]) ∧ Own.St w.heap.size w w' [AB ao x.1.length cap x.1]
theorem LayNew.done {x : PagM.Bs × Nat} {w : World} {e : Ending} {w' : World} (h : LayNew x w e w') : LayDone x w e w' := by
  obtain ⟨ao, cap, he, h⟩ := h
  exact ⟨ao, cap, he, given_own h 0 rfl, h.below⟩
theorem lay_err (x : PagM.Bs × Nat) (k : Nat) (hx : x = ([], k)) {w w' : World} (h : Own.St w.heap.size w w' []) : LayNew x w (.returned (.tuple #[.slice none 0 0, errP k])) w' := by
  subst hx
  exact ⟨none, 0, rfl, ab_nil h⟩

set_option maxRecDepth 6000 in
set_option maxHeartbeats 8000000 in
theorem refLay_new (f : Frm) (ao : Option Addr) (n cap : Nat) (w : World) (hg : Given w ao n cap f.data) (hb : n ≤ 1000000) :
    Calls Try.prog 13 #[frV f.kind.toNat f.first f.last (.slice ao n cap)] w (LayNew (lay f) w) := by
  obtain ⟨kind, first, last, data⟩ := f
  obtain ⟨k, hk⟩ : ∃ k, k = kind.toNat := ⟨_, rfl⟩
  have hk255 : k ≤ 255 := by have := kind.toNat_lt; omega
  simp only at hg ⊢
  rw [← hk]
  have HG := Lib.hid hg
  have HN := Lib.hid hg.size
  obtain ⟨X, hX⟩ : ∃ X, X = lay ⟨kind, first, last, data⟩ := ⟨_, rfl⟩
  rw [← hX]
  clear hg
  by_cases h63 : (63 : Int) < (k : Int)
  · have HX : Hid (X = ([], 1)) := by
      show X = _
      have e : layE ⟨kind, first, last, data⟩ = 1 := by unfold layE; rw [if_pos (by simp only; omega)]
      rw [hX]; unfold lay; rw [e]; rfl
    clear hX hk
    go_enter Try.func13, Try.ntmps13
    go_wp2
    go_ret2
    exact lay_err X 1 HX.out ((Own.St.start w).alloc _)
  by_cases h125 : (125 : Int) < (n : Int)
  · have HX : Hid (X = ([], 4)) := by
      show X = _
      have e : layE ⟨kind, first, last, data⟩ = 4 := by unfold layE; rw [if_neg (by simp only; omega), if_pos (by simp only; rw [HN.out]; omega)]
      rw [hX]; unfold lay; rw [e]; rfl
    clear hX hk
    go_enter Try.func13, Try.ntmps13
    go_wp2
    go_ret2
    exact lay_err X 4 HX.out ((Own.St.start w).alloc _)
  obtain ⟨c, hc⟩ : ∃ c, c = UInt8.ofNat (headN ⟨kind, first, last, data⟩) := ⟨_, rfl⟩
  obtain ⟨q, hq⟩ : ∃ q, q = UInt8.ofNat n := ⟨_, rfl⟩
  have hcn : c.toNat = headN ⟨kind, first, last, data⟩ := by rw [hc, ofNat_toNat _ (headN_lt (by simp only; omega))]
  have hqn : q.toNat = n := by rw [hq, ofNat_toNat _ (by omega)]
  have hqi : (n : Int) = (q.toNat : Int) := by omega
  have HX : Hid (X = (c :: q :: (data ++ (List.replicate (125 - n) 0 ++ [90])), 0)) := by
    show X = _
    rw [hX]
    have h0 : layE ⟨kind, first, last, data⟩ = 0 := layE_ok (by simp only; omega) (by simp only; rw [HN.out]; omega)
    unfold lay
    rw [if_pos h0]
    unfold laid
    rw [hc, hq, HN.out]
  have hn125 : n ≤ 125 := by omega
  have hk63 : k ≤ 63 := by omega
  unfold headN at hcn
  simp only at hcn
  rw [← hk] at hcn
  have HQ := Lib.hid hqn
  clear hX hk hc hq hqn
  have hstart : Own.St w.heap.size w (w.alloc (.cells (frC k first last (.slice ao n cap)) 24)) [] := (Own.St.start w).alloc _
  have H0 := Lib.hid hstart
  have ha := ab_two hstart c q
  simp only [World.size_alloc] at ha
  have HA := Lib.hid ha
  have HC := Lib.hid (vcells (vlater (vlater HG.out.view ((Own.St.start w).alloc (.cells (frC k first last (.slice ao n cap)) 24)).below) ((Own.St.start (w.alloc (.cells (frC k first last (.slice ao n cap)) 24))).alloc (.cells #[.int .u8 (c.toNat : Int), .int .u8 (q.toNat : Int)] 5)).below))
  have HNO := Lib.hid (given_nil HG.out)
  clear hstart ha
  have hc8 : c.toNat ≤ 255 := by have := c.toNat_lt; omega
  have HH : Hid (∀ wx ax cx, Own.St w.heap.size w wx [AB ax (2 + n) cx ([c, q] ++ data)] → Own.St w.heap.size w wx [AB ax (2 + n) cx ([c, q] ++ data ++ List.replicate 0 0)]) := by
    intro wx ax cx h
    rw [List.replicate_zero, List.append_nil]; exact h
  cases first <;> cases last
  all_goals
    simp only [if_true, if_false, Bool.false_eq_true, Nat.add_zero] at hcn
    obtain ⟨c1, hc1⟩ : ∃ c1, c1 = k + 64 := ⟨_, rfl⟩
    have e1 : (k : Int) + 64 = (c1 : Int) := by omega
    have hb1 : c1 ≤ 127 := by omega
    first
    | (have e2 : (c1 : Int) + 128 = (c.toNat : Int) := by omega)
    | (have e2 : (k : Int) + 128 = (c.toNat : Int) := by omega)
    | (have e2 : c1 = c.toNat := by omega
       obtain rfl := e2)
    | (have e2 : k = c.toNat := by omega
       obtain rfl := e2)
    clear hcn hc1
    go_enter Try.func13, Try.ntmps13
    go_wp2_with (at_builtin; refine Byt.wpList_ab_append rfl (.tmp 29) (.tmp 31) rfl HA.out 0 rfl rfl ao n cap data rfl HNO.out HN.out HC.out (by omega) ?_; intro a4 c4 w4 h4; simp only [List.set_cons_zero] at h4; have H4 := Lib.hid (HH.out _ _ _ h4); clear h4)
    clear HA HC HNO H0 HH
    go_loopw [5] (fun v5 wr => ∃ (ax : Option Addr) (m cx j : Nat), v5 = .slice ax m cx ∧ m = 2 + n + j ∧ m ≤ 127 ∧ Own.St w.heap.size w wr [AB ax m cx ([c, q] ++ data ++ List.replicate j 0)]) (fun v5 _ => 127 - lenV v5)
    case atStart => exact ⟨a4, 2 + n, c4, 0, rfl, rfl, by omega, H4.out⟩
    case round =>
      obtain ⟨ax, m, cx, j, rfl, hm, hm127, hG⟩ := hrel
      have G := Lib.hid hG
      have HM := Lib.hid hm
      clear hG H4 hm
      by_cases hlt : (m : Int) < 127
      · have G1 := Lib.hid (G.out.alloc (.cells #[.int .u8 (((0 : UInt8).toNat : Nat) : Int)] 5))
        go_wp2_with (at_builtin; refine Byt.wpList_ab_append rfl (.tmp 36) (.tmp 37) rfl G1.out 0 rfl rfl (some ⟨wr.heap.size, 0, none⟩) 1 1 [0] rfl (by intro h; cases h) rfl (one_cells8 wr 0 _) (by omega) ?_; intro a5 c5 w5 h5; simp only [List.set_cons_zero] at h5; have H5 := Lib.hid h5; clear h5)
        go_roundw
        case rel =>
          refine ⟨a5, m + 1, c5, j + 1, rfl, by have := HM.out; omega, by omega, ?_⟩
          have e : [c, q] ++ data ++ List.replicate (j + 1) 0 = [c, q] ++ data ++ List.replicate j 0 ++ [0] := by rw [List.replicate_succ', ← List.append_assoc]
          rw [e]
          exact H5.out
        case measure => simp only [lenV]; omega
      · have hm7 : m = 127 := by omega
        subst hm7
        have hj : Hid (j = 125 - n) := by show j = _; have := HM.out; omega
        have G1 := Lib.hid (G.out.alloc (.cells #[.int .u8 (((90 : UInt8).toNat : Nat) : Int)] 5))
        go_wp2_with (at_builtin; refine Byt.wpList_ab_append rfl (.tmp 39) (.tmp 40) rfl G1.out 0 rfl rfl (some ⟨wr.heap.size, 0, none⟩) 1 1 [90] rfl (by intro h; cases h) rfl (one_cells8 wr 90 _) (by omega) ?_; intro a5 c5 w5 h5; simp only [List.set_cons_zero] at h5; have H5 := Lib.hid h5; clear h5)
        go_ret2
        have hk : _ = 128 := (ab_len H5.out 0 rfl).1
        have h5 : Own.St w.heap.size w w5 [AB a5 128 c5 _] := H5.out
        have e : [c, q] ++ data ++ List.replicate j 0 ++ [90] = c :: q :: (data ++ (List.replicate (125 - n) 0 ++ [90])) := by rw [hj.out]; simp
        rw [e] at h5 hk
        rw [HX.out]
        refine ⟨a5, c5, ?_, ?_⟩
        · simp only [hk]; rfl
        · simp only [hk]; exact h5
theorem refLay_any (f : Frm) (ao : Option Addr) (n cap : Nat) (w : World) (hg : Given w ao n cap f.data) (hb : n ≤ 1000000) :
    Calls Try.prog 13 #[frV f.kind.toNat f.first f.last (.slice ao n cap)] w (LayDone (lay f) w) := (refLay_new f ao n cap w hg hb).mono fun _ _ h => h.done
end Pag
end Go.Proofs.Ytphdpjfkpidofaa
