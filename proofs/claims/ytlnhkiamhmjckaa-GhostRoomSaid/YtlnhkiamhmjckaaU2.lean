/- Merged: GhoR GhoQ LawGho Acts Bx RecM KeyI LawGhoA LawGhoB MapV LawGhoC GhoI LaxG -/
import Derived.Deep.MidRow
import Derived.WalkKit
import Derived.Laws.StructEq
import Derived.Laws.Cover2
import Derived.Laws.Rows
import Derived.Great.Walk
import Derived.Lib.Hide
import Derived.Maps.Own
import Derived.Maps.Views
import Derived.WideKeyArr
import Derived.Carry
import Derived.Test.YtlnhkiamhmjckaaU1
set_option linter.unusedVariables false
section
namespace Go.Proofs.Ytlnhkiamhmjckaa
open Go.RowKit Go.Own
namespace Gho
open Go.GhoM Byt
abbrev aV (k : Nat) : Value := .int .u32 (k : Int)
abbrev ptr (p : Nat) : Value := .pointer (some ⟨p, 0, none⟩)
abbrev RowU (v : Value) (l : List Nat) (n : Nat) : Asn := ARow 33 1 v n (l.map aV)
def gC (v : Value) (room : Nat) : List Value := [v, .int .i64 (room : Int)]
/-- the document's list -/
def ARefG (p : Nat) (v : Value) (g : G) : Asn := AJoin [AVals p 31 (gC v g.room), RowU v g.L g.L.length]
theorem manyU : Many Try.prog 29 33 1 4 := ⟨Try.underlying29, by kernel_rfl, by decide⟩
theorem aV_one (l : List Nat) : ∀ u ∈ l.map aV, u.oneCell' = true := by
  intro u hu
  obtain ⟨k, _, rfl⟩ := List.mem_map.1 hu
  rfl
theorem cutToU (ao : Option Addr) (m cap k : Nat) (hk : k ≤ m) (hm : m ≤ cap) (hc : cap ≤ maxLen) (hno : ao = none → m = 0 ∧ cap = 0) (o : Oper) (x y : Operand) (ho : o.op = .slice 29 x none (some y) none) (ρ : Operand → Value) (w : World) (h0 : ρ x = .slice ao m cap) (h1 : ρ y = .int .i64 (k : Int)) :
    (execOp ρ o).run Try.prog w = .ok (.value (.slice ao k cap)) w := by
  unfold maxLen at hc
  cases ao with
  | none =>
    obtain ⟨rfl, rfl⟩ := hno rfl
    obtain rfl : k = 0 := by omega
    simp [execOp, ho, h0, h1, go_sem]
  | some a =>
    simp [execOp, ho, h0, h1, go_sem]
    omega
theorem cutFromU (ao : Option Addr) (m cap k : Nat) (hk : k ≤ m) (hm : m ≤ cap) (hc : cap ≤ maxLen) (hno : ao = none → m = 0 ∧ cap = 0) :
    ∃ a' c', (∀ (o : Oper) (x y : Operand), o.op = .slice 29 x (some y) none none → ∀ (ρ : Operand → Value) w, ρ x = .slice ao m cap → ρ y = .int .i64 (k : Int) → (execOp ρ o).run Try.prog w = .ok (.value (.slice a' (m - k) c')) w) ∧
      (a' = none → m - k = 0 ∧ c' = 0) ∧ (∀ (w : World) (xs : List Value), xs.length = m → (∀ g, ao = some ⟨g, 0, none⟩ → ∀ j u, xs[j]? = some u → w.cell? ⟨g, j, none⟩ = some u) → (∀ a, ao = some a → ∃ g, a = ⟨g, 0, none⟩) → ∀ a, a' = some a → ∀ j u, (xs.drop k)[j]? = some u → w.cell? (a.add j) = some u) := by
  have hc0 := hc
  unfold maxLen at hc
  cases ao with
  | none =>
    obtain ⟨rfl, rfl⟩ := hno rfl
    obtain rfl : k = 0 := by omega
    exact ⟨none, 0, fun o x y ho ρ w h0 h1 => by simp [execOp, ho, h0, h1, go_sem], fun _ => ⟨rfl, rfl⟩, fun w xs _ _ _ a h => by cases h⟩
  | some a =>
    by_cases hck : cap = k
    · refine ⟨some a, 0, fun o x y ho ρ w h0 h1 => ?_, (fun h => by cases h), fun w xs hl _ _ a' h j u hu => ?_⟩
      · simp [execOp, ho, h0, h1, go_sem]
        rw [if_pos hk, if_pos hck, hck]; simp
      · rw [List.drop_eq_nil_of_le (by omega)] at hu; simp at hu
    · refine ⟨some (a.add k), cap - k, fun o x y ho ρ w h0 h1 => ?_, (fun h => by cases h), fun w xs hl hcl hg a' h j u hu => ?_⟩
      · simp [execOp, ho, h0, h1, go_sem]
        rw [if_pos hk, if_neg hck]
      · obtain ⟨g, rfl⟩ := hg a rfl
        cases h
        rw [add_of, Nat.zero_add, add_of]
        rw [List.getElem?_drop] at hu
        exact hcl g rfl _ u hu

theorem drop_none {g : G} {a : Nat} (h : has g a = false) : drop g a = g := by
  unfold drop
  rw [List.erase_of_not_mem (has_not.1 h)]
theorem find_eq {a i : Nat} {L : List Nat} (h : i ≤ find a L) (hi : L[i]? = some a) : find a L = i := by
  rcases Nat.lt_or_ge i (find a L) with h2 | h2
  · exact absurd hi (find_before a L i h2)
  · omega
theorem find_next {a i : Nat} {L : List Nat} (h : i ≤ find a L) (hl : i < L.length) (hi : L[i]? ≠ some a) : i + 1 ≤ find a L := by
  rcases Nat.lt_or_ge i (find a L) with h2 | h2
  · exact h2
  · obtain rfl : find a L = i := by omega
    exact absurd (find_at a L hl) hi
section
variable {B : Nat} {w0 w : World} {Ps : List Asn} {p : Nat} {v : Value} {g : G}
theorem ref_open (h : Own.St B w0 w (ARefG p v g :: Ps)) : Own.St B w0 w (AVals p 31 (gC v g.room) :: RowU v g.L g.L.length :: Ps) := h.openJ
theorem ref_close (h : Own.St B w0 w (AVals p 31 (gC v g.room) :: RowU v g.L g.L.length :: Ps)) : Own.St B w0 w (ARefG p v g :: Ps) := Own.St.closeJ (Qs := [_, _]) h
set_option maxHeartbeats 3200000 in
theorem dropR_any (H : Own.St B w0 w (ARefG p v g :: Ps)) (hn : g.L.length ≤ 100000) (a : Nat) : Calls Try.prog 12 #[ptr p, aV a] w fun e w' => e = .returned (.bool (has g a)) ∧ ∃ v', Own.St B w0 w' (ARefG p v' (drop g a) :: Ps) := by
  have h0 := ref_open H
  obtain ⟨ao, cap, rfl⟩ := h0.rowForm 1 rfl
  obtain ⟨n, hnn⟩ : ∃ n, n = g.L.length := ⟨_, rfl⟩
  rw [← hnn] at h0 hn
  have c0 := (h0.cellV 0 rfl 0 rfl).1
  obtain ⟨hx1, hx2, hx3, hx4⟩ := h0.rowLen 1 rfl
  have hx5 : cap ≤ 9223372036854775807 := by unfold maxLen at hx3; omega
  obtain ⟨r, hr⟩ : ∃ r, r = has g a := ⟨_, rfl⟩
  rw [← hr]
  have HR := Lib.hid hr
  have HN := Lib.hid hnn
  have H0 := Lib.hid h0
  have HX3 := Lib.hid hx3
  have HX4 := Lib.hid hx4
  clear h0 H hnn hx1 hx3 hx4 hr
  go_enter Try.func12, Try.ntmps12
  go_wp2
  go_loopw [5] (fun v5 wr => ∃ i : Nat, i ≤ n ∧ v5 = .int .i64 (i : Int) ∧ wr = w ∧ i ≤ find a g.L) (fun v5 _ => n - (intOf v5).toNat)
  case atStart => exact ⟨0, Nat.zero_le _, rfl, rfl, Nat.zero_le _⟩
  case round =>
    obtain ⟨i, hin, rfl, hw, hf⟩ := hrel
    subst hw
    have HF := Lib.hid hf
    clear hf
    by_cases hi : (i : Int) < (n : Int)
    · have hin2 : i < n := by omega
      have hil : i < g.L.length := by rw [← HN.out]; exact hin2
      obtain ⟨b, hb, ⟨u, hu, hc⟩, _, _⟩ := H0.out.rowAt 1 rfl i (by rw [Nat.mul_one]; exact hin2)
      subst hb
      obtain ⟨x, hx⟩ : ∃ x, x = g.L[i] := ⟨_, rfl⟩
      have hu2 : u = aV x := by
        rw [List.getElem?_map, List.getElem?_eq_getElem hil, ← hx] at hu
        exact (Option.some.inj hu).symm
      subst hu2
      have hgi : g.L[i]? = some x := by rw [hx]; exact List.getElem?_eq_getElem hil
      have HGI := Lib.hid hgi
      clear hu hgi hx
      by_cases he : x = a
      · subst he
        have hm : x ∈ g.L := List.mem_of_getElem? HGI.out
        have hfi : find x g.L = i := find_eq HF.out HGI.out
        have hrt : r = true := by rw [HR.out]; exact has_iff.2 hm
        have HE : Hid ((drop g x).L = g.L.take i ++ g.L.drop (i + 1)) := by show g.L.erase x = _; rw [erase_find x g.L hm, hfi]
        have hE := H0.out.emptyRow 33 1
        have HEM := Lib.hid hE
        have c1 := (HEM.out.cellV 1 rfl 0 rfl).1
        obtain ⟨af, cf, hcut, hnf, hcell⟩ := cutFromU (some ⟨b, 0, none⟩) n cap (i + 1) (by omega) hx2 (by unfold maxLen; omega) (by intro h; cases h)
        have HCUT := Lib.hid hcut
        have HCL := Lib.hid hcell
        have HNF := Lib.hid hnf
        have CE : Hid (∀ a', some (⟨b, 0, none⟩ : Addr) = some a' → ∀ j u, ((g.L.take i).map aV)[j]? = some u → (wr.alloc (.cells #[] 33)).cell? (a'.add j) = some u) := by
          intro a' ha j u hu
          cases ha
          obtain ⟨ao', c', e, h⟩ := rd_own HEM.out 2 rfl
          cases e
          rcases h with h | ⟨g', e, h⟩
          · omega
          · cases e
            rw [add_of, Nat.zero_add]
            refine h j u ?_
            rw [List.map_take, List.getElem?_take] at hu
            split at hu
            · exact hu
            · cases hu
        have TL : Hid (((g.L.take i).map aV).length = i * 1) := by show _ = _; rw [List.length_map, List.length_take, Nat.mul_one]; omega
        have DL : Hid (((g.L.map aV).drop (i + 1)).length = (n - (i + 1)) * 1) := by show _ = _; rw [List.length_drop, List.length_map, Nat.mul_one, HN.out]
        have ML : Hid ((g.L.map aV).length = n) := by show _ = _; rw [List.length_map, HN.out]
        have OD : Hid (∀ u ∈ (g.L.map aV).drop (i + 1), u.oneCell' = true) := fun u hu => aV_one _ u (List.mem_of_mem_drop hu)
        clear hcut hcell hnf hE hm
        subst hrt
        go_wp2_with (first
          | (refine wpList_val rfl (cutToU (some ⟨b, 0, none⟩) n cap i (Nat.le_of_lt hin2) hx2 (by unfold maxLen; omega) (by intro h; cases h) _ _ _ rfl _ _ rfl rfl) ?_)
          | (refine wpList_val rfl (HCUT.out _ _ _ rfl _ _ rfl rfl) ?_)
          | (at_builtin; refine wpList_many_append manyU rfl (.tmp 25) (.tmp 31) rfl HEM.out 0 rfl rfl (some ⟨b, 0, none⟩) i cap ((g.L.take i).map aV) rfl (by intro h; cases h) TL.out CE.out (aV_one _) (by omega) (by decide) ?_; intro a2 c2 w2 h2; simp only [List.set_cons_zero, Nat.zero_add, List.nil_append] at h2 ⊢; have H2 := Lib.hid h2; have c3 := (h2.cellV 1 rfl 0 rfl).1; have CD : Hid (∀ a', af = some a' → ∀ j u, ((g.L.map aV).drop (i + 1))[j]? = some u → w2.cell? (a'.add j) = some u) := (fun a' ha => (by obtain ⟨ao', c', e, h⟩ := rd_own h2 2 rfl; cases e; exact HCL.out w2 (g.L.map aV) ML.out (fun g' hg => (by cases hg; rcases h with h | ⟨g', e, h⟩; (· omega); (· cases e; exact h))) (fun a'' ha'' => ⟨b, (by cases ha''; rfl)⟩) a' ha)); clear h2)
          | (at_builtin; refine wpList_many_append manyU rfl (.tmp 33) (.tmp 40) rfl H2.out 0 rfl rfl af (n - (i + 1)) cf ((g.L.map aV).drop (i + 1)) rfl HNF.out DL.out CD.out OD.out (by omega) (by decide) ?_; intro a3 c3 w3 h3; simp only [List.set_cons_zero] at h3 ⊢; have H3 := Lib.hid h3; have c4 := h3.cellV 1 rfl 0 rfl; clear h3; obtain ⟨c4, c5⟩ := c4))
        go_ret
        refine ⟨rfl, .slice a3 (i + (n - (i + 1))) c3, ?_⟩
        have h := H3.out.storeV 1 rfl 0 (.slice a3 (i + (n - (i + 1))) c3)
        simp only [List.set_cons_zero, List.set_cons_succ] at h
        have h2 := (h.swap2.front 2 rfl).drop 1
        simp only [List.drop_succ_cons, List.drop_zero] at h2
        refine ref_close ?_
        rw [HE.out, List.length_append, List.length_take, List.length_drop, ← HN.out, Nat.min_eq_left (Nat.le_of_lt hin2)]
        have e : (g.L.take i ++ g.L.drop (i + 1)).map aV = (g.L.take i).map aV ++ (g.L.map aV).drop (i + 1) := by rw [List.map_append, List.map_drop]
        unfold RowU
        rw [e]
        exact h2
      · have heb : ((x : Int) == (a : Int)) = false := by simp; omega
        go_wp2_with (fail)
        go_roundw
        case rel => exact ⟨i + 1, by omega, by go_num, trivial, find_next HF.out hil (by rw [HGI.out]; simpa using he)⟩
        case measure => simp [intOf]; omega
    · have hrf : r = false := by
        rw [HR.out]
        have h1 := HF.out
        have h2 := find_le a g.L
        cases hh : has g a
        · rfl
        · have := (find_mem a g.L).2 (has_iff.1 hh)
          have h3 := HN.out
          omega
      subst hrf
      go_wp2_with (fail)
      go_ret
      refine ⟨rfl, .slice ao g.L.length cap, ?_⟩
      rw [drop_none HR.out.symm]
      have h := H0.out
      rw [HN.out] at h
      exact ref_close h
/-- a slice literal of one address, as a row of one's own -/
theorem one_row (H : Own.St B w0 w Ps) (a : Nat) : Own.St B w0 (w.alloc (.cells #[aV a] 33)) (RowU (.slice (some ⟨w.heap.size, 0, none⟩) 1 1) [a] 1 :: Ps) :=
  H.new (S' := fun k => k = w.heap.size) (ARow 33 1 _ 1 [aV a]) (Row.made w (#[aV a] : Array Value) 33 1 1 (by unfold maxLen; decide) (by simp)) (((Step.refl (fun _ => False) w).alloc (.cells #[aV a] 33)).to (fun k hk => .inr (Nat.le_of_eq hk.symm)))
set_option maxHeartbeats 3200000 in
theorem askR_any (H : Own.St B w0 w (ARefG p v g :: Ps)) (hn : g.L.length ≤ 100000) (hrm : g.room ≤ 100000) (a : Nat) : Calls Try.prog 14 #[ptr p, aV a] w fun e w' => e = .returned (.bool (has g a)) ∧ ∃ v', Own.St B w0 w' (ARefG p v' (GhoM.ask g a) :: Ps) := by
  have C := Lib.hid (dropR_any H hn a)
  obtain ⟨r, hr⟩ : ∃ r, r = has g a := ⟨_, rfl⟩
  rw [← hr] at C ⊢
  have HR := Lib.hid hr
  clear hr H
  go_enter Try.func14, Try.ntmps14
  go_wp2_with (fail)
  refine C.out.mono ?_
  rintro e w1 ⟨rfl, v1, h⟩
  clear C
  cases r
  · rw [drop_none HR.out.symm] at h
    have h0 := ref_open h
    obtain ⟨ao, cap, rfl⟩ := h0.rowForm 1 rfl
    obtain ⟨n, hnn⟩ : ∃ n, n = g.L.length := ⟨_, rfl⟩
    obtain ⟨room, hroom⟩ : ∃ n, n = g.room := ⟨_, rfl⟩
    rw [← hnn, ← hroom] at h0
    rw [← hnn] at hn
    rw [← hroom] at hrm
    obtain ⟨hx1, hx2, hx3, hx4⟩ := h0.rowLen 1 rfl
    have hrow := one_row h0 a
    have HW := Lib.hid hrow
    have c0 := (hrow.cellV 1 rfl 0 rfl).1
    have c1 := (hrow.cellV 1 rfl 1 rfl).1
    have CE : Hid (∀ a', ao = some a' → ∀ j u, (g.L.map aV)[j]? = some u → (w1.alloc (.cells #[aV a] 33)).cell? (a'.add j) = some u) := by
      intro a' ha j u hu
      obtain ⟨ao', c', e, h⟩ := rd_own hrow 2 rfl
      cases e
      rcases h with h | ⟨g', e, h⟩
      · have := (List.getElem?_eq_some_iff.1 hu).1
        rw [List.length_map] at this
        omega
      · rw [e] at ha
        cases ha
        rw [add_of, Nat.zero_add]
        exact h j u hu
    obtain ⟨k, hk⟩ : ∃ k, k = min (1 + n) room := ⟨_, rfl⟩
    have hmin : min (((1 + n : Nat) : Nat) : Int) (room : Int) = (k : Int) := by omega
    have hmin2 : min (1 + (n : Int)) (room : Int) = (k : Int) := by omega
    have hk1 : k ≤ 1 + n := by omega
    have ML : Hid ((g.L.map aV).length = n * 1) := by show _ = _; rw [List.length_map, Nat.mul_one, hnn]
    have HNO := Lib.hid hx4
    have HK := Lib.hid hk
    have HN := Lib.hid hnn
    have HRM := Lib.hid hroom
    clear h h0 hrow hx1 hx3 hx4 hk hnn hroom
    go_wp2_with (first
      | (at_builtin; refine wpList_many_append manyU rfl (.tmp 11) (.tmp 15) rfl HW.out 0 rfl rfl ao n cap (g.L.map aV) rfl HNO.out ML.out CE.out (aV_one _) (by omega) (by decide) ?_; intro a2 c2 w2 h2; simp only [List.set_cons_zero] at h2 ⊢; have H2 := Lib.hid h2; have c3 := h2.cellV 1 rfl 0 rfl; have c4 := (h2.cellV 1 rfl 1 rfl).1; have q := h2.rowLen 0 rfl; have Q := Lib.hid q; clear h2 q; obtain ⟨c3, c5⟩ := c3)
      | (refine wpList_val rfl (cutToU a2 (1 + n) c2 k hk1 Q.out.2.1 Q.out.2.2.1 Q.out.2.2.2 _ _ _ rfl _ _ rfl rfl) ?_))
    go_ret
    refine ⟨rfl, .slice a2 k c2, ?_⟩
    have h := H2.out.storeV 1 rfl 0 (.slice a2 k c2)
    simp only [List.set_cons_zero, List.set_cons_succ] at h
    have h2 := (h.swap2.front 2 rfl).drop 1
    simp only [List.drop_succ_cons, List.drop_zero] at h2
    have h3 := h2.rowCut 1 rfl k hk1
    simp only [Nat.mul_one] at h3
    refine ref_close ?_
    have e1 : (GhoM.ask g a).L = (a :: g.L).take k := by
      rw [ask_unknown HR.out.symm, HK.out, HRM.out]
      have hl : (a :: g.L).length = 1 + n := by rw [List.length_cons, ← HN.out, Nat.add_comm]
      rcases Nat.le_total (1 + n) g.room with h | h
      · rw [Nat.min_eq_left h, List.take_of_length_le (by omega), List.take_of_length_le (by omega)]
      · rw [Nat.min_eq_right h]
    rw [ask_room, e1, List.length_take, List.length_cons, ← HN.out, Nat.min_eq_left (by omega), ← HRM.out]
    have e2 : ((a :: g.L).take k).map aV = ([a].map aV ++ g.L.map aV).take k := by rw [List.map_take]; rfl
    unfold RowU
    rw [e2]
    exact h3
  · have H1 := Lib.hid h
    clear h
    go_wp2_with (fail)
    go_ret
    refine ⟨rfl, v1, ?_⟩
    have e : GhoM.ask g a = GhoM.drop g a := by unfold GhoM.ask; rw [if_pos HR.out.symm]
    rw [e]
    exact H1.out
end
end Gho
end Go.Proofs.Ytlnhkiamhmjckaa

end
section
namespace Go.Proofs.Ytlnhkiamhmjckaa
open Go.RowKit Go.Own
namespace Gho
open Go.GhoM Byt
set_option maxHeartbeats 3200000 in
theorem sameR_any (l1 l2 : List Nat) (n1 n2 : Nat) (v1 v2 : Value) (w : World) (h1 : RdRow w v1 n1 (l1.map aV)) (h2 : RdRow w v2 n2 (l2.map aV)) (e1 : l1.length = n1) (e2 : l2.length = n2) (hb : n1 ≤ 1000000) :
    Calls Try.prog 15 #[v1, v2] w fun e w' => e = .returned (.bool (l1 == l2)) ∧ Below w.heap.size w w' := by
  obtain ⟨a1, c1, rfl, h1⟩ := h1
  obtain ⟨a2, c2, rfl, h2⟩ := h2
  obtain ⟨r, hr⟩ : ∃ r, r = (l1 == l2) := ⟨_, rfl⟩
  rw [← hr]
  have HR := Lib.hid hr
  have H1 := Lib.hid h1
  have H2 := Lib.hid h2
  have E1 := Lib.hid e1
  have E2 := Lib.hid e2
  clear h1 h2 e1 e2 hr
  by_cases hn : n1 = n2
  · subst hn
    go_enter Try.func15, Try.ntmps15
    go_wp2
    go_loopw [5] (fun v5 wr => ∃ i : Nat, i ≤ n1 ∧ v5 = .int .i64 (i : Int) ∧ Below w.heap.size w wr ∧ ∀ j, j < i → l1[j]? = l2[j]?) (fun v5 _ => n1 - (intOf v5).toNat)
    case atStart => exact ⟨0, Nat.zero_le _, rfl, Below.refl _ _, fun j hj => absurd hj (Nat.not_lt_zero _)⟩
    case round =>
      obtain ⟨i, hin, rfl, hbw, hall⟩ := hrel
      have HB := Lib.hid hbw
      have HALL := Lib.hid hall
      clear hbw hall
      by_cases hi : (i : Int) < (n1 : Int)
      · have hin2 : i < n1 := by omega
        rcases H1.out with h | ⟨g, rfl, hc⟩
        · omega
        rcases H2.out with h | ⟨g2, rfl, hc2⟩
        · omega
        have k1 : i < l1.length := by rw [E1.out]; exact hin2
        have k2 : i < l2.length := by rw [E2.out]; exact hin2
        obtain ⟨x, hx⟩ : ∃ x, x = l1[i] := ⟨_, rfl⟩
        obtain ⟨y, hy⟩ : ∃ x, x = l2[i] := ⟨_, rfl⟩
        have g1 : l1[i]? = some x := by rw [hx]; exact List.getElem?_eq_getElem k1
        have g3 : l2[i]? = some y := by rw [hy]; exact List.getElem?_eq_getElem k2
        have q1 := cellLater' (hc i (aV x) (by rw [List.getElem?_map, g1]; rfl)) HB.out
        have q2 := cellLater' (hc2 i (aV y) (by rw [List.getElem?_map, g3]; rfl)) HB.out
        have G1 := Lib.hid g1
        have G2 := Lib.hid g3
        clear hc hc2 hx hy H1 H2 g1 g3 k1 k2
        by_cases hxy : x = y
        · subst hxy
          go_wp2
          go_quiet (fail)
          go_wp2
          go_roundw
          case rel =>
            refine ⟨i + 1, by omega, by go_num, (Own.St.start w).later HB.out |>.drewN nq |>.below, fun j hj => ?_⟩
            rcases Nat.lt_or_ge j i with h | h
            · exact HALL.out j h
            · obtain rfl : j = i := by omega
              rw [G1.out, G2.out]
          case measure => simp [intOf]; omega
        · have hne : ¬ (x : Int) = (y : Int) := by omega
          have hne2 : ((x : Int) != (y : Int)) = true := by simp; omega
          have hrf : r = false := by
            rw [HR.out]
            cases hh : (l1 == l2)
            · rfl
            · have := eq_of_beq hh
              subst this
              have := G1.out.symm.trans G2.out
              exact absurd (Option.some.inj this) hxy
          subst hrf
          go_wp2
          go_quiet (fail)
          go_wp2
          go_ret
          exact ⟨rfl, (Own.St.start w).later HB.out |>.drewN nq |>.below⟩
      · have hrt : r = true := by
          rw [HR.out, beq_iff_eq]
          apply List.ext_getElem?
          intro j
          rcases Nat.lt_or_ge j i with h | h
          · exact HALL.out j h
          · rw [List.getElem?_eq_none (by rw [E1.out]; omega), List.getElem?_eq_none (by rw [E2.out]; omega)]
        subst hrt
        go_wp2
        go_ret
        exact ⟨rfl, HB.out⟩
  · have hrf : r = false := by
      rw [HR.out]
      cases hh : (l1 == l2)
      · rfl
      · have := eq_of_beq hh
        subst this
        exact absurd (E1.out.symm.trans E2.out) hn
    have hne : ¬ (n1 : Int) = (n2 : Int) := by omega
    subst hrf
    go_enter Try.func15, Try.ntmps15
    go_wp2
    go_ret
    exact ⟨rfl, Below.refl _ _⟩
/-- returns true, and old memory is as it was -/
def RetYes (w : World) (e : Ending) (w' : World) : Prop := e = .returned (.bool true) ∧ Below w.heap.size w w'
abbrev errG (n : Nat) : Value := .int .i64 (n : Int)
def mayBe (num : Int) : Bool := decide (0 ≤ num) && decide (num ≤ 4096)
/-- what the landed ghost must keep -/
structure Kept (W : World) where
  A : Nat → G → Asn
  new : ∀ {B : Nat} {w0 w : World} {Ps : List Asn} (num : Int), Below W.heap.size W w → Own.St B w0 w Ps → -9223372036854775808 ≤ num ∧ num ≤ 9223372036854775807 →
    Calls Try.prog 9 #[.int .i64 num] w fun e w' => if mayBe num = true then ∃ p, e = .returned (.tuple #[ptr p, errG 0]) ∧ Own.St B w0 w' (A p (newG num.toNat) :: Ps) else e = .returned (.tuple #[.pointer none, errG 1]) ∧ Own.St B w0 w' Ps
  ask : ∀ {B : Nat} {w0 w : World} {Ps : List Asn} {p : Nat} {g : G} (a : Nat), Below W.heap.size W w → Own.St B w0 w (A p g :: Ps) → Ok g → g.room ≤ 4096 → a < 4294967296 →
    Calls Try.prog 13 #[ptr p, aV a] w fun e w' => e = .returned (.bool (has g a)) ∧ Own.St B w0 w' (A p (GhoM.ask g a) :: Ps)
  drop : ∀ {B : Nat} {w0 w : World} {Ps : List Asn} {p : Nat} {g : G} (a : Nat), Below W.heap.size W w → Own.St B w0 w (A p g :: Ps) → Ok g → g.room ≤ 4096 → a < 4294967296 →
    Calls Try.prog 11 #[ptr p, aV a] w fun e w' => e = .returned (.bool (has g a)) ∧ Own.St B w0 w' (A p (GhoM.drop g a) :: Ps)
  all : ∀ {B : Nat} {w0 w : World} {Ps : List Asn} {p : Nat} {g : G}, Below W.heap.size W w → Own.St B w0 w (A p g :: Ps) → Ok g → g.room ≤ 4096 →
    Calls Try.prog 16 #[ptr p] w fun e w' => ∃ ao c, e = .returned (.slice ao g.L.length c) ∧ Own.St B w0 w' (RowU (.slice ao g.L.length c) g.L g.L.length :: A p g :: Ps)
  nilAsk : ∀ {w : World} (a : Nat), Below W.heap.size W w → a < 4294967296 → Calls Try.prog 13 #[.pointer none, aV a] w fun e w' => e = .returned (.bool false) ∧ Below w.heap.size w w'
  nilDrop : ∀ {w : World} (a : Nat), Below W.heap.size W w → a < 4294967296 → Calls Try.prog 11 #[.pointer none, aV a] w fun e w' => e = .returned (.bool false) ∧ Below w.heap.size w w'
  nilAll : ∀ {w : World}, Below W.heap.size W w → Calls Try.prog 16 #[.pointer none] w fun e w' => ∃ ao c, e = .returned (.slice ao 0 c) ∧ Below w.heap.size w w'
end Gho
end Go.Proofs.Ytlnhkiamhmjckaa

end
section
namespace Go.Proofs.Ytlnhkiamhmjckaa
open Go.RowKit Go.Own
namespace Gho
open Go.GhoM Byt
section
variable {W w0 w : World} {B : Nat} {Ps : List Asn} {p : Nat} {g g' : G}
theorem ask_lit (K : Kept W) (hW : Below W.heap.size W w0) (hB : W.heap.size ≤ B) (H : Own.St B w0 w (K.A p g :: Ps)) (ok : Ok g) (hr : g.room ≤ 4096) (a : Nat) (ha : a < 4294967296) {b : Bool} (hb : has g a = b) (hg : GhoM.ask g a = g') :
    Calls Try.prog 13 #[ptr p, .int .u32 (a : Int)] w fun e w' => e = .returned (.bool b) ∧ Own.St B w0 w' (K.A p g' :: Ps) := by
  subst hb hg
  exact K.ask a (hW.trans (H.below.mono hB)) H ok hr ha
theorem two_row (H : Own.St B w0 w Ps) (a b : Nat) : Own.St B w0 (w.alloc (.cells #[aV a, aV b] 33)) (RowU (.slice (some ⟨w.heap.size, 0, none⟩) 2 2) [a, b] 2 :: Ps) :=
  H.new (S' := fun k => k = w.heap.size) (ARow 33 1 _ 2 [aV a, aV b]) (Row.made w (#[aV a, aV b] : Array Value) 33 1 2 (by unfold maxLen; decide) (by simp)) (((Step.refl (fun _ => False) w).alloc (.cells #[aV a, aV b] 33)).to (fun k hk => .inr (Nat.le_of_eq hk.symm)))
end
def g1 : G := GhoM.ask (newG 2) 5
def g2 : G := GhoM.ask g1 7
def g3 : G := GhoM.ask g2 5
def g4 : G := GhoM.ask g3 9
def g5 : G := GhoM.ask g4 11
def g6 : G := GhoM.ask g5 7
theorem kg1 : Ok g1 := ok_ask (ok_new 2) (by decide)
theorem kg2 : Ok g2 := ok_ask kg1 (by decide)
theorem kg3 : Ok g3 := ok_ask kg2 (by decide)
theorem kg4 : Ok g4 := ok_ask kg3 (by decide)
theorem kg5 : Ok g5 := ok_ask kg4 (by decide)
theorem kg6 : Ok g6 := ok_ask kg5 (by decide)
set_option maxRecDepth 6000 in
set_option maxHeartbeats 6400000 in
theorem shown_any {W w : World} (K : Kept W) (hW : Below W.heap.size W w) : Calls Try.prog 8 #[] w (RetYes w) := by
  have C0 := Lib.hid (K.new (w := w) (B := w.heap.size) (w0 := w) (Ps := []) 2 hW (Own.St.start w) (by decide))
  rw [show mayBe 2 = true from rfl] at C0
  simp only [if_true] at C0
  have HW := Lib.hid hW
  have HB0 := Lib.hid hW.size
  clear hW
  go_enter Try.func8, Try.ntmps8
  go_wp2_with (fail)
  refine C0.out.mono ?_
  clear C0
  rintro e wa ⟨p, rfl, h⟩
  have H0 := Lib.hid h
  clear h
  go_wp2_with (fail)
  refine (ask_lit K HW.out HB0.out H0.out (ok_new 2) (by decide) 5 (by decide) (b := false) (g' := g1) (by kernel_rfl) rfl).mono ?_
  rintro e w0 ⟨rfl, h⟩
  have H1 := Lib.hid h
  clear h H0
  go_wp2_with (fail)
  refine (ask_lit K HW.out HB0.out H1.out (kg1) (by decide) 7 (by decide) (b := false) (g' := g2) (by kernel_rfl) rfl).mono ?_
  rintro e w1 ⟨rfl, h⟩
  have H2 := Lib.hid h
  clear h H1
  go_wp2_with (fail)
  refine (ask_lit K HW.out HB0.out H2.out (kg2) (by decide) 5 (by decide) (b := true) (g' := g3) (by kernel_rfl) rfl).mono ?_
  rintro e w2 ⟨rfl, h⟩
  have H3 := Lib.hid h
  clear h H2
  go_wp2_with (fail)
  refine (ask_lit K HW.out HB0.out H3.out (kg3) (by decide) 9 (by decide) (b := false) (g' := g4) (by kernel_rfl) rfl).mono ?_
  rintro e w3 ⟨rfl, h⟩
  have H4 := Lib.hid h
  clear h H3
  go_wp2_with (fail)
  refine (ask_lit K HW.out HB0.out H4.out (kg4) (by decide) 11 (by decide) (b := false) (g' := g5) (by kernel_rfl) rfl).mono ?_
  rintro e w4 ⟨rfl, h⟩
  have H5 := Lib.hid h
  clear h H4
  go_wp2_with (fail)
  refine (ask_lit K HW.out HB0.out H5.out (kg5) (by decide) 7 (by decide) (b := false) (g' := g6) (by kernel_rfl) rfl).mono ?_
  rintro e w5 ⟨rfl, h⟩
  have H6 := Lib.hid h
  clear h H5
  go_wp2_with (fail)
  refine (K.all (HW.out.trans (H6.out.below.mono HB0.out)) H6.out kg6 (by decide)).mono ?_
  rw [show g6.L = [7, 11] by kernel_rfl]
  rintro e wb ⟨ao, c, rfl, h⟩
  have H7 := Lib.hid h
  have h8 := two_row h 7 11
  have RD1 := Lib.hid (rd_own h8 1 rfl)
  have RD2 := Lib.hid (rd_own h8 0 rfl)
  have H8 := Lib.hid h8
  clear h h8 H6
  go_wp2_with (fail)
  refine (sameR_any [7, 11] [7, 11] 2 2 _ _ _ RD1.out RD2.out rfl rfl (by decide)).mono ?_
  rintro e wc ⟨rfl, h⟩
  have H9 := Lib.hid (H8.out.later h)
  clear h H7 H8 RD1 RD2
  go_wp2_with (fail)
  go_ret
  exact ⟨rfl, H9.out.below⟩
set_option maxHeartbeats 3200000 in
theorem walk_nil (a : Nat) (ha : a < 4294967296) {w : World} (K : Kept w) : Calls Try.prog 6 #[.int .u32 (a : Int)] w (RetYes w) := by
  have SH := Lib.hid (shown_any K (Below.refl _ _))
  have HA := Lib.hid ha
  clear ha
  go_enter Try.func6, Try.ntmps6
  go_wp2_with (fail)
  refine SH.out.mono ?_
  rintro e w1 ⟨rfl, h⟩
  have U1 := Lib.hid h
  clear h SH
  go_wp2_with (fail)
  refine (K.nilAsk a U1.out HA.out).mono ?_
  rintro e w2 ⟨rfl, h⟩
  have U2 := Lib.hid (U1.out.trans (h.mono U1.out.size))
  clear h
  go_wp2_with (fail)
  refine (K.nilDrop a U2.out HA.out).mono ?_
  rintro e w3 ⟨rfl, h⟩
  have U3 := Lib.hid (U2.out.trans (h.mono U2.out.size))
  clear h
  go_wp2_with (fail)
  refine (K.nilAll U3.out).mono ?_
  rintro e w4 ⟨ao, c, rfl, h⟩
  have U4 := Lib.hid (U3.out.trans (h.mono U3.out.size))
  clear h
  go_wp2_with (fail)
  go_ret
  exact ⟨rfl, U4.out⟩
end Gho
end Go.Proofs.Ytlnhkiamhmjckaa

end
section
namespace Go.Own
open Go.RowKit
section
variable {α : Type}
/-- an act in memory -/
def inE (enc : α → List Value) (Fit : α → Prop) : InT α := fun a _ _ cs => cs = enc a ∧ Fit a
theorem acts_inE {enc : α → List Value} {Fit : α → Prop} {c : Nat} (hc : ∀ a, (enc a).length = c) {l : List α} {B : Nat} {w : World} {ao : Option Addr} {n cap : Nat} (h : inSlice c (inE enc Fit) l B w [.slice ao n cap]) :
    n = l.length ∧ n ≤ cap ∧ cap ≤ maxLen ∧ (ao = none → cap = 0) ∧ (l ≠ [] → ∃ b o, ao = some ⟨b, o, none⟩ ∧ b < B ∧ ∀ w' : World, (∀ k, k < B → w'.heap[k]? = w.heap[k]?) → ∀ k (hk : k < l.length), w'.rangeAt b (o + k * c) (enc l[k]) ∧ Fit l[k]) := by
  obtain ⟨ao', cap', h1, h2, h3, h4, h5⟩ := h
  simp only [List.cons.injEq, Value.slice.injEq, and_true] at h1
  obtain ⟨rfl, rfl, rfl⟩ := h1
  refine ⟨rfl, h2, h3, h4, fun hne => ?_⟩
  rcases h5 with rfl | ⟨b, o, e, hb, hs, hcc⟩
  · exact absurd rfl hne
  · refine ⟨b, o, e, hb, fun w' hw' k hk => ?_⟩
    obtain ⟨cs', g1, g2, g3⟩ := hcc k hk
    obtain ⟨rfl, q6⟩ := g3
    refine ⟨fun j v hv => ?_, q6⟩
    have hj : j < c := by rw [← hc l[k]]; exact (List.getElem?_eq_some_iff.1 hv).1
    have := (World.cell?_of_block (w := w) (hw' b hb)).trans (g2 j hj)
    rw [Nat.add_assoc, this, hv]
/-- the first of them -/
theorem St.firsts {B : Nat} {w0 w : World} {As Bs : List Asn} (h : St B w0 w (As ++ Bs)) : St B w0 w As := by
  have h2 := (h.perm (List.perm_append_comm (l₁ := As) (l₂ := Bs))).drop Bs.length
  rwa [List.drop_left] at h2
end
end Go.Own

end
section
namespace Go.Own
open Go.RowKit
/-- a type of c cells, its zero value -/
structure Boxy (P : Program) (ty : TypeId) (c : Nat) : Prop where
  zero : ∃ z : Array Value, (P.info? ty).bind (·.zero) = some (.agg z) ∧ z.size = c
  size : (P.info? ty).map (·.size) = some c
theorem boxy_of {P : Program} {ty : TypeId} {c : Nat} (z : Array Value) (h : (P.info? ty).bind (·.zero) = some (.agg z)) (hz : z.size = c) (hs : (P.info? ty).map (·.size) = some c) : Boxy P ty c := ⟨⟨z, h, hz⟩, hs⟩
section
variable {P : Program} {B : Nat} {w0 : World} {Ps : List Asn}
/-- x := value -/
theorem wpList_box2 {ops : Array Oper} {rest : List Oper} {o1 o2 : Oper} {a : Act} {w : World} {Q : Exit → Act → World → Prop} {ty : TypeId} {c : Nat} (O : Boxy P ty c) (hg1 : o1.guard = none) (hg2 : o2.guard = none) (ho1 : o1.op = .alloc ty) (x y : Operand) (ho2 : o2.op = .store ty x y) (hd2 : o2.dst = none)
    (cs : List Value) (hx : ∀ v, (a.put o1.dst v).eval x = v) (hy : ∀ v, (a.put o1.dst v).eval y = .agg cs.toArray) (hc : cs.length = c) (h1 : ∀ u ∈ cs, u.oneCell' = true) (H : St B w0 w Ps)
    (h : ∀ b w', St B w0 w' (AVals b ty cs :: Ps) → wpList P ops Q rest (a.put o1.dst (.pointer (some ⟨b, 0, none⟩))) w') : wpList P ops Q (o1 :: o2 :: rest) a w := by
  obtain ⟨z, hz, hzl⟩ := O.zero
  refine wpList_allocZ hg1 ty ho1 z hz ?_
  have hb := H.boxV ty z.toList
  have hzz : z.toList.toArray = z := by simp
  rw [hzz] at hb
  have ht : (w.alloc (.cells z ty)).there w.heap.size 0 cs.toArray.size := hb.thereV 0 rfl (by rw [List.size_toArray, hc, Array.length_toList, hzl]; exact Nat.le_refl _)
  refine wpList_store_mid hg2 ty x y ho2 w.heap.size 0 cs.toArray (hx _) (hy _) ht (by rw [List.size_toArray, hc]; exact O.size) (all_oneCell_toArray h1) ?_
  have hs := St.setAll 0 cs 0 _ _ z.toList hb rfl (by rw [Nat.zero_add, hc, Array.length_toList, hzl])
  simp only [List.set_cons_zero, List.take_zero, List.nil_append] at hs
  rw [hd2, List.toList_toArray]
  exact h _ _ hs
end
end Go.Own

end
section
namespace Go.RecM
abbrev Bs := List UInt8
/-- the many lowest bytes of n, the least significant one first (as Cod.le) -/
def le (n : Nat) : Nat → Bs
  | 0 => []
  | k + 1 => le n k ++ [UInt8.ofNat (n / 2 ^ (8 * k))]
def num : Bs → Nat
  | [] => 0
  | c :: r => c.toNat + 256 * num r
structure Nte where
  kind : UInt8
  addr : Nat
  seq : Nat
  sum : Bs
  kn : Nat
  data : Bs
def zsum : Bs := List.replicate 32 0
def zeroN : Nte := ⟨0, 0, 0, zsum, 0, []⟩
/-- the fields are of their widths -/
structure Fits (n : Nte) : Prop where
  addr : n.addr < 4294967296
  seq : n.seq < 18446744073709551616
  sum : n.sum.length = 32
  kn : n.kn < 4294967296
def right (n : Nte) : Bool :=
  decide (n.data.length ≤ 300) &&
    (if n.kind = 1 then true
     else if n.kind = 2 then decide (n.sum = zsum) && decide (n.kn = 0) && decide (n.data.length = 0)
     else if n.kind = 3 then decide (n.addr = 0) && (decide (n.sum = zsum) && decide (n.kn = 0)) && decide (n.data.length = 0)
     else if n.kind = 4 then decide (n.addr = 0) && decide (n.seq = 0) && decide (0 < n.data.length)
     else false)
def tail (n : Nte) : Bs := n.sum ++ (le n.kn 4 ++ (le n.data.length 2 ++ n.data))
def laid (n : Nte) : Bs :=
  n.kind :: (if n.kind = 1 then le n.addr 4 ++ (le n.seq 8 ++ tail n)
    else if n.kind = 2 then le n.addr 4 ++ le n.seq 8
    else if n.kind = 3 then le n.seq 8
    else tail n)
def lay (n : Nte) : Bs × Nat := if right n then (laid n, 0) else ([], 1)
/-- bytes that are a note's -/
def IsNote (b : Bs) : Prop := ∃ n, Fits n ∧ right n = true ∧ laid n = b
open Classical in
noncomputable def take (b : Bs) : Nte × Nat := if h : IsNote b then (h.choose, 0) else (zeroN, 100)
end Go.RecM

end
section
namespace Go.Proofs.Ytlnhkiamhmjckaa
open Go.RowKit Go.Own
namespace Rec
open Go.RecM Byt
theorem nat_u32 {a : Int} (h : (Lit.int .u32 a).wf = true) : ∃ u : Nat, a = u ∧ u < 4294967296 := by
  have : 0 ≤ a ∧ a < 4294967296 := by
    have : 0 ≤ a ∧ a ≤ 4294967295 := by simpa [Lit.wf, IntKind.min, IntKind.max, IntKind.signed, IntKind.bits] using h
    omega
  exact ⟨a.toNat, by omega, by omega⟩
end Rec
end Go.Proofs.Ytlnhkiamhmjckaa

end
section
namespace Go.Proofs.Ytlnhkiamhmjckaa
open Go.RowKit Go.Own
namespace Gho
open Go.GhoM Byt
structure ActD where
  gone : Bool
  addr : Nat
def actVs (a : ActD) : List Value := [.bool a.gone, aV a.addr]
def FitA (a : ActD) : Prop := a.addr < 4294967296
theorem actVs_len (a : ActD) : (actVs a).length = 2 := rfl
abbrev inAct : InT ActD := inE actVs FitA
abbrev inU : InT Nat := inE (fun k => [aV k]) (fun k => k < 4294967296)
theorem boxy_act : Boxy Try.prog 35 2 := boxy_of #[.bool false, .int .u32 0] (by kernel_rfl) rfl (by kernel_rfl)
theorem size_act : (Try.prog.info? 35).map (·.size) = some 2 := by kernel_rfl
theorem actVs_one (a : ActD) : ∀ u ∈ actVs a, u.oneCell' = true := by
  intro u hu
  simp only [actVs, List.mem_cons, List.not_mem_nil, or_false] at hu
  rcases hu with rfl | rfl <;> rfl
theorem idx_act {o : Oper} {x y : Tmp} (ho : o.op = .indexAddr 22 (.tmp x) (.tmp y)) {b g n c k : Nat} (hk : k < n) (ρ : Operand → Value) (w : World) (h0 : ρ (.tmp x) = .slice (some ⟨b, g, none⟩) n c) (h1 : ρ (.tmp y) = .int .i64 (k : Int)) : (execOp ρ o).run Try.prog w = .ok (.value (.pointer (some ⟨b, g + k * 2, none⟩))) w := by
  obtain ⟨i, hi, hs⟩ := Option.map_eq_some_iff.1 size_act
  have h2 : (k : Int) < (n : Int) := by omega
  have hu := Try.underlying22
  simp [execOp, ho, h0, h1, go_sem, h2, hu]
theorem load_act (cs : List Value) (hl : cs.length = 2) {o : Oper} {x : Tmp} (ho : o.op = .load 35 (.tmp x)) {b k : Nat} (ρ : Operand → Value) {w : World} (hr : w.rangeAt b k cs) (h0 : ρ (.tmp x) = .pointer (some ⟨b, k, none⟩)) : (execOp ρ o).run Try.prog w = .ok (.value (.agg cs.toArray)) w := by
  have := run_loadAt_mid (P := Try.prog) w b k 35 cs _ hr Try.underlying35 rfl (by rw [hl]; exact size_act)
  unfold execOp
  simp only [ho, h0, Sem.run_bind, this, Result.andThen_ok, Sem.run_pure]
theorem rem30 {o : Oper} {x : Tmp} (ho : o.op = .binOp .rem 5 (.tmp x) (.const (.int .u8 30)) 5) {a f : Nat} (hf : f = a % 30) (ρ : Operand → Value) (w : World) (h0 : ρ (.tmp x) = .int .u8 (a : Int)) (h1 : ρ (.const (.int .u8 30)) = .int .u8 30) : (execOp ρ o).run Try.prog w = .ok (.value (.int .u8 (f : Int))) w := by
  have e : (a : Int).tmod 30 = (f : Int) := by rw [hf]; rfl
  have e2 : IntKind.u8.wrap (f : Int) = (f : Int) := by rw [IntWalk.u8_in _ (by omega)]
  simp [execOp, ho, h0, h1, go_sem, e]
theorem few_any (ao : Option Addr) (n cap : Nat) (hn : n ≤ cap) (hc : cap ≤ maxLen) (w : World) :
    Calls Try.prog 10 #[.slice ao n cap] w fun e w' => e = .returned (.slice ao (min n 300) cap) ∧ w = w' := by
  unfold maxLen at hc
  obtain ⟨k, hk⟩ : ∃ k, k = min n 300 := ⟨_, rfl⟩
  have hmin : ∀ wx, (Builtin.min_ #[3, 3] 3 #[.int .i64 (n : Int), .int .i64 300]).run Try.prog wx = .ok (.int .i64 (k : Int)) wx := by
    intro wx
    rw [show (k : Int) = min (n : Int) 300 by omega]
    simp [Builtin.min_, Builtin.min2, go_sem]
    try omega
  have hkn : k ≤ n := by omega
  have hkc : k ≤ cap := by omega
  rw [← hk]
  clear hk
  go_enter Try.func10, Try.ntmps10
  go_wp2
  go_ret
  exact ⟨rfl, rfl⟩

set_option maxRecDepth 6000 in
set_option maxHeartbeats 6400000 in
theorem walk_known (r0 : Nat) (hr0 : r0 < 256) (a1 : Option Addr) (len1 cap1 : Nat) (l : List ActD) (ad : Nat) (had : ad < 4294967296) (a3 : Option Addr) (len3 cap3 : Nat) (l3 : List Nat) {w : World} (w1 : inSlice 2 inAct l w.heap.size w [.slice a1 len1 cap1]) (w3 : inSlice 1 inU l3 w.heap.size w [.slice a3 len3 cap3]) (K : Kept w) :
    Calls Try.prog 5 #[.int .u8 (r0 : Int), .slice a1 len1 cap1, .int .u32 (ad : Int), .slice a3 len3 cap3] w (RetYes w) := by
  obtain ⟨hlen, hcap, hmax, hnil, hat⟩ := acts_inE actVs_len w1
  obtain ⟨hlen3, hcap3, hmax3, hnil3, hat3⟩ := acts_inE (enc := fun k => [aV k]) (c := 1) (fun _ => rfl) w3
  have SH := Lib.hid (shown_any K (Below.refl _ _))
  have HF := Lib.hid (few_any a1 len1 cap1 hcap hmax)
  have HAT := Lib.hid hat
  have HLEN := Lib.hid hlen
  have HAT3 := Lib.hid hat3
  have HLEN3 := Lib.hid hlen3
  have hb3 : len3 ≤ 9223372036854775807 := by unfold maxLen at hmax3; omega
  have HAD := Lib.hid had
  obtain ⟨r, hr⟩ : ∃ r, r = r0 % 30 := ⟨_, rfl⟩
  have hr29 : r ≤ 29 := by omega
  have HRR := Lib.hid hr
  obtain ⟨n, hn⟩ : ∃ n, n = r + 1 := ⟨_, rfl⟩
  have hn30 : n ≤ 30 := by omega
  have hn1 : 1 ≤ n := by omega
  have N1 := fun (wx : World) (hwx : Below w.heap.size w wx) => K.new (w := wx) (B := w.heap.size) (w0 := w) (Ps := []) ((r : Int) + 1) hwx ((Own.St.start w).later hwx) (by omega)
  have hmb : mayBe ((r : Int) + 1) = true := by unfold mayBe; simp; omega
  simp only [hmb, if_true, show ((r : Int) + 1).toNat = n by omega] at N1
  have N1 := Lib.hid N1
  have HN := Lib.hid hn
  clear hat hlen w1 w3 hmax hmax3 hat3 hlen3 hr hmb hn had hcap3 hnil hnil3
  go_enter Try.func5, Try.ntmps5
  go_wp2_with (fail)
  refine SH.out.mono ?_
  rintro e wa ⟨rfl, h1⟩
  have U1 := Lib.hid h1
  clear h1 SH
  go_wp2_with (refine wpList_val rfl (rem30 rfl HRR.out _ _ rfl rfl) ?_)
  refine (N1.out _ U1.out).mono ?_
  clear N1
  rintro e wb ⟨p, rfl, h⟩
  have H3 := Lib.hid h
  clear h U1
  go_wp2_with (fail)
  refine (HF.out wb).mono ?_
  rintro e wc ⟨rfl, rfl⟩
  obtain ⟨k, hk⟩ : ∃ k, k = min len1 300 := ⟨_, rfl⟩
  rw [← hk]
  have hk1 : k ≤ len1 := by omega
  have hk2 : k ≤ 300 := by omega
  clear hk
  go_wp2
  go_loopw [36] (fun v36 wr => ∃ (i : Nat) (g : G), i ≤ k ∧ v36 = .int .i64 (i : Int) ∧ Own.St w.heap.size w wr [K.A p g] ∧ Ok g ∧ g.room = n) (fun v36 _ => k - (intOf v36).toNat)
  case atStart => exact ⟨0, newG n, Nat.zero_le _, rfl, H3.out, ok_new n, rfl⟩
  case round =>
    obtain ⟨i, g, hik, rfl, h, hok, hroom⟩ := hrel
    have H := Lib.hid h
    have OK := Lib.hid hok
    have RM := Lib.hid hroom
    have RM2 : Hid (g.room ≤ 4096) := by show _ ≤ _; omega
    clear h hok hroom H3
    by_cases hi : (i : Int) < (k : Int)
    · have hik2 : i < k := by omega
      have hil : i < l.length := by rw [← HLEN.out]; omega
      obtain ⟨b, o, hbo, _, hra⟩ := HAT.out (by intro e; rw [e] at hil; exact absurd hil (Nat.not_lt_zero _))
      subst hbo
      have hr2 := hra wr (fun q hq => H.out.below.block q hq) i hil
      obtain ⟨gone, hgone⟩ : ∃ x, x = l[i].gone := ⟨_, rfl⟩
      obtain ⟨x, hx⟩ : ∃ x, x = l[i].addr := ⟨_, rfl⟩
      have hx32 : x < 4294967296 := by rw [hx]; exact hr2.2
      obtain ⟨cs, hcs⟩ : ∃ x, x = actVs l[i] := ⟨_, rfl⟩
      have RA : Hid (wr.rangeAt b (o + i * 2) cs) := by rw [hcs]; exact hr2.1
      have CSL : Hid (cs.length = 2) := by show _ = _; rw [hcs]; rfl
      have CS1 : Hid (∀ u ∈ cs, u.oneCell' = true) := by rw [hcs]; exact actVs_one _
      have K0 : Hid (cs[0]? = some (.bool gone)) := by show _ = _; rw [hcs, hgone]; rfl
      have K1 : Hid (cs[1]? = some (aV x)) := by show _ = _; rw [hcs, hx]; rfl
      have HX := Lib.hid hx32
      have hikl : i < k := hik2
      clear hra hr2 hgone hx hcs hx32
      go_wp2_with (first
        | (refine wpList_val rfl (idx_act rfl hikl _ _ rfl rfl) ?_)
        | (refine wpList_val rfl (load_act cs CSL.out rfl _ (b := b) (k := o + i * 2) RA.out rfl) ?_)
        | (refine wpList_box2 boxy_act rfl rfl rfl (.tmp 14) (.tmp 39) rfl rfl cs (fun _ => rfl) (fun _ => rfl) CSL.out CS1.out H.out ?_; intro b14 w6 h; have HX6 := Lib.hid h; have d0 := (h.cellV 0 rfl 0 K0.out).1; have d1 := (h.cellV 0 rfl 1 K1.out).1; clear h; cases gone))
      · refine (K.ask x HX6.out.below HX6.out.swap2 OK.out RM2.out HX.out).mono ?_
        rintro e w7 ⟨rfl, h⟩
        have H7 := Lib.hid (h.swap2.drop 1)
        simp only [List.drop_succ_cons, List.drop_zero] at H7
        clear h
        go_wp2_with (fail)
        go_roundw
        case rel => exact ⟨i + 1, GhoM.ask g x, by omega, by go_num, H7.out, ok_ask OK.out HX.out, by rw [ask_room]; exact RM.out⟩
        case measure => simp [intOf]; omega
      · refine (K.drop x HX6.out.below HX6.out.swap2 OK.out RM2.out HX.out).mono ?_
        rintro e w7 ⟨rfl, h⟩
        have H7 := Lib.hid (h.swap2.drop 1)
        simp only [List.drop_succ_cons, List.drop_zero] at H7
        clear h
        go_wp2_with (fail)
        go_roundw
        case rel => exact ⟨i + 1, GhoM.drop g x, by omega, by go_num, H7.out, ok_drop OK.out x, RM.out⟩
        case measure => simp [intOf]; omega
    · go_wp2_with (fail)
      refine (K.drop ad H.out.below H.out OK.out RM2.out HAD.out).mono ?_
      rintro e w7 ⟨rfl, h⟩
      have H7 := Lib.hid h
      clear h
      go_wp2_with (fail)
      refine (K.ask ad H7.out.below H7.out (ok_drop OK.out ad) RM2.out HAD.out).mono ?_
      rw [drop_not OK.out ad]
      rintro e w8 ⟨rfl, h⟩
      have H8 := Lib.hid h
      have OK8 : Hid (Ok (GhoM.ask (GhoM.drop g ad) ad)) := ok_ask (ok_drop OK.out ad) HAD.out
      have RM8 : Hid ((GhoM.ask (GhoM.drop g ad) ad).room = n) := by show _ = _; rw [ask_room]; exact RM.out
      have NE8 : Hid (Near (GhoM.ask (GhoM.drop g ad) ad) ad 0) := near_new (by show 1 ≤ g.room; rw [RM.out]; exact hn1) (drop_not OK.out ad)
      obtain ⟨g8, hg8⟩ : ∃ x, x = GhoM.ask (GhoM.drop g ad) ad := ⟨_, rfl⟩
      rw [← hg8] at H8 OK8 RM8 NE8
      clear h hg8 H7
      go_wp2_with (fail)
      go_loopw [15, 59] (fun v15 v59 ws => ∃ (j u : Nat) (q : G), j ≤ len3 ∧ u ≤ j ∧ u ≤ 300 ∧ v59 = .int .i64 (j : Int) ∧ v15 = .int .i64 (u : Int) ∧ Own.St w.heap.size w ws [K.A p q] ∧ Ok q ∧ q.room = n ∧ (u < n → Near q ad u)) (fun _ v59 _ => len3 - (intOf v59).toNat)
      case atStart => exact ⟨0, 0, g8, Nat.zero_le _, Nat.le_refl _, by omega, rfl, rfl, H8.out, OK8.out, RM8.out, fun _ => NE8.out⟩
      case round =>
        obtain ⟨j, u, q, hjn, huj, hu300, rfl, rfl, h, hok, hrm, hne⟩ := hrel
        have H9 := Lib.hid h
        have OK9 := Lib.hid hok
        have RM9 := Lib.hid hrm
        have NE9 := Lib.hid hne
        have RM92 : Hid (q.room ≤ 4096) := by show _ ≤ _; omega
        clear h hok hrm hne H8 OK8 RM8 NE8 H OK RM RM2
        by_cases hj : (j : Int) < (len3 : Int)
        · have hj2 : j < len3 := by omega
          by_cases hj3 : (j : Int) < 300
          · have hjl : j < l3.length := by rw [← HLEN3.out]; exact hj2
            obtain ⟨b, o, hbo, _, hra⟩ := HAT3.out (by intro e; rw [e] at hjl; exact absurd hjl (Nat.not_lt_zero _))
            subst hbo
            have hr2 := hra wr (fun q hq => H9.out.below.block q hq) j hjl
            obtain ⟨x, hx⟩ : ∃ x, x = l3[j] := ⟨_, rfl⟩
            rw [← hx] at hr2
            have d0 := hr2.1 0 (aV x) rfl
            rw [Nat.add_zero, Nat.mul_one] at d0
            have HX := Lib.hid hr2.2
            clear hra hr2 hx
            by_cases hxa : x = ad
            · subst hxa
              go_wp2_with (fail)
              go_roundw
              case rel => exact ⟨j + 1, u, q, by omega, by omega, hu300, by go_num, rfl, H9.out, OK9.out, RM9.out, NE9.out⟩
              case measure => simp [intOf]; omega
            · have hne1 : ¬ (x : Int) = (ad : Int) := by omega
              have hne2 : ((x : Int) != (ad : Int)) = true := by simp; omega
              go_wp2_with (fail)
              refine (K.ask x H9.out.below H9.out OK9.out RM92.out HX.out).mono ?_
              obtain ⟨hb, hhb⟩ : ∃ y, y = has q x := ⟨_, rfl⟩
              rw [← hhb]
              have HHB := Lib.hid hhb
              clear hhb
              rintro e wy ⟨rfl, h⟩
              have H10 := Lib.hid h
              clear h
              cases hb
              · go_wp2_with (fail)
                go_roundw
                case rel => exact ⟨j + 1, u + 1, GhoM.ask q x, by omega, by omega, by omega, by go_num, by go_num, H10.out, ok_ask OK9.out HX.out, by rw [ask_room]; exact RM9.out, fun hlt => near_more (by rw [RM9.out]; exact hlt) (NE9.out (by omega)) HHB.out.symm⟩
                case measure => simp [intOf]; omega
              · go_wp2_with (fail)
                go_roundw
                case rel => exact ⟨j + 1, u, GhoM.ask q x, by omega, by omega, hu300, by go_num, rfl, H10.out, ok_ask OK9.out HX.out, by rw [ask_room]; exact RM9.out, fun hlt => near_known hxa (NE9.out hlt) HHB.out.symm⟩
                case measure => simp [intOf]; omega
          · go_wp2_with (fail)
            go_roundw
            case rel => exact ⟨j + 1, u, q, by omega, by omega, hu300, by go_num, rfl, H9.out, OK9.out, RM9.out, NE9.out⟩
            case measure => simp [intOf]; omega
        · by_cases hun : (u : Int) ≥ (r : Int) + 1
          · go_wp2_with (fail)
            go_ret
            exact ⟨rfl, H9.out.below⟩
          · have hun2 : u < n := by have := HN.out; omega
            go_wp2_with (fail)
            refine (K.ask ad H9.out.below H9.out OK9.out RM92.out HAD.out).mono ?_
            rw [near_has (NE9.out hun2)]
            rintro e wy ⟨rfl, h⟩
            have H10 := Lib.hid h
            clear h
            go_wp2_with (fail)
            go_ret
            exact ⟨rfl, H10.out.below⟩
end Gho
end Go.Proofs.Ytlnhkiamhmjckaa

end
section
namespace Go.Proofs.Ytlnhkiamhmjckaa
open Go.RowKit Go.Own
namespace Gho
open Go.GhoM Byt
set_option maxRecDepth 6000 in
set_option maxHeartbeats 6400000 in
theorem walk_first (r0 : Nat) (hr0 : r0 < 256) (a1 : Option Addr) (len1 cap1 : Nat) (l : List ActD) (ad : Nat) (had : ad < 4294967296) {w : World} (w1 : inSlice 2 inAct l w.heap.size w [.slice a1 len1 cap1]) (K : Kept w) :
    Calls Try.prog 7 #[.int .u8 (r0 : Int), .slice a1 len1 cap1, .int .u32 (ad : Int)] w (RetYes w) := by
  obtain ⟨hlen, hcap, hmax, hnil, hat⟩ := acts_inE actVs_len w1
  have SH := Lib.hid (shown_any K (Below.refl _ _))
  have HF := Lib.hid (few_any a1 len1 cap1 hcap hmax)
  have HAT := Lib.hid hat
  have HLEN := Lib.hid hlen
  have HAD := Lib.hid had
  obtain ⟨r, hr⟩ : ∃ r, r = r0 % 30 := ⟨_, rfl⟩
  have hr29 : r ≤ 29 := by omega
  have HRR := Lib.hid hr
  obtain ⟨n, hn⟩ : ∃ n, n = r + 1 := ⟨_, rfl⟩
  have hn30 : n ≤ 30 := by omega
  have hn1 : 1 ≤ n := by omega
  have N1 := fun (wx : World) (hwx : Below w.heap.size w wx) => K.new (w := wx) (B := w.heap.size) (w0 := w) (Ps := []) ((r : Int) + 1) hwx ((Own.St.start w).later hwx) (by omega)
  have hmb : mayBe ((r : Int) + 1) = true := by unfold mayBe; simp; omega
  simp only [hmb, if_true, show ((r : Int) + 1).toNat = n by omega] at N1
  have N1 := Lib.hid N1
  have HN := Lib.hid hn
  clear hat hlen w1 hmax hr hmb hn had hnil
  go_enter Try.func7, Try.ntmps7
  go_wp2_with (fail)
  refine SH.out.mono ?_
  rintro e wa ⟨rfl, h1⟩
  have U1 := Lib.hid h1
  clear h1 SH
  go_wp2_with (refine wpList_val rfl (rem30 rfl HRR.out _ _ rfl rfl) ?_)
  refine (N1.out _ U1.out).mono ?_
  clear N1
  rintro e wb ⟨p, rfl, h⟩
  have H3 := Lib.hid h
  clear h U1
  go_wp2_with (fail)
  refine (HF.out wb).mono ?_
  rintro e wc ⟨rfl, rfl⟩
  obtain ⟨k, hk⟩ : ∃ k, k = min len1 300 := ⟨_, rfl⟩
  rw [← hk]
  have hk1 : k ≤ len1 := by omega
  have hk2 : k ≤ 300 := by omega
  clear hk
  go_wp2
  go_loopw [39] (fun v36 wr => ∃ (i : Nat) (g : G), i ≤ k ∧ v36 = .int .i64 (i : Int) ∧ Own.St w.heap.size w wr [K.A p g] ∧ Ok g ∧ g.room = n) (fun v36 _ => k - (intOf v36).toNat)
  case atStart => exact ⟨0, newG n, Nat.zero_le _, rfl, H3.out, ok_new n, rfl⟩
  case round =>
    obtain ⟨i, g, hik, rfl, h, hok, hroom⟩ := hrel
    have H := Lib.hid h
    have OK := Lib.hid hok
    have RM := Lib.hid hroom
    have RM2 : Hid (g.room ≤ 4096) := by show _ ≤ _; omega
    clear h hok hroom H3
    by_cases hi : (i : Int) < (k : Int)
    · have hik2 : i < k := by omega
      have hil : i < l.length := by rw [← HLEN.out]; omega
      obtain ⟨b, o, hbo, _, hra⟩ := HAT.out (by intro e; rw [e] at hil; exact absurd hil (Nat.not_lt_zero _))
      subst hbo
      have hr2 := hra wr (fun q hq => H.out.below.block q hq) i hil
      obtain ⟨gone, hgone⟩ : ∃ x, x = l[i].gone := ⟨_, rfl⟩
      obtain ⟨x, hx⟩ : ∃ x, x = l[i].addr := ⟨_, rfl⟩
      have hx32 : x < 4294967296 := by rw [hx]; exact hr2.2
      obtain ⟨cs, hcs⟩ : ∃ x, x = actVs l[i] := ⟨_, rfl⟩
      have RA : Hid (wr.rangeAt b (o + i * 2) cs) := by rw [hcs]; exact hr2.1
      have CSL : Hid (cs.length = 2) := by show _ = _; rw [hcs]; rfl
      have CS1 : Hid (∀ u ∈ cs, u.oneCell' = true) := by rw [hcs]; exact actVs_one _
      have K0 : Hid (cs[0]? = some (.bool gone)) := by show _ = _; rw [hcs, hgone]; rfl
      have K1 : Hid (cs[1]? = some (aV x)) := by show _ = _; rw [hcs, hx]; rfl
      have HX := Lib.hid hx32
      have hikl : i < k := hik2
      clear hra hr2 hgone hx hcs hx32
      go_wp2_with (first
        | (refine wpList_val rfl (idx_act rfl hikl _ _ rfl rfl) ?_)
        | (refine wpList_val rfl (load_act cs CSL.out rfl _ (b := b) (k := o + i * 2) RA.out rfl) ?_)
        | (refine wpList_box2 boxy_act rfl rfl rfl (.tmp 12) (.tmp 42) rfl rfl cs (fun _ => rfl) (fun _ => rfl) CSL.out CS1.out H.out ?_; intro b14 w6 h; have HX6 := Lib.hid h; have d0 := (h.cellV 0 rfl 0 K0.out).1; have d1 := (h.cellV 0 rfl 1 K1.out).1; clear h; cases gone))
      · refine (K.ask x HX6.out.below HX6.out.swap2 OK.out RM2.out HX.out).mono ?_
        rintro e w7 ⟨rfl, h⟩
        have H7 := Lib.hid (h.swap2.drop 1)
        simp only [List.drop_succ_cons, List.drop_zero] at H7
        clear h
        go_wp2_with (fail)
        go_roundw
        case rel => exact ⟨i + 1, GhoM.ask g x, by omega, by go_num, H7.out, ok_ask OK.out HX.out, by rw [ask_room]; exact RM.out⟩
        case measure => simp [intOf]; omega
      · refine (K.drop x HX6.out.below HX6.out.swap2 OK.out RM2.out HX.out).mono ?_
        rintro e w7 ⟨rfl, h⟩
        have H7 := Lib.hid (h.swap2.drop 1)
        simp only [List.drop_succ_cons, List.drop_zero] at H7
        clear h
        go_wp2_with (fail)
        go_roundw
        case rel => exact ⟨i + 1, GhoM.drop g x, by omega, by go_num, H7.out, ok_drop OK.out x, RM.out⟩
        case measure => simp [intOf]; omega
    · go_wp2_with (fail)
      refine (K.all H.out.below H.out OK.out RM2.out).mono ?_
      obtain ⟨m, hm⟩ : ∃ m, m = g.L.length := ⟨_, rfl⟩
      have hm30 : m ≤ 30 := by have := OK.out.len; have := RM.out; omega
      rw [← hm]
      have HM := Lib.hid hm
      clear hm
      rintro e w7 ⟨ao, c, rfl, h⟩
      have H7 := Lib.hid h
      clear h
      go_wp2_with (fail)
      refine (K.ask ad H7.out.below H7.out.swap2 OK.out RM2.out HAD.out).mono ?_
      obtain ⟨kn, hkn⟩ : ∃ x, x = has g ad := ⟨_, rfl⟩
      rw [← hkn]
      have HKN := Lib.hid hkn
      clear hkn
      rintro e w8 ⟨rfl, h⟩
      have H8 := Lib.hid h
      clear h H7 H
      go_wp2_with (fail)
      refine (K.all H8.out.below H8.out (ok_ask OK.out HAD.out) (by rw [ask_room]; exact RM2.out)).mono ?_
      obtain ⟨N2, hN2⟩ : ∃ x, x = (GhoM.ask g ad).L := ⟨_, rfl⟩
      obtain ⟨m2, hm2⟩ : ∃ x, x = N2.length := ⟨_, rfl⟩
      rw [← hN2, ← hm2]
      have HN2 := Lib.hid hN2
      have HM2 := Lib.hid hm2
      clear hN2 hm2
      rintro e w9 ⟨a2, c2, rfl, h⟩
      have H9 := Lib.hid h
      clear h H8
      have hm30b : m2 ≤ 31 := by
        have h1 := (ok_ask OK.out HAD.out).len
        rw [ask_room, RM.out, ← HN2.out, ← HM2.out] at h1
        omega
      cases kn
      · have hrow := one_row H9.out ad
        have HW := Lib.hid hrow
        obtain ⟨hx1, hx2, hx3, hx4⟩ := hrow.rowLen 3 rfl
        have HNO := Lib.hid hx4
        have CE : Hid (∀ a', ao = some a' → ∀ j u, (g.L.map aV)[j]? = some u → (w9.alloc (.cells #[aV ad] 33)).cell? (a'.add j) = some u) := by
          intro a' ha j u hu
          obtain ⟨ao', c', e, h⟩ := rd_own hrow 3 rfl
          cases e
          rcases h with h | ⟨g', e, h⟩
          · have := (List.getElem?_eq_some_iff.1 hu).1
            rw [List.length_map, ← HM.out] at this
            omega
          · rw [e] at ha
            cases ha
            rw [add_of, Nat.zero_add]
            exact h j u hu
        have ML : Hid ((g.L.map aV).length = m * 1) := by show _ = _; rw [List.length_map, Nat.mul_one, HM.out]
        obtain ⟨k, hk⟩ : ∃ k, k = min (1 + m) (r + 1) := ⟨_, rfl⟩
        have hmin : min (((1 + m : Nat) : Nat) : Int) ((r : Int) + 1) = (k : Int) := by omega
        have hmin2 : min (1 + (m : Int)) ((r : Int) + 1) = (k : Int) := by omega
        have hk1 : k ≤ 1 + m := by omega
        have HK := Lib.hid hk
        clear hrow hx1 hx3 hx4 hk
        go_wp2_with (first
          | (at_builtin; refine wpList_many_append manyU rfl (.tmp 91) (.tmp 92) rfl HW.out 0 rfl rfl ao m c (g.L.map aV) rfl HNO.out ML.out CE.out (aV_one _) (by omega) (by decide) ?_; intro a4 c4 w2 h2; simp only [List.set_cons_zero] at h2 ⊢; have H2 := Lib.hid h2; have q := h2.rowLen 0 rfl; have Q := Lib.hid q; clear h2 q)
          | (refine wpList_val rfl (cutToU a4 (1 + m) c4 k hk1 Q.out.2.1 Q.out.2.2.1 Q.out.2.2.2 _ _ _ rfl _ _ rfl rfl) ?_))
        have h3 := H2.out.rowCut 0 rfl k hk1
        simp only [List.set_cons_zero, Nat.mul_one] at h3
        have e2 : ((ad :: g.L).take k).map aV = ([ad].map aV ++ g.L.map aV).take k := by rw [List.map_take]; rfl
        have RD2 := rd_own h3 0 rfl
        rw [← e2] at RD2
        have RD1 := rd_own h3 1 rfl
        have hl : ((ad :: g.L).take k).length = k := by rw [List.length_take, List.length_cons, ← HM.out]; omega
        have hsame : N2 = (ad :: g.L).take k := by
          rw [HN2.out, ask_unknown HKN.out.symm, RM.out, HN.out, HK.out]
          have hlen : (ad :: g.L).length = 1 + m := by rw [List.length_cons, ← HM.out, Nat.add_comm]
          rcases Nat.le_total (1 + m) (r + 1) with h | h
          · rw [Nat.min_eq_left h, List.take_of_length_le (by omega), List.take_of_length_le (by omega)]
          · rw [Nat.min_eq_right h]
        have C := sameR_any N2 ((ad :: g.L).take k) m2 k _ _ _ RD1 RD2 HM2.out.symm hl (by omega)
        rw [show (N2 == (ad :: g.L).take k) = true by rw [hsame]; simp] at C
        refine C.mono ?_
        rintro e wz ⟨rfl, h⟩
        have H10 := Lib.hid (H2.out.later h)
        clear h C RD1 RD2 e2 h3 hsame hl
        go_wp2_with (fail)
        go_ret
        exact ⟨rfl, H10.out.below⟩
      · have hst := H9.out.rowFresh (e := 33) (size := 1)
        have HST := Lib.hid hst
        clear hst
        go_wp2_with (fail)
        go_loopw [16, 64] (fun v16 v64 ws => ∃ (i cnt : Nat) (ar : Option Addr) (cr : Nat) (rest : List Nat), i ≤ m ∧ cnt ≤ i ∧ v64 = .int .i64 (i : Int) ∧ v16 = .slice ar cnt cr ∧ rest.length = cnt ∧ rest = (g.L.take i).filter (fun x => !(x == ad)) ∧ Own.St w.heap.size w ws (RowU (.slice ar cnt cr) rest cnt :: RowU (.slice a2 m2 c2) N2 m2 :: K.A p (GhoM.ask g ad) :: RowU (.slice ao m c) g.L m :: [])) (fun _ v64 _ => m - (intOf v64).toNat)
        case atStart => exact ⟨0, 0, none, 0, [], Nat.zero_le _, Nat.le_refl _, rfl, rfl, rfl, rfl, HST.out⟩
        case round =>
          obtain ⟨i, cnt, ar, cr, rest, him, hci, rfl, rfl, hrl, hre, h⟩ := hrel
          have HRL := Lib.hid hrl
          have HRE := Lib.hid hre
          have HH := Lib.hid h
          clear hrl hre h HST H9
          by_cases hi : (i : Int) < (m : Int)
          · have him2 : i < m := by omega
            have hil : i < g.L.length := by rw [← HM.out]; exact him2
            obtain ⟨b, hbb, ⟨u, hu, hc⟩, _, _⟩ := HH.out.rowAt 3 rfl i (by rw [Nat.mul_one]; exact him2)
            subst hbb
            obtain ⟨x, hx⟩ : ∃ x, x = g.L[i] := ⟨_, rfl⟩
            have hu2 : u = aV x := by
              rw [List.getElem?_map, List.getElem?_eq_getElem hil, ← hx] at hu
              exact (Option.some.inj hu).symm
            subst hu2
            have htk : Hid (g.L.take (i + 1) = g.L.take i ++ [x]) := by show _ = _; rw [List.take_succ_eq_append_getElem hil, hx]
            clear hu hx
            by_cases hxa : x = ad
            · subst hxa
              go_wp2_with (fail)
              go_roundw
              case rel => exact ⟨i + 1, cnt, ar, cr, rest, by omega, by omega, by go_num, rfl, HRL.out, by rw [htk.out, List.filter_append, ← HRE.out]; simp, HH.out⟩
              case measure => simp [intOf]; omega
            · have hne1 : ¬ (x : Int) = (ad : Int) := by omega
              have hne2 : ((x : Int) != (ad : Int)) = true := by simp; omega
              have hone := one_row HH.out x
              have HON := Lib.hid hone
              have CX : Hid (∀ a', some (⟨wr.heap.size, 0, none⟩ : Addr) = some a' → ∀ j u, ([aV x] : List Value)[j]? = some u → (wr.alloc (.cells #[aV x] 33)).cell? (a'.add j) = some u) := by
                intro a' ha j u hu
                cases ha
                obtain ⟨ao', c', e, h⟩ := rd_own hone 0 rfl
                cases e
                rcases h with h | ⟨g', e, h⟩
                · omega
                · cases e
                  rw [add_of, Nat.zero_add]
                  exact h j u hu
              clear hone
              go_wp2_with (at_builtin; refine wpList_many_append manyU rfl (.tmp 71) (.tmp 73) rfl HON.out 1 rfl rfl (some ⟨wr.heap.size, 0, none⟩) 1 1 [aV x] rfl (by intro h; cases h) rfl CX.out (aV_one [x]) (by omega) (by decide) ?_; intro a5 c5 w5 h5; simp only [List.set_cons_zero, List.set_cons_succ] at h5 ⊢; have H5 := Lib.hid (h5.drop 1); clear h5)
              go_roundw
              case rel =>
                refine ⟨i + 1, cnt + 1, a5, c5, rest ++ [x], by omega, by omega, by go_num, rfl, by rw [List.length_append, HRL.out]; rfl, ?_, ?_⟩
                · rw [htk.out, List.filter_append, ← HRE.out]
                  congr 1
                  simp [hxa]
                · have h := H5.out
                  simp only [List.drop_succ_cons, List.drop_zero] at h
                  unfold RowU
                  rw [List.map_append]
                  exact h
              case measure => simp [intOf]; omega
          · have hmi : i = m := by omega
            have hks := ask_known OK.out HKN.out.symm
            rw [← HN2.out, ← HM2.out, ← HM.out] at hks
            have hfull : rest = N2 := by rw [HRE.out, hks.1, List.take_of_length_le (by rw [← HM.out]; omega)]
            have hcm : cnt + 1 = m := by rw [← HRL.out, hfull, ← HM2.out]; exact hks.2
            have hq : ((cnt : Int) == (m : Int) - 1) = true := by simp; omega
            have RD1 := rd_own HH.out 1 rfl
            have RD0 := rd_own HH.out 0 rfl
            have C := sameR_any N2 rest m2 cnt _ _ _ RD1 RD0 HM2.out.symm HRL.out (by omega)
            rw [show (N2 == rest) = true by rw [hfull]; simp] at C
            have HC := Lib.hid C
            have HQ := Lib.hid hcm
            clear C RD0 RD1 hfull hks hmi hcm
            go_wp2_with (fail)
            refine HC.out.mono ?_
            rintro e wz ⟨rfl, h⟩
            have H10 := Lib.hid (HH.out.later h)
            clear h
            go_wp2_with (fail)
            go_ret
            exact ⟨rfl, H10.out.below⟩
end Gho
end Go.Proofs.Ytlnhkiamhmjckaa

end
section
namespace Go.Own
open Go.RowKit Go.Maps

open Classical in
noncomputable def putK {α : Type} (g : Lit → α) (kl : Lit) (x : α) : Lit → α := fun l => if l = kl then x else g l
theorem putK_same {α : Type} {g : Lit → α} {kl : Lit} {x : α} : putK g kl x kl = x := by unfold putK; rw [if_pos rfl]
theorem putK_other {α : Type} {g : Lit → α} {kl l : Lit} {x : α} (h : l ≠ kl) : putK g kl x l = g l := by unfold putK; rw [if_neg h]
def rawV : Value → Option (DataW Value × List MemPlace) := fun v => some (.held v, [])
/-- block b is a map of at most n entries; g: the value at a key; z: where there is none -/
def AMap (P : Program) (kt : TypeId) (z : Value) (b n : Nat) (g : Lit → Value) : Asn where
  holds S w := (∃ D : DataW Value, w.ownsMap P kt rawV b n D ∧ ∀ kl, D.atKey kl (.held z) = .held (g kl)) ∧ ∀ k, S k ↔ k = b
  keep h gs hd := by
    obtain ⟨⟨D, ⟨es, clock, hb, r⟩, h1⟩, h5⟩ := h
    exact ⟨⟨D, ⟨es, clock, (gs.block _ (lt_of_block hb) (hd _ ((h5 _).2 rfl))).trans hb, r⟩, h1⟩, h5⟩
  lt h k hk := by
    obtain ⟨⟨D, hm, h1⟩, h5⟩ := h
    rw [(h5 k).1 hk]
    exact hm.lt
section
variable {P : Program} {kt mt vt : TypeId} {z : Value} {B : Nat} {w0 w : World} {Ps : List Asn} {b n : Nat} {g : Lit → Value}
theorem St.mapMake (H : St B w0 w Ps) : ∃ w' b, (Instr.makeMap mt none).run P w = .ok (.map (some b)) w' ∧ St B w0 w' (AMap P kt z b 0 (fun _ => z) :: Ps) := by
  refine ⟨_, w.heap.size, run_makeMap mt w, H.new (S' := fun k => k = w.heap.size) (AMap P kt z _ 0 _) ⟨⟨.map [], World.ownsMap_made w _ _ _, fun kl => rfl⟩, fun k => Iff.rfl⟩ (((Step.refl (fun _ => False) w).alloc (.map #[] 0)).to (fun k hk => .inr (Nat.le_of_eq hk.symm)))⟩
theorem St.mapLook (H : St B w0 w Ps) (i : Nat) (hi : Ps[i]? = some (AMap P kt z b n g)) (K : Keyed P kt) (hmt : P.underlying mt = some (.map kt vt)) (hz : ∀ w, (zeroValue vt).run P w = .ok z w) {kv : Value} {kl : Lit} (hk : keyOf P kt kv = some kl) :
    (Instr.lookup mt (.map (some b)) kv false).run P w = .ok (g kl) w := by
  obtain ⟨S, ⟨⟨D, hm, h1⟩, _⟩, _⟩ := H.at i hi
  obtain ⟨v, ps, hrun, hv⟩ := hm.lookup K hmt (hz w) (zd := .held z) (zp := []) rfl hk
  rw [h1] at hv
  simp only [rawV, Option.some.injEq, Prod.mk.injEq, DataW.held.injEq] at hv
  rw [hrun, hv.1]
theorem St.mapPut (H : St B w0 w Ps) (i : Nat) (hi : Ps[i]? = some (AMap P kt z b n g)) (K : Keyed P kt) (hmt : P.underlying mt = some (.map kt vt)) (hn : n < 1000000000) {kv : Value} {kl : Lit} (hk : keyOf P kt kv = some kl) (v : Value) :
    ∃ w', (Instr.mapUpdate mt (.map (some b)) kv v).run P w = .ok () w' ∧ St B w0 w' (Ps.set i (AMap P kt z b (n + 1) (putK g kl v))) := by
  obtain ⟨S, ⟨⟨D, hm, h1⟩, h5⟩, _, put⟩ := H.at i hi
  obtain ⟨w2, hrun2, hm2, g2⟩ := hm.update K hmt (by unfold maxLen; omega) hk (val := v) (d := .held v) (ps := []) rfl
  have hD : IsMap D := by obtain ⟨es, clock, _, _, _, hD⟩ := hm; exact ⟨_, hD⟩
  refine ⟨w2, hrun2, put (fun k => k = b) w2 (AMap P kt z b (n + 1) _) ⟨⟨_, hm2, fun l => ?_⟩, fun k => Iff.rfl⟩ ?_⟩
  · by_cases hl : l = kl
    · subst hl
      rw [putK_same]
      exact atKey_put_same hD (K.key hk) _ _
    · rw [putK_other hl, atKey_put_other hl]
      exact h1 l
  · refine ⟨g2.os, g2.tape, g2.output, g2.size, fun k hk hn => g2.block k hk (fun e => hn ((h5 k).2 (by cases e; rfl))), fun k hk => .inl ((h5 k).2 hk)⟩
end
/-- a look-up, as an operation -/
theorem look_exec {P : Program} {o : Oper} {x y : Tmp} {mt : TypeId} (ho : o.op = .lookup mt (.tmp x) (.tmp y) false) {m kv v : Value} {w : World} (hrun : (Instr.lookup mt m kv false).run P w = .ok v w) (ρ : Operand → Value) (h0 : ρ (.tmp x) = m) (h1 : ρ (.tmp y) = kv) : (execOp ρ o).run P w = .ok (.value v) w := by
  simp [execOp, ho, h0, h1, hrun, go_sem]
end Go.Own

end
section
namespace Go.Proofs.Ytlnhkiamhmjckaa
open Go.RowKit Go.Own Go.Maps
namespace Gho
open Go.GhoM Byt
theorem u32Keyed : Maps.Keyed Try.prog 33 := Maps.int_keyed Try.underlying33
theorem u32_key {a : Nat} (h : a < 4294967296) : keyOf Try.prog 33 (.int .u32 (a : Int)) = some (.int .u32 (a : Int)) :=
  Maps.keyOf_int_mk Try.underlying33 (by simp [Lit.wf, IntKind.min, IntKind.max, IntKind.signed, IntKind.bits]; omega)
theorem rem31 {o : Oper} {x : Tmp} (ho : o.op = .binOp .rem 5 (.tmp x) (.const (.int .u8 31)) 5) {a f : Nat} (hf : f = a % 31) (ρ : Operand → Value) (w : World) (h0 : ρ (.tmp x) = .int .u8 (a : Int)) (h1 : ρ (.const (.int .u8 31)) = .int .u8 31) : (execOp ρ o).run Try.prog w = .ok (.value (.int .u8 (f : Int))) w := by
  have e : (a : Int).tmod 31 = (f : Int) := by rw [hf]; rfl
  have e2 : IntKind.u8.wrap (f : Int) = (f : Int) := by rw [IntWalk.u8_in _ (by omega)]
  simp [execOp, ho, h0, h1, go_sem, e]
set_option maxRecDepth 6000 in
set_option maxHeartbeats 6400000 in
theorem walk_room (r0 : Nat) (hr0 : r0 < 256) (a1 : Option Addr) (len1 cap1 : Nat) (l : List ActD) {w : World} (w1 : inSlice 2 inAct l w.heap.size w [.slice a1 len1 cap1]) (K : Kept w) :
    Calls Try.prog 4 #[.int .u8 (r0 : Int), .slice a1 len1 cap1] w (RetYes w) := by
  obtain ⟨hlen, hcap, hmax, hnil, hat⟩ := acts_inE actVs_len w1
  have SH := Lib.hid (shown_any K (Below.refl _ _))
  have HF := Lib.hid (few_any a1 len1 cap1 hcap hmax)
  have HAT := Lib.hid hat
  have HLEN := Lib.hid hlen
  obtain ⟨r, hr⟩ : ∃ r, r = r0 % 31 := ⟨_, rfl⟩
  have hr30 : r ≤ 30 := by omega
  have HRR := Lib.hid hr
  obtain ⟨n, hn⟩ : ∃ n, n = r := ⟨_, rfl⟩
  have hn30 : n ≤ 30 := by omega
  have N1 := fun (wx : World) (hwx : Below w.heap.size w wx) => K.new (w := wx) (B := w.heap.size) (w0 := w) (Ps := []) (r : Int) hwx ((Own.St.start w).later hwx) (by omega)
  have hmb : mayBe (r : Int) = true := by unfold mayBe; simp; omega
  simp only [hmb, if_true, show (r : Int).toNat = n by omega] at N1
  have N1 := Lib.hid N1
  have HN := Lib.hid hn
  clear hat hlen w1 hmax hr hmb hn hnil
  go_enter Try.func4, Try.ntmps4
  go_wp2_with (fail)
  refine SH.out.mono ?_
  rintro e wa ⟨rfl, h1⟩
  have U1 := Lib.hid h1
  clear h1 SH
  go_wp2_with (refine wpList_val rfl (rem31 rfl HRR.out _ _ rfl rfl) ?_)
  refine (N1.out _ U1.out).mono ?_
  clear N1
  rintro e wb ⟨p, rfl, h⟩
  have H3 := Lib.hid h
  clear h U1
  go_wp2_with (fail)
  refine (HF.out wb).mono ?_
  rintro e wc ⟨rfl, rfl⟩
  obtain ⟨k, hk⟩ : ∃ k, k = min len1 300 := ⟨_, rfl⟩
  rw [← hk]
  have hk1 : k ≤ len1 := by omega
  have hk2 : k ≤ 300 := by omega
  clear hk
  go_wp2
  go_loopw [33] (fun v33 wr => ∃ (i : Nat) (g : G), i ≤ k ∧ v33 = .int .i64 (i : Int) ∧ Own.St w.heap.size w wr [K.A p g] ∧ Ok g ∧ g.room = n) (fun v33 _ => k - (intOf v33).toNat)
  case atStart => exact ⟨0, newG n, Nat.zero_le _, rfl, H3.out, ok_new n, rfl⟩
  case round =>
    obtain ⟨i, g, hik, rfl, h, hok, hroom⟩ := hrel
    have H := Lib.hid h
    have OK := Lib.hid hok
    have RM := Lib.hid hroom
    have RM2 : Hid (g.room ≤ 4096) := by show _ ≤ _; omega
    clear h hok hroom H3
    by_cases hi : (i : Int) < (k : Int)
    · have hik2 : i < k := by omega
      have hil : i < l.length := by rw [← HLEN.out]; omega
      obtain ⟨b, o, hbo, _, hra⟩ := HAT.out (by intro e; rw [e] at hil; exact absurd hil (Nat.not_lt_zero _))
      subst hbo
      have hr2 := hra wr (fun q hq => H.out.below.block q hq) i hil
      obtain ⟨gone, hgone⟩ : ∃ x, x = l[i].gone := ⟨_, rfl⟩
      obtain ⟨x, hx⟩ : ∃ x, x = l[i].addr := ⟨_, rfl⟩
      have hx32 : x < 4294967296 := by rw [hx]; exact hr2.2
      obtain ⟨cs, hcs⟩ : ∃ x, x = actVs l[i] := ⟨_, rfl⟩
      have RA : Hid (wr.rangeAt b (o + i * 2) cs) := by rw [hcs]; exact hr2.1
      have CSL : Hid (cs.length = 2) := by show _ = _; rw [hcs]; rfl
      have CS1 : Hid (∀ u ∈ cs, u.oneCell' = true) := by rw [hcs]; exact actVs_one _
      have K0 : Hid (cs[0]? = some (.bool gone)) := by show _ = _; rw [hcs, hgone]; rfl
      have K1 : Hid (cs[1]? = some (aV x)) := by show _ = _; rw [hcs, hx]; rfl
      have HX := Lib.hid hx32
      have hikl : i < k := hik2
      clear hra hr2 hgone hx hcs hx32
      go_wp2_with (first
        | (refine wpList_val rfl (idx_act rfl hikl _ _ rfl rfl) ?_)
        | (refine wpList_val rfl (load_act cs CSL.out rfl _ (b := b) (k := o + i * 2) RA.out rfl) ?_)
        | (refine wpList_box2 boxy_act rfl rfl rfl (.tmp 10) (.tmp 36) rfl rfl cs (fun _ => rfl) (fun _ => rfl) CSL.out CS1.out H.out ?_; intro b14 w6 h; have HX6 := Lib.hid h; have d0 := (h.cellV 0 rfl 0 K0.out).1; have d1 := (h.cellV 0 rfl 1 K1.out).1; clear h; cases gone))
      · refine (K.ask x HX6.out.below HX6.out.swap2 OK.out RM2.out HX.out).mono ?_
        rintro e w7 ⟨rfl, h⟩
        have H7 := Lib.hid h
        clear h
        obtain ⟨G2, hG2⟩ : ∃ y, y = GhoM.ask g x := ⟨_, rfl⟩
        have OK2 : Hid (Ok G2) := by rw [hG2]; exact ok_ask OK.out HX.out
        have RMG : Hid (G2.room = n) := by show _ = _; rw [hG2]; rw [ask_room]; exact RM.out
        rw [← hG2] at H7
        skip
        clear hG2 H OK RM RM2 HX6
        have RMH : Hid (G2.room ≤ 4096) := by show _ ≤ _; rw [RMG.out]; omega
        obtain ⟨m, hm⟩ : ∃ m, m = G2.L.length := ⟨_, rfl⟩
        have hmn : m ≤ r := by have h1 := OK2.out.len; rw [RMG.out, ← hm] at h1; have := HN.out; omega
        have hgt : ¬ (m : Int) > (r : Int) := by omega
        have HM := Lib.hid hm
        clear hm
        obtain ⟨w8, bm, hmk, h8⟩ := H7.out.mapMake (P := Try.prog) (kt := 33) (mt := 40) (z := .bool false)
        have H8 := Lib.hid h8
        clear h8
        go_wp2_with (fail)
        refine (K.all H8.out.below H8.out.swap2 OK2.out RMH.out).mono ?_
        rw [← HM.out]
        rintro e w9 ⟨ao, c, rfl, h⟩
        have H9 := Lib.hid h
        clear h H8 H7 hmk d0 d1
        go_wp2_with (fail)
        go_loopw [52] (fun v52 ws => ∃ (j nn : Nat) (hd : Lit → Value), j ≤ m ∧ nn ≤ j ∧ v52 = .int .i64 (j : Int) ∧ Own.St w.heap.size w ws [RowU (.slice ao m c) G2.L m, K.A p G2, AMap Try.prog 33 (.bool false) bm nn hd, AVals b14 35 cs] ∧ ∀ a : Nat, a < 4294967296 → hd (.int .u32 (a : Int)) = .bool (decide (a ∈ G2.L.take j))) (fun v52 _ => m - (intOf v52).toNat)
        case atStart => exact ⟨0, 0, _, Nat.zero_le _, Nat.le_refl _, rfl, H9.out, fun a _ => by simp⟩
        case round =>
          obtain ⟨j, nn, hd, hjm, hnj, rfl, h, hhd⟩ := hrel
          have HH := Lib.hid h
          have HD := Lib.hid hhd
          clear h hhd H9
          by_cases hj : (j : Int) < (m : Int)
          · have hj2 : j < m := by omega
            have hjl : j < G2.L.length := by rw [← HM.out]; exact hj2
            obtain ⟨b9, hbb, ⟨u, hu, hc⟩, _, _⟩ := HH.out.rowAt 0 rfl j (by rw [Nat.mul_one]; exact hj2)
            subst hbb
            obtain ⟨y, hy⟩ : ∃ y, y = G2.L[j] := ⟨_, rfl⟩
            have hu2 : u = aV y := by
              rw [List.getElem?_map, List.getElem?_eq_getElem hjl, ← hy] at hu
              exact (Option.some.inj hu).symm
            subst hu2
            have hy32 : y < 4294967296 := by rw [hy]; exact OK2.out.fits _ (List.getElem_mem hjl)
            have hnot : y ∉ G2.L.take j := by
              intro hmem
              obtain ⟨q, hq, he⟩ := List.getElem_of_mem hmem
              rw [List.length_take] at hq
              rw [List.getElem_take, hy] at he
              have := (List.getElem_inj OK2.out.once).1 he
              omega
            have htk : G2.L.take (j + 1) = G2.L.take j ++ [y] := by rw [List.take_succ_eq_append_getElem hjl, hy]
            have hlk : (Instr.lookup 40 (.map (some bm)) (.int .u32 (y : Int)) false).run Try.prog wr = .ok (.bool false) wr := by
              have h := HH.out.mapLook 2 rfl u32Keyed (mt := 40) Try.underlying40 (fun w => by kernel_rfl) (u32_key hy32)
              rw [HD.out y hy32, decide_eq_false hnot] at h
              exact h
            obtain ⟨w10, hpu, h10⟩ := HH.out.mapPut 2 rfl u32Keyed (mt := 40) Try.underlying40 (by omega) (u32_key hy32) (.bool true)
            simp only [List.set_cons_zero, List.set_cons_succ] at h10
            have H10 := Lib.hid h10
            have HD2 : Hid (∀ a : Nat, a < 4294967296 → putK hd (.int .u32 (y : Int)) (.bool true) (.int .u32 (a : Int)) = .bool (decide (a ∈ G2.L.take (j + 1)))) := by
              intro a ha
              by_cases hay : a = y
              · subst hay
                rw [putK_same, htk]
                simp
              · rw [putK_other (by intro e; cases e; exact hay rfl), HD.out a ha, htk]
                simp [hay]
            clear h10 hnot htk hu hy hy32
            go_wp2_with (fail)
            clear hlk hpu
            go_roundw
            case rel => exact ⟨j + 1, nn + 1, _, by omega, by omega, by go_num, H10.out, HD2.out⟩
            case measure => simp [intOf]; omega
          · have d0 := (HH.out.cellV 3 rfl 0 K0.out).1
            have d1 := (HH.out.cellV 3 rfl 1 K1.out).1
            have HFIN := Lib.hid (Own.St.firsts (As := [K.A p G2]) (Bs := [AMap Try.prog 33 (.bool false) bm nn hd, AVals b14 35 cs]) (HH.out.drop 1))
            go_wp2_with (fail)
            go_roundw
            case rel => exact ⟨i + 1, G2, by omega, by go_num, HFIN.out, OK2.out, RMG.out⟩
            case measure => simp [intOf]; omega
      · refine (K.drop x HX6.out.below HX6.out.swap2 OK.out RM2.out HX.out).mono ?_
        rintro e w7 ⟨rfl, h⟩
        have H7 := Lib.hid h
        clear h
        obtain ⟨G2, hG2⟩ : ∃ y, y = GhoM.drop g x := ⟨_, rfl⟩
        have OK2 : Hid (Ok G2) := by rw [hG2]; exact ok_drop OK.out x
        have RMG : Hid (G2.room = n) := by show _ = _; rw [hG2]; exact RM.out
        rw [← hG2] at H7
        have HGN : Hid (x ∉ G2.L) := by rw [hG2]; exact has_not.1 (drop_not OK.out x)
        clear hG2 H OK RM RM2 HX6
        have RMH : Hid (G2.room ≤ 4096) := by show _ ≤ _; rw [RMG.out]; omega
        obtain ⟨m, hm⟩ : ∃ m, m = G2.L.length := ⟨_, rfl⟩
        have hmn : m ≤ r := by have h1 := OK2.out.len; rw [RMG.out, ← hm] at h1; have := HN.out; omega
        have hgt : ¬ (m : Int) > (r : Int) := by omega
        have HM := Lib.hid hm
        clear hm
        obtain ⟨w8, bm, hmk, h8⟩ := H7.out.mapMake (P := Try.prog) (kt := 33) (mt := 40) (z := .bool false)
        have H8 := Lib.hid h8
        clear h8
        go_wp2_with (fail)
        refine (K.all H8.out.below H8.out.swap2 OK2.out RMH.out).mono ?_
        rw [← HM.out]
        rintro e w9 ⟨ao, c, rfl, h⟩
        have H9 := Lib.hid h
        clear h H8 H7 hmk d0 d1
        go_wp2_with (fail)
        go_loopw [52] (fun v52 ws => ∃ (j nn : Nat) (hd : Lit → Value), j ≤ m ∧ nn ≤ j ∧ v52 = .int .i64 (j : Int) ∧ Own.St w.heap.size w ws [RowU (.slice ao m c) G2.L m, K.A p G2, AMap Try.prog 33 (.bool false) bm nn hd, AVals b14 35 cs] ∧ ∀ a : Nat, a < 4294967296 → hd (.int .u32 (a : Int)) = .bool (decide (a ∈ G2.L.take j))) (fun v52 _ => m - (intOf v52).toNat)
        case atStart => exact ⟨0, 0, _, Nat.zero_le _, Nat.le_refl _, rfl, H9.out, fun a _ => by simp⟩
        case round =>
          obtain ⟨j, nn, hd, hjm, hnj, rfl, h, hhd⟩ := hrel
          have HH := Lib.hid h
          have HD := Lib.hid hhd
          clear h hhd H9
          by_cases hj : (j : Int) < (m : Int)
          · have hj2 : j < m := by omega
            have hjl : j < G2.L.length := by rw [← HM.out]; exact hj2
            obtain ⟨b9, hbb, ⟨u, hu, hc⟩, _, _⟩ := HH.out.rowAt 0 rfl j (by rw [Nat.mul_one]; exact hj2)
            subst hbb
            obtain ⟨y, hy⟩ : ∃ y, y = G2.L[j] := ⟨_, rfl⟩
            have hu2 : u = aV y := by
              rw [List.getElem?_map, List.getElem?_eq_getElem hjl, ← hy] at hu
              exact (Option.some.inj hu).symm
            subst hu2
            have hy32 : y < 4294967296 := by rw [hy]; exact OK2.out.fits _ (List.getElem_mem hjl)
            have hnot : y ∉ G2.L.take j := by
              intro hmem
              obtain ⟨q, hq, he⟩ := List.getElem_of_mem hmem
              rw [List.length_take] at hq
              rw [List.getElem_take, hy] at he
              have := (List.getElem_inj OK2.out.once).1 he
              omega
            have htk : G2.L.take (j + 1) = G2.L.take j ++ [y] := by rw [List.take_succ_eq_append_getElem hjl, hy]
            have hlk : (Instr.lookup 40 (.map (some bm)) (.int .u32 (y : Int)) false).run Try.prog wr = .ok (.bool false) wr := by
              have h := HH.out.mapLook 2 rfl u32Keyed (mt := 40) Try.underlying40 (fun w => by kernel_rfl) (u32_key hy32)
              rw [HD.out y hy32, decide_eq_false hnot] at h
              exact h
            obtain ⟨w10, hpu, h10⟩ := HH.out.mapPut 2 rfl u32Keyed (mt := 40) Try.underlying40 (by omega) (u32_key hy32) (.bool true)
            simp only [List.set_cons_zero, List.set_cons_succ] at h10
            have H10 := Lib.hid h10
            have HD2 : Hid (∀ a : Nat, a < 4294967296 → putK hd (.int .u32 (y : Int)) (.bool true) (.int .u32 (a : Int)) = .bool (decide (a ∈ G2.L.take (j + 1)))) := by
              intro a ha
              by_cases hay : a = y
              · subst hay
                rw [putK_same, htk]
                simp
              · rw [putK_other (by intro e; cases e; exact hay rfl), HD.out a ha, htk]
                simp [hay]
            clear h10 hnot htk hu hy hy32
            go_wp2_with (fail)
            clear hlk hpu
            go_roundw
            case rel => exact ⟨j + 1, nn + 1, _, by omega, by omega, by go_num, H10.out, HD2.out⟩
            case measure => simp [intOf]; omega
          · have d0 := (HH.out.cellV 3 rfl 0 K0.out).1
            have d1 := (HH.out.cellV 3 rfl 1 K1.out).1
            have hlk : (Instr.lookup 40 (.map (some bm)) (.int .u32 (x : Int)) false).run Try.prog wr = .ok (.bool false) wr := by
              have h := HH.out.mapLook 2 rfl u32Keyed (mt := 40) Try.underlying40 (fun w => by kernel_rfl) (u32_key HX.out)
              rw [HD.out x HX.out, decide_eq_false (fun hm => HGN.out (List.mem_of_mem_take hm))] at h
              exact h
            have HFIN := Lib.hid (Own.St.firsts (As := [K.A p G2]) (Bs := [AMap Try.prog 33 (.bool false) bm nn hd, AVals b14 35 cs]) (HH.out.drop 1))
            go_wp2_with (fail)
            go_roundw
            case rel => exact ⟨i + 1, G2, by omega, by go_num, HFIN.out, OK2.out, RMG.out⟩
            case measure => simp [intOf]; omega
    · go_wp2_with (fail)
      go_ret
      exact ⟨rfl, H.out.below⟩
end Gho
end Go.Proofs.Ytlnhkiamhmjckaa

end
section
namespace Go.Proofs.Ytlnhkiamhmjckaa
open Go.RowKit Go.Own
namespace Gho
open Go.GhoM Byt
open Rec (nat_u32)
theorem opens_act : Opens Try.prog 35 inAct := by
  intro H enc w fuel cs x h
  obtain ⟨hl, hf⟩ := opens_fields (P := Try.prog) Try.underlying35 h
  rw [show Try.prog.cellsOf 35 = 2 by kernel_rfl] at hl
  obtain ⟨c0, c1, rfl⟩ : ∃ a b, cs = [a, b] := by
    rcases cs with _ | ⟨c0, _ | ⟨c1, _ | ⟨c2, r⟩⟩⟩
    · simp at hl
    · simp at hl
    · exact ⟨c0, c1, rfl⟩
    · simp at hl
  obtain ⟨n0, y0, h0⟩ := hf 0 _ rfl
  obtain ⟨n1, y1, h1⟩ := hf 1 _ rfl
  obtain ⟨a0, e0⟩ := opens_bool (P := Try.prog) Try.underlying4 H enc w n0 _ y0 h0
  obtain ⟨a1, e1, w1⟩ := opens_int (P := Try.prog) Try.underlying33 H enc w n1 _ y1 h1
  obtain ⟨u, rfl, hu⟩ := nat_u32 w1
  have k0 : Try.prog.cellsOf 4 = 1 := by kernel_rfl
  have k1 : Try.prog.cellsOf 33 = 1 := by kernel_rfl
  have e0' : c0 = .bool a0 := by simpa [k0, inBool] using e0
  have e1' : c1 = .int .u32 (u : Int) := by simpa [k1] using e1
  subst e0' e1'
  exact ⟨⟨a0, u⟩, rfl, hu⟩
theorem opens_u : Opens Try.prog 33 inU := by
  intro H enc w fuel cs x h
  obtain ⟨a1, e1, w1⟩ := opens_int (P := Try.prog) Try.underlying33 H enc w fuel cs x h
  obtain ⟨u, rfl, hu⟩ := nat_u32 w1
  exact ⟨u, e1, hu⟩
theorem u8_nat {a : Int} (h : (Lit.int .u8 a).wf = true) : ∃ u : Nat, a = u ∧ u < 256 := by
  have h2 : 0 ≤ a ∧ a ≤ 255 := by simpa [Lit.wf, IntKind.min, IntKind.max, IntKind.signed, IntKind.bits] using h
  exact ⟨a.toNat, by omega, by omega⟩
theorem in_nil (a : Int) (h : (Lit.int .u32 a).wf = true) (w : World) (K : Kept w) : Calls Try.prog 6 #[.int .u32 a] w (RetYes w) := by
  obtain ⟨u, rfl, hu⟩ := nat_u32 h
  exact walk_nil u hu K
theorem in_known (a0 : Int) (h0 : (Lit.int .u8 a0).wf = true) (a1 : Option Addr) (len1 cap1 : Nat) (l : List ActD) (a2 : Int) (h2 : (Lit.int .u32 a2).wf = true) (a3 : Option Addr) (len3 cap3 : Nat) (l3 : List Nat) {w : World} (w1 : inSlice 2 inAct l w.heap.size w [.slice a1 len1 cap1]) (w3 : inSlice 1 inU l3 w.heap.size w [.slice a3 len3 cap3]) (K : Kept w) :
    Calls Try.prog 5 #[.int .u8 a0, .slice a1 len1 cap1, .int .u32 a2, .slice a3 len3 cap3] w (RetYes w) := by
  obtain ⟨r, rfl, hr⟩ := u8_nat h0
  obtain ⟨u, rfl, hu⟩ := nat_u32 h2
  exact walk_known r hr a1 len1 cap1 l u hu a3 len3 cap3 l3 w1 w3 K
theorem in_first (a0 : Int) (h0 : (Lit.int .u8 a0).wf = true) (a1 : Option Addr) (len1 cap1 : Nat) (l : List ActD) (a2 : Int) (h2 : (Lit.int .u32 a2).wf = true) {w : World} (w1 : inSlice 2 inAct l w.heap.size w [.slice a1 len1 cap1]) (K : Kept w) :
    Calls Try.prog 7 #[.int .u8 a0, .slice a1 len1 cap1, .int .u32 a2] w (RetYes w) := by
  obtain ⟨r, rfl, hr⟩ := u8_nat h0
  obtain ⟨u, rfl, hu⟩ := nat_u32 h2
  exact walk_first r hr a1 len1 cap1 l u hu w1 K
theorem in_room (a0 : Int) (h0 : (Lit.int .u8 a0).wf = true) (a1 : Option Addr) (len1 cap1 : Nat) (l : List ActD) {w : World} (w1 : inSlice 2 inAct l w.heap.size w [.slice a1 len1 cap1]) (K : Kept w) :
    Calls Try.prog 4 #[.int .u8 a0, .slice a1 len1 cap1] w (RetYes w) := by
  obtain ⟨r, rfl, hr⟩ := u8_nat h0
  exact walk_room r hr a1 len1 cap1 l w1 K
end Gho
end Go.Proofs.Ytlnhkiamhmjckaa

end
section
namespace Go.Own
open Go.RowKit

def updL (L : Nat → Bool) (i : Nat) : Nat → Bool := fun j => if j = i then true else L j
section
variable {P : Program} {ops : Array Oper} {md : Region.Mode} {CL : (Nat → Bool) → World → Prop}
/-- what may be taken for granted when operation i comes up -/
structure Comes (ops : Array Oper) (md : Region.Mode) (i : Nat) (o : Oper) (L : Nat → Bool) : Prop where
  not : L i = false
  closed : ∀ (j : Nat) (oj : Oper), ops[j]? = some oj → L j = true → ∀ e ∈ oj.after, Region.binds md e = true → L e.on = true
  ready : ∀ e ∈ o.after, Region.binds md e = true → L e.on = true
inductive StepG (P : Program) (ops : Array Oper) (md : Region.Mode) (CL : (Nat → Bool) → World → Prop) (i : Nat) (o : Oper) (a : Act) : Act → Prop
  | skip (hw : Region.wanted o (yielded ops a.tmps) = false) (hq : ∀ L w, CL L w → Comes ops md i o L → CL (updL L i) w) : StepG P ops md CL i o a (a.put o.dst undef)
  | val (v : Value) (hw : Region.wanted o (yielded ops a.tmps) = true)
      (h : ∀ L a1 w, CL L w → Comes ops md i o L → (∀ t ∈ o.looksAt ops, a1.tmps.getD t undef = a.tmps.getD t undef) → ∀ (K : Act → World → Prop) (Q : Exit → Act → World → Prop), (∀ w', CL (updL L i) w' → K (a1.put o.dst v) w') → o.wp P a1 w K Q) : StepG P ops md CL i o a (a.put o.dst v)

structure InvG (md : Region.Mode) (ops : Array Oper) (CL : (Nat → Bool) → World → Prop) (a0 : Act) (S : Nat → Act) (listed : Array Bool) (a1 : Act) (w1 : World) : Prop where
  world : CL (fun j => listed.getD j false) w1
  defers : a1.defers = a0.defers
  size : a1.tmps.size = a0.tmps.size
  lsize : listed.size = ops.size
  closed : ∀ (j : Nat) (oj : Oper), ops[j]? = some oj → listed.getD j false = true → ∀ e ∈ oj.after, Region.binds md e = true → listed.getD e.on false = true
  done : ∀ (j : Nat) (oj : Oper) (d : Tmp), ops[j]? = some oj → listed.getD j false = true → oj.dst = some d → a1.tmps.getD d undef = (S (j + 1)).tmps.getD d undef
  rest : ∀ t, (∀ (j : Nat) (oj : Oper), ops[j]? = some oj → listed.getD j false = true → oj.dst ≠ some t) → a1.tmps.getD t undef = a0.tmps.getD t undef

theorem StepG.put {i : Nat} {o : Oper} {a a' : Act} (h : StepG P ops md CL i o a a') : ∃ v, a' = a.put o.dst v := by
  cases h with
  | skip => exact ⟨_, rfl⟩
  | val v => exact ⟨v, rfl⟩
theorem sizesG {a0 : Act} {S : Nat → Act} (hS0 : S 0 = a0) (hst : ∀ (k : Nat) (o : Oper), ops[k]? = some o → StepG P ops md CL k o (S k) (S (k + 1))) :
    ∀ k, k ≤ ops.size → (S k).tmps.size = a0.tmps.size ∧ (S k).defers = a0.defers
  | 0, _ => by rw [hS0]; exact ⟨rfl, rfl⟩
  | k + 1, hk => by
    have h := sizesG hS0 hst k (by omega)
    obtain ⟨v, g⟩ := (hst k ops[k] (Array.getElem?_eq_getElem (by omega))).put
    rw [g]
    exact ⟨(put_size _ _ _).trans h.1, (put_defers _ _ _).trans h.2⟩
theorem otherG {a0 : Act} {S : Nat → Act} (hS0 : S 0 = a0) (hst : ∀ (k : Nat) (o : Oper), ops[k]? = some o → StepG P ops md CL k o (S k) (S (k + 1)))
    (hin : ∀ (k : Nat) (o : Oper) (d : Tmp), ops[k]? = some o → o.dst = some d → d < a0.tmps.size) {t : Tmp} (m : Nat) :
    ∀ q, m + q ≤ ops.size → (∀ j oj, m ≤ j → j < m + q → ops[j]? = some oj → oj.dst ≠ some t) → (S (m + q)).tmps.getD t undef = (S m).tmps.getD t undef
  | 0, _, _ => rfl
  | q + 1, hq, hno => by
    have ih := otherG hS0 hst hin (t := t) m q (by omega) (fun j oj h1 h2 => hno j oj h1 (by omega))
    have hk : ops[m + q]? = some ops[m + q] := Array.getElem?_eq_getElem (by omega)
    have hs := sizesG hS0 hst (m + q) (by omega)
    obtain ⟨v, g⟩ := (hst (m + q) _ hk).put
    refine Eq.trans ?_ ih
    show (S (m + q + 1)).tmps.getD t undef = _
    rw [g]
    have hd := hno (m + q) _ (by omega) (by omega) hk
    cases hdd : (ops[m + q]).dst with
    | none => rfl
    | some d => rw [put_getD _ d t v (by rw [hs.1]; exact hin _ _ d hk hdd), if_neg (fun e => hd (by rw [hdd, e]))]

theorem wpAny_G {Q' : Exit → Act → World → Prop} {a0 : Act} {S : Nat → Act} (hS0 : S 0 = a0)
    (hst : ∀ (k : Nat) (o : Oper), ops[k]? = some o → StepG P ops md CL k o (S k) (S (k + 1)))
    (hin : ∀ (k : Nat) (o : Oper) (d : Tmp), ops[k]? = some o → o.dst = some d → d < a0.tmps.size)
    (hone : ∀ (j k : Nat) (x y : Oper) (d : Tmp), ops[j]? = some x → ops[k]? = some y → x.dst = some d → y.dst = some d → j = k)
    (hlex : ∀ (i : Nat) (oi : Oper), ops[i]? = some oi → (∀ e ∈ oi.after, Region.binds md e = true → e.on < i) ∧ ∀ j oj, i < j → ops[j]? = some oj → (∃ e ∈ oj.after, Region.binds md e = true ∧ e.on = i) ∨ oi.apart ops oj = true)
    (hfin : ∀ (a1 : Act) (w1 : World) (L : Nat → Bool), CL L w1 → (∀ i, i < ops.size → L i = true) → a1 = S ops.size → Q' .normal a1 w1) :
    ∀ (fuel : Nat) (listed : Array Bool) (a1 : Act) (w1 : World), (∃ s, (List.range ops.size).filter (fun i => !listed.getD i true) = s ∧ s.length = fuel) → InvG md ops CL a0 S listed a1 w1 → wpAny P md ops Q' fuel listed a1 w1 := by
  have hready : ∀ listed : Array Bool, listed.size = ops.size → Region.ready md ops listed = [] → ∀ i, i < ops.size → listed.getD i true = true := by
    intro listed hls hr i
    induction i using Nat.strongRecOn with
    | _ i ih =>
      intro hi
      rcases hb : listed.getD i true with _ | _
      · exfalso
        have : i ∈ Region.ready md ops listed := by
          refine mem_ready.2 ⟨hb, ops[i], Array.getElem?_eq_getElem hi, fun e he hbd => ?_⟩
          have h1 := (hlex i _ (Array.getElem?_eq_getElem hi)).1 e he hbd
          have h2 := ih e.on h1 (by omega)
          have h3 : e.on < listed.size := by omega
          simpa [h3] using h2
        rw [hr] at this
        cases this
      · rfl
  have hend : ∀ (fuel : Nat) (listed : Array Bool) (a1 : Act) (w1 : World), InvG md ops CL a0 S listed a1 w1 → (∀ i, i < ops.size → listed.getD i true = true) → wpAny P md ops Q' fuel listed a1 w1 := by
    intro fuel listed a1 w1 hI hall
    have hsz := sizesG hS0 hst ops.size (Nat.le_refl _)
    have hallf : ∀ i, i < ops.size → listed.getD i false = true := by
      intro i hi
      have h1 := hall i hi
      have h2 : i < listed.size := by rw [hI.lsize]; exact hi
      simpa [h2] using h1
    have hnr : Region.ready md ops listed = [] := by
      apply List.eq_nil_iff_forall_not_mem.2
      intro i hi
      obtain ⟨h0, o, ho, _⟩ := mem_ready.1 hi
      have := hall i (Array.getElem?_eq_some_iff.1 ho).1
      rw [this] at h0; cases h0
    refine wpAny_done hnr (hfin a1 w1 _ hI.world hallf ?_) fuel
    have hslot : ∀ t, a1.tmps.getD t undef = (S ops.size).tmps.getD t undef := by
      intro t
      by_cases hw : ∃ (j : Nat) (oj : Oper), ops[j]? = some oj ∧ oj.dst = some t
      · obtain ⟨j, oj, hj, hd⟩ := hw
        have hjl := (Array.getElem?_eq_some_iff.1 hj).1
        have h1 := hI.done j oj t hj (hallf j hjl) hd
        have h2 := otherG hS0 hst hin (t := t) (j + 1) (ops.size - (j + 1)) (by omega) (fun i oi h1 h2 hi hdi => by
          have := hone i j oi oj t hi hj hdi hd; omega)
        rw [show j + 1 + (ops.size - (j + 1)) = ops.size by omega] at h2
        exact h1.trans h2.symm
      · have h1 := hI.rest t (fun j oj hj hl hd => hw ⟨j, oj, hj, hd⟩)
        have h2 := otherG hS0 hst hin (t := t) 0 ops.size (by omega) (fun j oj _ h2 hj hd => hw ⟨j, oj, hj, hd⟩)
        rw [Nat.zero_add, hS0] at h2
        exact h1.trans h2.symm
    have hts : a1.tmps = (S ops.size).tmps := by
      apply Array.ext
      · rw [hI.size, hsz.1]
      · intro i h1 h2
        have := hslot i
        simpa [Array.getD, h1, h2] using this
    have hds : a1.defers = (S ops.size).defers := hI.defers.trans hsz.2.symm
    cases a1
    cases hS : S ops.size
    rw [hS] at hts hds
    simp only at hts hds
    subst hts hds
    rfl
  intro fuel
  induction fuel with
  | zero =>
    rintro listed a1 w1 ⟨s, hs, hlen⟩ hI
    refine hend 0 listed a1 w1 hI (fun i hi => ?_)
    have hnil : s = [] := List.eq_nil_of_length_eq_zero hlen
    subst hnil
    have := List.filter_eq_nil_iff.1 hs i (List.mem_range.2 (by omega))
    simpa using this
  | succ fuel ih =>
    rintro listed a1 w1 ⟨s, hs, hlen⟩ hI
    by_cases hdone : ∀ i, i < ops.size → listed.getD i true = true
    · exact hend (fuel + 1) listed a1 w1 hI hdone
    refine ⟨fun h0 => absurd (fun i hi => hready listed hI.lsize h0 i (by omega)) hdone, fun i hi => ?_⟩
    obtain ⟨hun, oi, hoi, hall⟩ := mem_ready.1 hi
    have hil := (Array.getElem?_eq_some_iff.1 hoi).1
    have hill : i < listed.size := by rw [hI.lsize]; exact hil
    have hunf : listed.getD i false = false := by simpa [hill] using hun
    have hcount : ∃ s', (List.range ops.size).filter (fun j => !(listed.setIfInBounds i true).getD j true) = s' ∧ s'.length = fuel := by
      refine ⟨_, rfl, ?_⟩
      have hn : (List.range ops.size).Nodup := List.nodup_range
      have e : (List.range ops.size).filter (fun j => !(listed.setIfInBounds i true).getD j true) = ((List.range ops.size).filter fun j => !listed.getD j true).erase i := by
        rw [List.Nodup.erase_eq_filter (List.Pairwise.filter _ hn), List.filter_filter]
        apply List.filter_congr
        intro j hj
        by_cases hji : j = i
        · subst hji; simp [hill]
        · rw [getD_set_ne true (Ne.symm hji)]; simp [hji]
      rw [e, List.length_erase_of_mem (List.mem_filter.2 ⟨List.mem_range.2 hil, by simp only [hun]; rfl⟩), hs, hlen]
      rfl
    have hlook : ∀ t ∈ oi.looksAt ops, a1.tmps.getD t undef = (S i).tmps.getD t undef := by
      intro t ht
      have hback : (∀ (j : Nat) (oj : Oper), ops[j]? = some oj → oj.dst = some t → i ≤ j) → (∀ (j : Nat) (oj : Oper), ops[j]? = some oj → oj.dst = some t → listed.getD j false = false) → a1.tmps.getD t undef = (S i).tmps.getD t undef := by
        intro h1 h2
        have h3 := otherG hS0 hst hin (t := t) 0 i (by omega) (fun j oj _ hj ho hd => by have := h1 j oj ho hd; omega)
        rw [Nat.zero_add, hS0] at h3
        refine Eq.trans (hI.rest t (fun j oj hj hl hd => ?_)) h3.symm
        rw [h2 j oj hj hd] at hl; cases hl
      by_cases hw : ∃ (j : Nat) (oj : Oper), ops[j]? = some oj ∧ oj.dst = some t
      · obtain ⟨j, oj, hj, hd⟩ := hw
        have huniq : ∀ (j' : Nat) (oj' : Oper), ops[j']? = some oj' → oj'.dst = some t → j' = j := fun j' oj' h1 h2 => hone j' j oj' oj t h1 hj h2 hd
        rcases Nat.lt_trichotomy j i with hji | hji | hji
        · rcases (hlex j oj hj).2 i oi hji hoi with ⟨e, he, hb, heq⟩ | hap
          · have hl : listed.getD j false = true := by rw [← heq]; exact hall e he hb
            have h1 := hI.done j oj t hj hl hd
            have h2 := otherG hS0 hst hin (t := t) (j + 1) (i - (j + 1)) (by omega) (fun j' oj' h1 _ h3 h4 => by have := huniq j' oj' h3 h4; omega)
            rw [show j + 1 + (i - (j + 1)) = i by omega] at h2
            exact h1.trans h2.symm
          · exact absurd ht ((Oper.apart_spec hap).1 t hd)
        · subst hji
          refine hback (fun j' oj' h1 h2 => by have := huniq j' oj' h1 h2; omega) (fun j' oj' h1 h2 => by rw [huniq j' oj' h1 h2]; exact hunf)
        · rcases (hlex i oi hoi).2 j oj hji hj with ⟨e, he, hb, heq⟩ | hap
          · refine hback (fun j' oj' h1 h2 => by have := huniq j' oj' h1 h2; omega) (fun j' oj' h1 h2 => ?_)
            rw [huniq j' oj' h1 h2]
            rcases hlj : listed.getD j false with _ | _
            · rfl
            · have := hI.closed j oj hj hlj e he hb
              rw [heq, hunf] at this; cases this
          · exact absurd ht ((Oper.apart_spec hap).2.2 t hd)
      · exact hback (fun j oj h1 h2 => absurd ⟨j, oj, h1, h2⟩ hw) (fun j oj h1 h2 => absurd ⟨j, oj, h1, h2⟩ hw)
    have hsz := sizesG hS0 hst i (by omega)
    have hsame : a1.tmps.size = (S i).tmps.size := hI.size.trans hsz.1.symm
    have hupd : (fun j => (listed.setIfInBounds i true).getD j false) = updL (fun j => listed.getD j false) i := by
      funext j
      unfold updL
      by_cases hji : j = i
      · subst hji; simp [hill]
      · rw [getD_set_ne false (Ne.symm hji), if_neg hji]
    have hcomes : Comes ops md i oi (fun j => listed.getD j false) := ⟨hunf, hI.closed, hall⟩
    have hnext : ∀ (v : Value) (w' : World), S (i + 1) = (S i).put oi.dst v → CL (updL (fun j => listed.getD j false) i) w' → InvG md ops CL a0 S (listed.setIfInBounds i true) (a1.put oi.dst v) w' := by
      intro v w' hv hb
      have hget : ∀ t, oi.dst ≠ some t → (a1.put oi.dst v).tmps.getD t undef = a1.tmps.getD t undef := by
        intro t ht
        cases hd : oi.dst with
        | none => rfl
        | some d => rw [put_getD a1 d t v (by rw [hI.size]; exact hin i oi d hoi hd), if_neg (fun e => ht (by rw [hd, e]))]
      have hlist : ∀ j, (listed.setIfInBounds i true).getD j false = true → j = i ∨ listed.getD j false = true := by
        intro j hj
        by_cases hji : j = i
        · exact .inl hji
        · rw [getD_set_ne false (Ne.symm hji)] at hj; exact .inr hj
      refine ⟨by rw [hupd]; exact hb, (put_defers _ _ _).trans hI.defers, (put_size _ _ _).trans hI.size, by simpa using hI.lsize, fun j oj hj hl e he hbd => ?_, fun j oj d hj hl hd => ?_, fun t ht => ?_⟩
      · rcases hlist j hl with rfl | hl
        · obtain rfl : oj = oi := by rw [hoi] at hj; simpa using hj.symm
          exact getD_set_true (hall e he hbd)
        · exact getD_set_true (hI.closed j oj hj hl e he hbd)
      · rcases hlist j hl with rfl | hl
        · obtain rfl : oj = oi := by rw [hoi] at hj; simpa using hj.symm
          rw [hv, hd, put_getD a1 d d v (by rw [hI.size]; exact hin j oj d hj hd), if_pos rfl, put_getD (S j) d d v (by rw [hsz.1]; exact hin j oj d hj hd), if_pos rfl]
        · have hne : oi.dst ≠ some d := by
            intro h
            have := hone i j oi oj d hoi hj h hd
            subst this
            rw [hunf] at hl; cases hl
          rw [hget d hne]
          exact hI.done j oj d hj hl hd
      · have hne : oi.dst ≠ some t := ht i oi hoi (by simp [hill])
        rw [hget t hne]
        exact hI.rest t (fun j oj hj hl => ht j oj hj (getD_set_true hl))
    have hwl : Region.wanted oi (yielded ops a1.tmps) = Region.wanted oi (yielded ops (S i).tmps) :=
      wanted_looks (I := []) (w := w1) (by unfold guardKnown; split; rfl; split <;> rfl) hsame (fun t ht => hlook t ht)
    have hstep := hst i oi hoi
    unfold wpOp
    simp only [hoi]
    generalize hSj : S (i + 1) = sj at *
    cases hstep with
    | skip hw hq =>
      rw [hwl, hw]
      simp only [Bool.false_eq_true, if_false]
      exact ih _ _ _ hcount (hnext undef w1 rfl (hq _ _ hI.world hcomes))
    | val v hw h =>
      rw [hwl, hw]
      simp only [if_true]
      exact .inl (h _ a1 w1 hI.world hcomes hlook _ _ (fun w' hu => ih _ _ _ hcount (hnext v w' rfl hu)))
end

/-! ### how far the chain is -/
/-- so many of the chain have been: what the world is like -/
def CLp (C : Nat → World → Prop) (E : List Nat) (L : Nat → Bool) (w : World) : Prop := C (E.filter L).length w
/-- x is y, or waits for it, some by way of others -/
def waitsGB (ops : Array Oper) : Nat → Nat → Nat → Bool
  | 0, x, y => x == y
  | f + 1, x, y => x == y || match ops[x]? with
    | some o => o.after.any fun e => Region.binds .any e && waitsGB ops f e.on y
    | none => false
theorem waitsGB_sound {ops : Array Oper} {L : Nat → Bool} (hcl : ∀ (j : Nat) (oj : Oper), ops[j]? = some oj → L j = true → ∀ e ∈ oj.after, Region.binds .any e = true → L e.on = true) :
    ∀ (f x y : Nat), waitsGB ops f x y = true → L x = true → L y = true
  | 0, x, y, h, hx => by
    have : x = y := by simpa [waitsGB] using h
    rw [← this]; exact hx
  | f + 1, x, y, h, hx => by
    unfold waitsGB at h
    rw [Bool.or_eq_true] at h
    rcases h with h | h
    · have : x = y := by simpa using h
      rw [← this]; exact hx
    · split at h
      · rename_i o ho
        obtain ⟨e, he, hb⟩ := Array.any_eq_true'.1 h
        rw [Bool.and_eq_true] at hb
        exact waitsGB_sound hcl f e.on y hb.2 (hcl x o ho hx e he hb.1)
      · cases h
/-- each of the chain waits for the one ahead of it -/
def chainB (ops : Array Oper) (E : List Nat) : Bool := decide E.Nodup && E.all (· < ops.size) && (List.range (E.length - 1)).all fun j => match ops[E.getD (j + 1) 0]? with
  | some o => o.after.any fun e => Region.binds .any e && waitsGB ops 12 e.on (E.getD j 0)
  | none => false
section
variable {P : Program} {ops : Array Oper} {C : Nat → World → Prop} {E : List Nat}
theorem chain_edge (hch : chainB ops E = true) (j : Nat) (hj : j + 1 < E.length) : ∃ o, ops[E.getD (j + 1) 0]? = some o ∧ ∃ e ∈ o.after, Region.binds .any e = true ∧ waitsGB ops 12 e.on (E.getD j 0) = true := by
  unfold chainB at hch
  simp only [Bool.and_eq_true] at hch
  have h := List.all_eq_true.1 hch.2 j (List.mem_range.2 (by omega))
  split at h
  · rename_i o ho
    obtain ⟨e, he, hb⟩ := Array.any_eq_true'.1 h
    rw [Bool.and_eq_true] at hb
    exact ⟨o, ho, e, he, hb.1, hb.2⟩
  · cases h
theorem chain_nodup (hch : chainB ops E = true) : E.Nodup := by
  unfold chainB at hch
  simp only [Bool.and_eq_true, decide_eq_true_eq] at hch
  exact hch.1.1
theorem chain_lt (hch : chainB ops E = true) : ∀ i ∈ E, i < ops.size := by
  unfold chainB at hch
  simp only [Bool.and_eq_true] at hch
  intro i hi
  simpa using List.all_eq_true.1 hch.1.2 i hi
theorem chain_down (hch : chainB ops E = true) {L : Nat → Bool} (hcl : ∀ (j : Nat) (oj : Oper), ops[j]? = some oj → L j = true → ∀ e ∈ oj.after, Region.binds .any e = true → L e.on = true) (j : Nat) :
    ∀ d, j + d < E.length → L (E.getD (j + d) 0) = true → L (E.getD j 0) = true
  | 0, _, h => h
  | d + 1, hl, h => by
    obtain ⟨o, ho, e, he, hb, heq⟩ := chain_edge hch (j + d) (by omega)
    have := waitsGB_sound hcl 12 _ _ heq (hcl _ o ho h e he hb)
    exact chain_down hch hcl j d (by omega) this
theorem filter_upd_not {L : Nat → Bool} {k : Nat} (hk : E.contains k = false) : E.filter (updL L k) = E.filter L := by
  apply List.filter_congr
  intro x hx
  unfold updL
  rw [if_neg]
  rintro rfl
  have : E.contains x = true := by simpa using hx
  rw [hk] at this
  cases this
theorem getD_of {j k : Nat} (h : E[j]? = some k) : E.getD j 0 = k := by rw [List.getD_eq_getElem?_getD, h]; rfl
theorem chain_phase (hch : chainB ops E = true) {L : Nat → Bool} {j k : Nat} {o : Oper} (hj : E[j]? = some k) (ho : ops[k]? = some o) (hc : Comes ops .any k o L) :
    (E.filter L).length = j ∧ (E.filter (updL L k)).length = j + 1 := by
  have hjl := (List.getElem?_eq_some_iff.1 hj).1
  have hk := getD_of hj
  have hbef : ∀ i, i < j → L (E.getD i 0) = true := by
    intro i hi
    obtain ⟨o', ho', e, he, hb, heq⟩ := chain_edge hch (j - 1) (by omega)
    rw [show j - 1 + 1 = j by omega, hk, ho] at ho'
    cases ho'
    have h1 := waitsGB_sound hc.closed 12 _ _ heq (hc.ready e he hb)
    have h2 := chain_down hch hc.closed i (j - 1 - i) (by omega)
    rw [show i + (j - 1 - i) = j - 1 by omega] at h2
    exact h2 h1
  have haft : ∀ i, j ≤ i → i < E.length → L (E.getD i 0) = false := by
    intro i hi hl
    rcases hb : L (E.getD i 0) with _ | _
    · rfl
    · have h2 := chain_down hch hc.closed j (i - j) (by omega)
      rw [show j + (i - j) = i by omega] at h2
      have := h2 hb
      rw [hk, hc.not] at this
      cases this
  have hmem : ∀ (l : List Nat) (x : Nat), x ∈ l → ∃ i, i < l.length ∧ l.getD i 0 = x := by
    intro l x hx
    obtain ⟨i, hi, rfl⟩ := List.mem_iff_getElem.1 hx
    exact ⟨i, hi, by rw [List.getD_eq_getElem?_getD, List.getElem?_eq_getElem hi]; rfl⟩
  have e1 : E.filter L = E.take j := by
    conv => lhs; rw [← List.take_append_drop j E]
    rw [List.filter_append, List.filter_eq_self.2, List.filter_eq_nil_iff.2, List.append_nil]
    · intro x hx
      obtain ⟨i, hi, rfl⟩ := hmem _ x hx
      rw [List.length_drop] at hi
      have : (E.drop j).getD i 0 = E.getD (j + i) 0 := by rw [List.getD_eq_getElem?_getD, List.getD_eq_getElem?_getD, List.getElem?_drop]
      rw [this, haft (j + i) (by omega) (by omega)]
      simp
    · intro x hx
      obtain ⟨i, hi, rfl⟩ := hmem _ x hx
      rw [List.length_take] at hi
      have : (E.take j).getD i 0 = E.getD i 0 := by rw [List.getD_eq_getElem?_getD, List.getD_eq_getElem?_getD, List.getElem?_take_of_lt (by omega)]
      rw [this]
      exact hbef i (by omega)
  refine ⟨by rw [e1, List.length_take]; omega, ?_⟩
  have e2 : E.filter (updL L k) = E.take (j + 1) := by
    conv => lhs; rw [← List.take_append_drop (j + 1) E]
    rw [List.filter_append, List.filter_eq_self.2, List.filter_eq_nil_iff.2, List.append_nil]
    · intro x hx
      obtain ⟨i, hi, rfl⟩ := hmem _ x hx
      rw [List.length_drop] at hi
      have : (E.drop (j + 1)).getD i 0 = E.getD (j + 1 + i) 0 := by rw [List.getD_eq_getElem?_getD, List.getD_eq_getElem?_getD, List.getElem?_drop]
      rw [this]
      unfold updL
      rw [if_neg, haft (j + 1 + i) (by omega) (by omega)]
      · simp
      · intro e
        have hn := chain_nodup hch
        rw [List.getD_eq_getElem?_getD, List.getElem?_eq_getElem (by omega)] at e
        have h1 : E[j + 1 + i]? = E[j]? := by rw [hj, List.getElem?_eq_getElem (by omega)]; simpa using e
        have := (List.getElem?_inj (by omega) hn).1 h1
        omega
    · intro x hx
      obtain ⟨i, hi, rfl⟩ := hmem _ x hx
      rw [List.length_take] at hi
      have : (E.take (j + 1)).getD i 0 = E.getD i 0 := by rw [List.getD_eq_getElem?_getD, List.getD_eq_getElem?_getD, List.getElem?_take_of_lt (by omega)]
      rw [this]
      unfold updL
      by_cases hij : i = j
      · rw [hij, hk, if_pos rfl]
      · split
        · rfl
        · exact hbef i (by omega)
  rw [e2, List.length_take]
  omega

/-- operation k waits for the m-th of the chain -/
def behindB (ops : Array Oper) (E : List Nat) (k m : Nat) : Bool := decide (m < E.length) && match ops[k]? with
  | some o => o.after.any fun e => Region.binds .any e && waitsGB ops 30 e.on (E.getD m 0)
  | none => false
theorem chain_least (hch : chainB ops E = true) {L : Nat → Bool} {m k : Nat} {o : Oper} (ho : ops[k]? = some o) (hb : behindB ops E k m = true) (hc : Comes ops .any k o L) : m + 1 ≤ (E.filter L).length := by
  unfold behindB at hb
  rw [ho] at hb
  simp only [Bool.and_eq_true, decide_eq_true_eq] at hb
  obtain ⟨hm, hb⟩ := hb
  obtain ⟨e, he, hb⟩ := Array.any_eq_true'.1 hb
  rw [Bool.and_eq_true] at hb
  have hy := waitsGB_sound hc.closed 30 _ _ hb.2 (hc.ready e he hb.1)
  have hbef : ∀ i, i ≤ m → L (E.getD i 0) = true := by
    intro i hi
    have h2 := chain_down hch hc.closed i (m - i) (by omega)
    rw [show i + (m - i) = m by omega] at h2
    exact h2 hy
  have e1 : (E.take (m + 1)).filter L = E.take (m + 1) := by
    rw [List.filter_eq_self]
    intro x hx
    obtain ⟨i, hi, rfl⟩ := List.mem_iff_getElem.1 hx
    rw [List.length_take] at hi
    have := hbef i (by omega)
    rw [List.getD_eq_getElem?_getD, List.getElem?_eq_getElem (by omega)] at this
    rw [List.getElem_take]
    exact this
  have e2 : E.filter L = E.take (m + 1) ++ (E.drop (m + 1)).filter L := by
    conv => lhs; rw [← List.take_append_drop (m + 1) E]
    rw [List.filter_append, e1]
  rw [e2, List.length_append, List.length_take]
  omega

/-! ### the walk -/
def wpGA (P : Program) (ops : Array Oper) (C : Nat → World → Prop) (E : List Nat) (Q : Act → World → Prop) : Nat → List Oper → Act → Prop
  | _, [], a => ∀ w, C E.length w → Q a w
  | k, o :: rest, a => ∃ a', StepG P ops .any (CLp C E) k o a a' ∧ wpGA P ops C E Q (k + 1) rest a'
theorem wpGA_path {Q : Act → World → Prop} : ∀ (l : List Oper) (k : Nat) (a : Act), wpGA P ops C E Q k l a →
    ∃ S : Nat → Act, S 0 = a ∧ (∀ i o, l[i]? = some o → StepG P ops .any (CLp C E) (k + i) o (S i) (S (i + 1))) ∧ ∀ w, C E.length w → Q (S l.length) w
  | [], k, a, h => ⟨fun _ => a, rfl, fun i o hi => by simp at hi, h⟩
  | o :: rest, k, a, ⟨a', h1, h2⟩ => by
    obtain ⟨S, g0, g1, g2⟩ := wpGA_path rest (k + 1) a' h2
    refine ⟨fun i => match i with | 0 => a | i + 1 => S i, rfl, fun i o' hi => ?_, fun w hw => g2 w hw⟩
    cases i with
    | zero =>
      obtain rfl : o = o' := by simpa using hi
      show StepG P ops .any (CLp C E) (k + 0) o a (S 0)
      rw [g0]; exact h1
    | succ i =>
      have := g1 i o' (by simpa using hi)
      rw [show k + (i + 1) = k + 1 + i by omega]
      exact this
/-- THE REGION -/
theorem wp_region_G {id : Nat} {Q : Exit → Act → World → Prop} {a : Act} {w : World} {l : List Oper} (hm : P.follows .mixedOrders = true) (hB : Region.lexB .any l.toArray = true) (hD : dstsB l a.tmps.size = true) (hch : chainB l.toArray E = true)
    (hC : C 0 { w with drawn := w.drawn + 1 }) (h : wpGA P l.toArray C E (fun a' w' => Q .normal a' w') 0 l a) : (Code.region id l.toArray true).wp P Q a w := by
  obtain ⟨S, hS0, hst, hfin⟩ := wpGA_path l 0 a h
  have hB' : Region.lexFrom .any l.toArray l.toArray.size 0 (Array.replicate l.toArray.size false) = true := by
    simp only [Region.lexB, Bool.and_eq_true] at hB; exact hB.2
  have hf : ∀ j, (Array.replicate l.toArray.size false).getD j false = true → False := by
    intro j hl
    by_cases hi : j < l.length <;> simp [hi] at hl
  refine wp_region_any hm ?_
  refine wpAny_G (P := P) (ops := l.toArray) (CL := CLp C E) (md := .any) (a0 := a) (S := S) hS0 (fun k o hk => by have := hst k o (by simpa using hk); rw [Nat.zero_add] at this; exact this)
    (fun k o d hk hd => dsts_lt hD (k := k) (by simpa using hk) hd) (fun j k x y d hj hk hx hy => dsts_one hD (j := j) (k := k) (by simpa using hj) (by simpa using hk) hx hy)
    (fun i oi hi => lexFrom_free _ 0 _ hB' (by simp) (fun i => ?_) (by simp) i oi (Nat.zero_le _) hi) (fun a1 w1 L hcl hall ha => ?_) _ _ _ _ ⟨_, rfl, ?_⟩ ⟨?_, rfl, rfl, by simp, fun j oj hj hl => (hf j hl).elim, fun j oj d hj hl => (hf j hl).elim, fun t _ => rfl⟩
  · by_cases hi : i < l.length
    · simp [hi]
    · simp [hi]; omega
  · have e : E.filter L = E := List.filter_eq_self.2 (fun x hx => hall x (chain_lt hch x hx))
    unfold CLp at hcl
    rw [e] at hcl
    have := hfin w1 hcl
    rw [ha]
    simpa using this
  · rw [count_none]; simp
  · unfold CLp
    have e : E.filter (fun j => (Array.replicate l.toArray.size false).getD j false) = [] := List.filter_eq_nil_iff.2 (fun x _ h => hf x h)
    rw [e]
    exact hC

variable {Q : Act → World → Prop} {o : Oper} {rest : List Oper} {k : Nat} {fs : List Value} {ds : List Deferred}
/-- the walk over a list -/
def wpG (P : Program) (ops : Array Oper) (C : Nat → World → Prop) (E : List Nat) (Q : Act → World → Prop) (ds : List Deferred) (k : Nat) (l : List Oper) (fs : List Value) : Prop := wpGA P ops C E Q k l (mkA fs ds)
theorem wp_chain_list {id : Nat} {Q : Exit → Act → World → Prop} {w : World} {l : List Oper} {fs : List Value} {ds : List Deferred} (E : List Nat) (C : Nat → World → Prop) (hm : P.follows .mixedOrders = true) (hB : Region.lexB .any l.toArray = true) (hD : dstsB l fs.length = true) (hch : chainB l.toArray E = true)
    (hC : C 0 { w with drawn := w.drawn + 1 }) (h : wpG P l.toArray C E (fun a' w' => Q .normal a' w') ds 0 l fs) : (Code.region id l.toArray true).wp P Q ⟨fs.toArray, ds⟩ w :=
  wp_region_G hm hB (by simpa using hD) hch hC h
theorem wpG_run (v : Value) (hE : E.contains k = false) (hs : notSelect o = true) (hw : wantedL ops fs o = true) (hrun : ∀ j w, C j w → (execOp (ev fs) o).run P w = .ok (.value v) w) (c : wpG P ops C E Q ds (k + 1) rest (setL fs o.dst v)) : wpG P ops C E Q ds k (o :: rest) fs :=
  ⟨_, .val v (wantedL_eq.trans hw) (fun L a1 w hC _ ht K Q' hK => by
    have e : execOp a1.eval o = execOp (mkA fs ds).eval o := execOp_congr o (fun cs b h => by simp [notSelect, h] at hs) fun x hx => eval_looks ht x hx
    unfold Oper.wp
    rw [e, mkA_evalF, hrun _ w hC]
    exact hK _ (by unfold CLp at *; rw [filter_upd_not hE]; exact hC)), by rw [mkA_put]; exact c⟩
theorem wpG_run1 {x : Operand} (vx v : Value) (hE : E.contains k = false) (hx : ev fs x = vx) (hs : notSelect o = true) (hw : wantedL ops fs o = true) (hrun : ∀ j w (ρ : Operand → Value), C j w → ρ x = vx → (∀ c, ρ (.const c) = c) → (execOp ρ o).run P w = .ok (.value v) w) (c : wpG P ops C E Q ds (k + 1) rest (setL fs o.dst v)) : wpG P ops C E Q ds k (o :: rest) fs :=
  wpG_run v hE hs hw (fun j w hC => hrun j w _ hC hx fun _ => rfl) c
theorem wpG_move {x : Operand} (v : Value) (ho : o.op = .move x) (hE : E.contains k = false) (hv : ev fs x = v) (hw : wantedL ops fs o = true) (c : wpG P ops C E Q ds (k + 1) rest (setL fs o.dst v)) : wpG P ops C E Q ds k (o :: rest) fs :=
  wpG_run v hE (by simp [notSelect, ho]) hw (fun j w _ => by simp only [execOp, ho, hv]; rfl) c
theorem wpG_end (h : ∀ w, C E.length w → Q ⟨fs.toArray, ds⟩ w) : wpG P ops C E Q ds k [] fs := h
end
end Go.Own

end
