/- Contracts of package codec: the writer's methods. -/
import Derived.Test.YtefbcoakjdjkgaaCod
import Derived.WalkSpells
import Derived.WalkLawsBesides
namespace Go.Proofs.Ytefbcoakjdjkgaa
open Go.RowKit Go.Own
namespace Cod

set_option maxHeartbeats 400000 in
theorem fits_yes (S : Nat → Prop) (p : Nat) (s : WS) (size : Int) (w : World) (hW : Wr w S p s) (hxs : s.xs.length ≤ 200000000) (_h0 : 0 ≤ size) (hs : size ≤ s.room - s.xs.length) :
    Calls Try.prog 36 #[.pointer (some ⟨p, 0, none⟩), .int .i64 size] w fun e w' => e = .returned (.bool true) ∧ WrTo S p s w w' := by
  have hW0 := Lib.hid hW
  obtain ⟨v, T, hb, hrow, hT, hS, hr0, hr1⟩ := hW
  obtain ⟨ao, cap, rfl, hc1, hc2, -⟩ := hrow.form
  have h0 := cell_of_block (i := 0) hb rfl
  have h1 := cell_of_block (i := 1) hb rfl
  go_enter Try.func36, Try.ntmps36
  go_wp2
  go_quiet (fail)
  go_wp2
  go_ret
  exact ⟨rfl, hW0.out.drewN _⟩

set_option maxHeartbeats 400000 in
theorem fits_no (S : Nat → Prop) (p : Nat) (s : WS) (size : Int) (w : World) (hW : Wr w S p s) (hxs : s.xs.length ≤ 200000000) (_h0 : 0 ≤ size) (hs : s.room - s.xs.length < size) :
    Calls Try.prog 36 #[.pointer (some ⟨p, 0, none⟩), .int .i64 size] w fun e w' => e = .returned (.bool false) ∧ WrTo S p { s with err := 4 } w w' := by
  have hW0 := Lib.hid hW
  obtain ⟨v, T, hb, hrow, hT, hS, hr0, hr1⟩ := hW
  obtain ⟨ao, cap, rfl, hc1, hc2, -⟩ := hrow.form
  have h0 := cell_of_block (i := 0) hb rfl
  have h1 := cell_of_block (i := 1) hb rfl
  have h2 := cell_of_block (i := 2) hb rfl
  have f2 := frozen_of_block (i := 2) hb
  go_enter Try.func36, Try.ntmps36
  go_wp2
  go_quiet (fail)
  go_wp2
  go_ret
  exact ⟨rfl, hW0.out.fault _ 4⟩

/-- what a copy of bytes leaves: new memory with the same bytes, or nil -/
def CloneDone (bs : List UInt8) (w : World) (e : Ending) (w' : World) : Prop :=
  ∃ ao cap T, e = .returned (.slice ao bs.length cap) ∧ Row w' 5 1 T (.slice ao bs.length cap) bs.length (bs.map byteV) ∧ Step (fun _ => False) T w w'

theorem view_cells {w : World} {D : Nat → Prop} {ao : Option Addr} {bs : List UInt8} (h : View w D ao bs) : ∀ a, ao = some a → ∀ j u, (bs.map byteV)[j]? = some u → w.cell? (a.add j) = some u := by
  intro a ha j u hu
  have hj := (List.getElem?_eq_some_iff.1 hu).1
  rw [List.length_map] at hj
  rcases h with rfl | ⟨b, o, hab, _, _, hc⟩
  · simp at hj
  · rw [ha] at hab
    cases hab
    have e : (⟨b, o, none⟩ : Addr).add j = ⟨b, o + j, none⟩ := by unfold Addr.add; split <;> simp_all
    rw [e, hc j hj]
    rw [← hu]
    simp [byteV, hj]

set_option maxHeartbeats 400000 in
theorem clone_any (D : Nat → Prop) (ao : Option Addr) (bs : List UInt8) (cap : Nat) (w : World) (hV : View w D ao bs) (hbs : bs.length ≤ 1000000000) :
    Calls Try.prog 39 #[.slice ao bs.length cap] w (CloneDone bs w) := by
  obtain ⟨i0, hi, hz0, hz1, hz2⟩ := info_parts Try.infoU8
  cases ao with
  | none =>
    have hb : bs = [] := by
      rcases hV with h | ⟨b, o, h, _⟩
      · exact h
      · cases h
    subst hb
    have heq := fun wx => Lib.run_eql_slice_nil (P := Try.prog) wx 28 5 none 0 cap 0 0 Try.underlying28
    show Calls Try.prog 39 #[.slice none 0 cap] w _
    go_enter Try.func39, Try.ntmps39
    go_wp2
    go_ret
    exact ⟨none, 0, _, rfl, Row.nil _ _ _, Step.refl _ _⟩
  | some a =>
    have hc := view_cells hV
    have HC := Lib.hid hc
    clear hc hV
    obtain ⟨n, hn⟩ : ∃ n, n = bs.length := ⟨_, rfl⟩
    rw [← hn] at hbs ⊢
    have heq := fun wx => Lib.run_eql_slice_nil (P := Try.prog) wx 28 5 (some a) n cap 0 0 Try.underlying28
    have HN := Lib.hid hn
    clear hn
    go_enter Try.func39, Try.ntmps39
    go_wp2_with (at_builtin; go_loud (refine wpList_append_row rfl (.tmp 5) (.tmp 6) 28 rfl 5 i0 (.int .u8 0) 1 1 Try.underlying28 hi hz0 hz1 hz2 rfl (by decide) (.slice (some ⟨w.heap.size, 0, none⟩) 0 0) 0 [] rfl (Row.made w #[] 5 1 0 (Nat.zero_le _) rfl) (some a) n cap (bs.map byteV) rfl (by intro h; cases h) ?hl ?hnews (byteV_one _) ?b1 ?b2 ?_))
    case hl => rw [List.length_map, Nat.mul_one]; exact HN.out.symm
    case hnews =>
      intro a' ha j u hu
      have := HC.out a' ha j u hu
      exact cell_alloc this _
    case b1 => unfold maxLen; omega
    case b2 => omega
    intro v' w' T' hr' hs'
    obtain ⟨ao', cap', rfl, -⟩ := hr'.form
    go_wp2
    go_ret
    simp only [Nat.zero_add, List.nil_append] at hr' ⊢
    have e := HN.out
    subst e
    exact ⟨ao', cap', T', rfl, hr', (((Step.refl (fun _ => False) w).alloc _).to (fun k hk => Or.inr (Nat.le_of_eq hk.symm))).trans hs'⟩

end Cod
end Go.Proofs.Ytefbcoakjdjkgaa
