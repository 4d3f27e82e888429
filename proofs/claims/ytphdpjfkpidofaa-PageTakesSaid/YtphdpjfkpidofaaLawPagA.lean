/- Layer 9: PageSplits, PageTakes. -/
import Derived.Test.YtphdpjfkpidofaaLawPag
import Derived.Test.YtphdpjfkpidofaaAdo
namespace Go.Proofs.Ytphdpjfkpidofaa
open Go.RowKit Go.Own
namespace Pag
open Go.PagM Byt
theorem idx_bss {o : Oper} {x y : Tmp} (ho : o.op = .indexAddr 34 (.tmp x) (.tmp y)) (g k0 n c k : Nat) (hk : k < n) : ∀ (ρ : Operand → Value) w, ρ (.tmp x) = .slice (some ⟨g, k0, none⟩) n c → ρ (.tmp y) = .int .i64 (k : Int) → (execOp ρ o).run Try.prog w = .ok (.value (.pointer (some ⟨g, k0 + k, none⟩))) w := by
  intro ρ w h0 h1
  have hk' : (k : Int) < (n : Int) := by omega
  simp [execOp, ho, h0, h1, go_sem, hk, hk', add_of]
set_option maxRecDepth 10000 in
set_option maxHeartbeats 8000000 in
theorem walk_splits (kind : UInt8) (ao : Option Addr) (n cap : Nat) (p : PagM.Bs) {w : World} (hg : Given w ao n cap p) (K : Kept w) :
    Calls Try.prog 5 #[.int .u8 (kind.toNat : Int), .slice ao n cap] w (RetYes w) := by
  obtain ⟨Y, hY⟩ : ∃ Y, Y = split kind p := ⟨_, rfl⟩
  have C1 : Hid (∀ wx, Below w.heap.size w wx → n ≤ 20000 → Calls Try.prog 17 #[.int .u8 (kind.toNat : Int), .slice ao n cap] wx (SplitDone Y wx)) := by
    intro wx hwx hn
    rw [hY]
    exact K.split kind ao n cap p hwx (hg.later hwx) (by omega)
  have C2 : Hid (∀ wx, Below w.heap.size w wx → n ≤ 20000 → Calls Try.prog 18 #[.int .u8 (kind.toNat : Int), .slice ao n cap] wx (SplitDone Y wx)) := by
    intro wx hwx hn
    rw [hY]
    exact refSplit_any kind ao n cap p wx (hg.later hwx) (by omega)
  have CS := Lib.hid (shown_any K (Below.refl _ w))
  have HYL : Hid (Y.1.length ≤ 1000000000) := by
    show Y.1.length ≤ 1000000000
    rw [hY]
    unfold split
    split
    · rename_i h
      have h8 : p.length ≤ 8000 := by
        unfold splitE at h
        split at h
        · cases h
        · split at h
          · cases h
          · omega
      have := pages_len kind p
      show (pages kind p).length ≤ _
      omega
    · exact Nat.zero_le _
  clear hY hg K
  go_enter Try.func5, Try.ntmps5
  go_wp2_with (fail)
  refine CS.out.mono ?_
  clear CS
  rintro e w1 ⟨rfl, hb1⟩
  have B1 := Lib.hid hb1
  clear hb1
  by_cases hlong : (20000 : Int) < (n : Int)
  · go_wp2
    go_ret
    exact ⟨rfl, B1.out⟩
  have hn : n ≤ 20000 := by omega
  have D1 := Lib.hid (C1.out w1 B1.out hn)
  clear C1
  go_wp2_with (fail)
  refine D1.out.mono ?_
  clear D1
  rintro e w2 ⟨a2, k2, rfl, hg2, hb2⟩
  have G2 := Lib.hid hg2
  have B2 := Lib.hid (B1.out.trans (hb2.mono B1.out.size))
  have D2 := Lib.hid (C2.out w2 B2.out hn)
  clear hg2 hb2 C2 B1
  go_wp2_with (fail)
  refine D2.out.mono ?_
  clear D2
  rintro e w3 ⟨a3, k3, rfl, hg3, hb3⟩
  have G3 := Lib.hid hg3
  have B3 := Lib.hid (B2.out.trans (hb3.mono B2.out.size))
  have G2b := Lib.hid (G2.out.later hb3)
  clear hg3 hb3 G2 B2
  obtain ⟨N, hN⟩ : ∃ N, N = Y.1.length := ⟨_, rfl⟩
  have HN := Lib.hid hN
  rw [← hN] at G2b G3 HYL
  rw [← hN]
  have hyl := HYL.out
  clear hN
  go_wp2
  go_loopw [40] (fun v wr => ∃ i : Nat, i ≤ N ∧ v = .int .i64 (i : Int) ∧ Below w3.heap.size w3 wr) (fun v _ => N - (intOf v).toNat)
  case atStart => exact ⟨0, Nat.zero_le _, rfl, Below.refl _ _⟩
  case round =>
    obtain ⟨i, hiN, rfl, hbr⟩ := hrel
    have BR := Lib.hid hbr
    clear hbr
    by_cases hi : (i : Int) < (N : Int)
    · have hin : i < N := by omega
      obtain ⟨b, o, aj, cj, rfl, hbl, hc1, hg1⟩ := (G2b.out.later BR.out).rows i hin
      obtain ⟨b', o', aj', cj', rfl, hbl', hc2, hg2⟩ := (G3.out.later BR.out).rows i hin
      obtain ⟨P, hP⟩ : ∃ P, P = Y.1.getD i [] := ⟨_, rfl⟩
      rw [← hP] at hc1 hg1 hc2 hg2
      have C1 : Hid (∀ wx, Below wr.heap.size wr wx → wx.cell? ⟨b, o + i, none⟩ = some (.slice aj P.length cj)) := fun wx h => cellLater hc1 h
      have C2 : Hid (∀ wx, Below wr.heap.size wr wx → wx.cell? ⟨b', o' + i, none⟩ = some (.slice aj' P.length cj')) := fun wx h => cellLater hc2 h
      have V1 : Hid (∀ wx, Below wr.heap.size wr wx → (convert 22 9 (.slice aj P.length cj)).run Try.prog wx = .ok (strV P) wx) := fun wx h => given_str (hg1.later h)
      have V2 : Hid (∀ wx, Below wr.heap.size wr wx → (convert 22 9 (.slice aj' P.length cj')).run Try.prog wx = .ok (strV P) wx) := fun wx h => given_str (hg2.later h)
      clear hc1 hg1 hc2 hg2 hP
      go_wp2_with (fail)
      refine wp_lax_list (by kernel_rfl) (by kernel_rfl) (by kernel_rfl) ?_
      refine wpL_move (.slice (some ⟨b, o, none⟩) N k2) rfl (by kernel_rfl) (by kernel_rfl) (by kernel_rfl) (by kernel_rfl) ?_
      refine wpL_move (.int .i64 (i : Int)) rfl (by kernel_rfl) (by kernel_rfl) (by kernel_rfl) (by kernel_rfl) ?_
      refine wpL_run2 (x := .tmp 43) (y := .tmp 44) (.slice (some ⟨b, o, none⟩) N k2) (.int .i64 (i : Int)) (.pointer (some ⟨b, o + i, none⟩)) (by kernel_rfl) (by kernel_rfl) (by kernel_rfl) (by kernel_rfl) (by kernel_rfl) (by kernel_rfl) (fun wx ρ hwx h0 h1 hc => idx_bss rfl b o N k2 i hin ρ wx h0 h1) ?_
      refine wpL_run1 (x := .tmp 45) (.pointer (some ⟨b, o + i, none⟩)) (.slice aj P.length cj) (by kernel_rfl) (by kernel_rfl) (by kernel_rfl) (by kernel_rfl) (by kernel_rfl) (fun wx ρ hwx h0 hc => by simp [go_sem, h0, hc, C1.out wx hwx]) ?_
      refine wpL_convK (x := .tmp 46) (.slice aj P.length cj) (strV P) rfl (by kernel_rfl) (by kernel_rfl) (by kernel_rfl) (by kernel_rfl) (fun wx hwx => V1.out wx hwx) ?_
      refine wpL_move (.slice (some ⟨b', o', none⟩) N k3) rfl (by kernel_rfl) (by kernel_rfl) (by kernel_rfl) (by kernel_rfl) ?_
      refine wpL_move (.int .i64 (i : Int)) rfl (by kernel_rfl) (by kernel_rfl) (by kernel_rfl) (by kernel_rfl) ?_
      refine wpL_run2 (x := .tmp 48) (y := .tmp 49) (.slice (some ⟨b', o', none⟩) N k3) (.int .i64 (i : Int)) (.pointer (some ⟨b', o' + i, none⟩)) (by kernel_rfl) (by kernel_rfl) (by kernel_rfl) (by kernel_rfl) (by kernel_rfl) (by kernel_rfl) (fun wx ρ hwx h0 h1 hc => idx_bss rfl b' o' N k3 i hin ρ wx h0 h1) ?_
      refine wpL_run1 (x := .tmp 50) (.pointer (some ⟨b', o' + i, none⟩)) (.slice aj' P.length cj') (by kernel_rfl) (by kernel_rfl) (by kernel_rfl) (by kernel_rfl) (by kernel_rfl) (fun wx ρ hwx h0 hc => by simp [go_sem, h0, hc, C2.out wx hwx]) ?_
      refine wpL_convK (x := .tmp 51) (.slice aj' P.length cj') (strV P) rfl (by kernel_rfl) (by kernel_rfl) (by kernel_rfl) (by kernel_rfl) (fun wx hwx => V2.out wx hwx) ?_
      refine wpL_run2 (x := .tmp 47) (y := .tmp 52) (strV P) (strV P) (.bool false) (by kernel_rfl) (by kernel_rfl) (by kernel_rfl) (by kernel_rfl) (by kernel_rfl) (by kernel_rfl) (fun wx ρ hwx h0 h1 hc => neq_str rfl P P false (by simp) ρ wx h0 h1) ?_
      refine wpL_end (by kernel_rfl) (fun w5 hw5 => ?_)
      simp only [FinL, setL, List.set_cons_zero, List.set_cons_succ]
      have BR5 := Lib.hid (BR.out.trans (hw5.mono BR.out.size))
      clear hw5 C1 C2 V1 V2
      go_wp2
      go_roundw
      case rel => exact ⟨i + 1, by omega, by go_num, BR5.out⟩
      case measure => simp [intOf]; omega
    · go_wp2
      go_ret
      exact ⟨rfl, B3.out.trans (BR.out.mono B3.out.size)⟩
end Pag
end Go.Proofs.Ytphdpjfkpidofaa
