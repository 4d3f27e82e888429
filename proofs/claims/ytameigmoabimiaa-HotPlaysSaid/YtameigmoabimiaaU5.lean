/- Merged: HtaB HtaC HtaD HtaE HtaF HtaG -/
import Derived.Laws.MakeOwn
import Derived.Test.YtameigmoabimiaaU1
import Derived.Test.YtameigmoabimiaaU2
import Derived.Test.YtameigmoabimiaaU3
import Derived.Test.YtameigmoabimiaaU4
set_option linter.unusedVariables false
section
namespace Go.Proofs.Ytameigmoabimiaa
open Go.RowKit Go.Own Go.Maps
namespace Hta
open Go.GhoM Go.HotM Byt Gho Hot
open Gha (nilP u32Keyed kl kl_inj key_of KV Reads AOf nilC del_E sto_E)
theorem fldL {o : Oper} {X : Operand} {k : Nat} (ho : o.op = .fieldAddr 56 X k) (hk : k < 5) {p : Nat} (ρ : Operand → Value) (w : World) (h0 : ρ X = ptr p) : (execOp ρ o).run Try.prog w = .ok (.value (.pointer (some ⟨p, k, none⟩))) w := by
  match k, hk with
  | 0, _ => simp [execOp, ho, h0, go_sem, add_of]
  | 1, _ => simp [execOp, ho, h0, go_sem, add_of]
  | 2, _ => simp [execOp, ho, h0, go_sem, add_of]
  | 3, _ => simp [execOp, ho, h0, go_sem, add_of]
  | 4, _ => simp [execOp, ho, h0, go_sem, add_of]
theorem fldN {o : Oper} {X : Operand} {k : Nat} (ho : o.op = .fieldAddr 66 X k) (hk : k < 4) {p : Nat} (ρ : Operand → Value) (w : World) (h0 : ρ X = ptr p) : (execOp ρ o).run Try.prog w = .ok (.value (.pointer (some ⟨p, k, none⟩))) w := by
  match k, hk with
  | 0, _ => simp [execOp, ho, h0, go_sem, add_of]
  | 1, _ => simp [execOp, ho, h0, go_sem, add_of]
  | 2, _ => simp [execOp, ho, h0, go_sem, add_of]
  | 3, _ => simp [execOp, ho, h0, go_sem, add_of]
section
variable {B : Nat} {w0 w : World} {Ps : List Asn} {p m room pk a b : Nat} {s : List KV}
set_option maxHeartbeats 3200000 in
theorem rem_one (bv : Value) (ha : a < 4294967296) (hs : ∀ e ∈ s, e.1 ≠ a)
    (H : Own.St B w0 w (AVals p 56 (lC room pk (ptr b) (ptr b) m) :: AOf m ((a, ptr b) :: s) :: AVals b 66 [aV a, bv, nilP, nilP] :: (Ps))) :
    Calls Try.prog 27 #[ptr p, ptr b] w fun e w' => e = .returned (.tuple #[]) ∧ Own.St B w0 w' (AVals b 66 [aV a, bv, nilP, nilP] :: AVals p 56 (lC room pk nilP nilP m) :: AOf m s :: Ps) := by
  have c0 := (H.cellV 2 rfl 3 rfl).1
  have c1 := (H.cellV 2 rfl 2 rfl).1
  obtain ⟨c2, c2z⟩ := H.cellV 0 rfl 2 rfl
  have h1 := H.storeV 0 rfl 2 (nilP)
  simp only [List.set_cons_zero, List.set_cons_succ] at h1
  obtain ⟨W1, hW1⟩ : ∃ W, W = w.setCell ⟨p, 2, none⟩ (nilP) := ⟨_, rfl⟩
  rw [← hW1] at h1
  have E1 := hW1.symm
  have c3 := (h1.cellV 2 rfl 2 rfl).1
  have c4 := (h1.cellV 2 rfl 3 rfl).1
  obtain ⟨c5, c5z⟩ := h1.cellV 0 rfl 3 rfl
  have h2 := h1.storeV 0 rfl 3 (nilP)
  simp only [List.set_cons_zero, List.set_cons_succ] at h2
  obtain ⟨W2, hW2⟩ : ∃ W, W = W1.setCell ⟨p, 3, none⟩ (nilP) := ⟨_, rfl⟩
  rw [← hW2] at h2
  have E2 := hW2.symm
  have K2 := Lib.hid h2
  clear H h1 h2 hW1 hW2
  go_enter Try.func27, Try.ntmps27
  go_wp2_with (fail)
  clear c0 c1 c2 c2z c3 c4 c5 c5z E1 E2
  have g2 := K2.out.drew
  have D1 := Lib.hid (g2.cellV 0 rfl 4 rfl).1
  have D2 := Lib.hid (g2.cellV 2 rfl 0 rfl).1
  obtain ⟨wz, ez, kz⟩ := mapDelN g2 1 (v := ptr b) (s := s) rfl ha hs 0
  simp only [List.set_cons_zero, List.set_cons_succ] at kz
  have EZ := Lib.hid ez
  have KZ := Lib.hid kz
  clear g2 ez kz K2 hs
  refine wp_chain_list [8] (fun j wx => wx = match j with | 0 => W2.drew | _ => wz) (by kernel_rfl) (by kernel_rfl) (by kernel_rfl) (by kernel_rfl) rfl ?_
  refine wpG_move (ptr p) rfl (by kernel_rfl) (by kernel_rfl) (by kernel_rfl) ?_
  refine wpG_run1 (x := .tmp 48) (ptr p) (ptr p) (by kernel_rfl) (by kernel_rfl) (by kernel_rfl) (by kernel_rfl) (fun j wx ρ hC h0 hc => nilC rfl ρ wx h0) ?_
  refine wpG_run1 (x := .tmp 49) (ptr p) (.pointer (some ⟨p, 4, none⟩)) (by kernel_rfl) (by kernel_rfl) (by kernel_rfl) (by kernel_rfl) (fun j wx ρ hC h0 hc => fldL rfl (by decide) ρ wx h0) ?_
  refine wpG_runU1 (x := .tmp 50) 0 (.pointer (some ⟨p, 4, none⟩)) (.map (some m)) (by kernel_rfl) (by kernel_rfl) (by kernel_rfl) (by kernel_rfl) (by kernel_rfl) (by kernel_rfl) (fun j wx ρ hj hC h0 hc => ?_) ?_
  · obtain rfl : j = 0 := by omega
    subst hC
    simp [go_sem, h0, D1.out]
  refine wpG_move (ptr b) rfl (by kernel_rfl) (by kernel_rfl) (by kernel_rfl) ?_
  refine wpG_run1 (x := .tmp 52) (ptr b) (ptr b) (by kernel_rfl) (by kernel_rfl) (by kernel_rfl) (by kernel_rfl) (fun j wx ρ hC h0 hc => nilC rfl ρ wx h0) ?_
  refine wpG_run1 (x := .tmp 53) (ptr b) (.pointer (some ⟨b, 0, none⟩)) (by kernel_rfl) (by kernel_rfl) (by kernel_rfl) (by kernel_rfl) (fun j wx ρ hC h0 hc => fldN rfl (by decide) ρ wx h0) ?_
  refine wpG_runU1 (x := .tmp 54) 0 (.pointer (some ⟨b, 0, none⟩)) (.int .u32 (a : Int)) (by kernel_rfl) (by kernel_rfl) (by kernel_rfl) (by kernel_rfl) (by kernel_rfl) (by kernel_rfl) (fun j wx ρ hj hC h0 hc => ?_) ?_
  · obtain rfl : j = 0 := by omega
    subst hC
    simp [go_sem, h0, D2.out]
  refine wpG_op 0 (.tuple #[]) _ (.inl rfl) (by kernel_rfl) (by kernel_rfl) (by kernel_rfl) (by kernel_rfl) (by kernel_rfl) (fun wx hC => ⟨wz, by subst hC; exact del_E (m := .map (some m)) (k := .int .u32 (a : Int)) rfl (by kernel_rfl) (by kernel_rfl) EZ.out, rfl⟩) ?_
  refine wpG_end (fun w3 hw3 => ?_)
  obtain rfl : w3 = wz := hw3
  simp only [setL, List.set_cons_zero, List.set_cons_succ]
  go_wp2
  go_end0
  refine ⟨rfl, ?_⟩
  exact KZ.out.perm (List.perm_middle (l₁ := [_, _]))
set_option maxHeartbeats 3200000 in
theorem rem_first (v2 : Value) (f : Nat) (x y z : Value) (bv : Value) (ha : a < 4294967296) (hs : ∀ e ∈ s, e.1 ≠ a)
    (H : Own.St B w0 w (AVals p 56 (lC room pk (ptr b) v2 m) :: AOf m ((a, ptr b) :: s) :: AVals b 66 [aV a, bv, ptr f, nilP] :: AVals f 66 [x, z, y, ptr b] :: (Ps))) :
    Calls Try.prog 27 #[ptr p, ptr b] w fun e w' => e = .returned (.tuple #[]) ∧ Own.St B w0 w' (AVals b 66 [aV a, bv, ptr f, nilP] :: AVals p 56 (lC room pk (ptr f) v2 m) :: AOf m s :: AVals f 66 [x, z, y, nilP] :: Ps) := by
  have c0 := (H.cellV 2 rfl 3 rfl).1
  have c1 := (H.cellV 2 rfl 2 rfl).1
  obtain ⟨c2, c2z⟩ := H.cellV 0 rfl 2 rfl
  have h1 := H.storeV 0 rfl 2 (ptr f)
  simp only [List.set_cons_zero, List.set_cons_succ] at h1
  obtain ⟨W1, hW1⟩ : ∃ W, W = w.setCell ⟨p, 2, none⟩ (ptr f) := ⟨_, rfl⟩
  rw [← hW1] at h1
  have E1 := hW1.symm
  have c3 := (h1.cellV 2 rfl 2 rfl).1
  have K1 := Lib.hid h1
  clear H h1 hW1
  go_enter Try.func27, Try.ntmps27
  go_wp2_with (fail)
  clear c0 c1 c2 c2z c3 E1
  have g1 := K1.out.drew
  have D1 := Lib.hid (g1.cellV 2 rfl 2 rfl).1
  have D2 := Lib.hid (g1.cellV 2 rfl 3 rfl).1
  have D3 := Lib.hid (g1.cellV 3 rfl 3 rfl)
  have h2 := g1.storeV 3 rfl 3 (nilP)
  simp only [List.set_cons_zero, List.set_cons_succ] at h2
  obtain ⟨W2, hW2⟩ : ∃ W, W = W1.drew.setCell ⟨f, 3, none⟩ (nilP) := ⟨_, rfl⟩
  rw [← hW2] at h2
  have E2 := Lib.hid hW2
  have K2 := Lib.hid h2
  clear K1 g1 h2 hW2
  refine wp_chain_list [10] (fun j wx => wx = match j with | 0 => W1.drew | _ => W2) (by kernel_rfl) (by kernel_rfl) (by kernel_rfl) (by kernel_rfl) rfl ?_
  refine wpG_move (ptr b) rfl (by kernel_rfl) (by kernel_rfl) (by kernel_rfl) ?_
  refine wpG_run1 (x := .tmp 38) (ptr b) (ptr b) (by kernel_rfl) (by kernel_rfl) (by kernel_rfl) (by kernel_rfl) (fun j wx ρ hC h0 hc => nilC rfl ρ wx h0) ?_
  refine wpG_run1 (x := .tmp 39) (ptr b) (.pointer (some ⟨b, 2, none⟩)) (by kernel_rfl) (by kernel_rfl) (by kernel_rfl) (by kernel_rfl) (fun j wx ρ hC h0 hc => fldN rfl (by decide) ρ wx h0) ?_
  refine wpG_runU1 (x := .tmp 40) 0 (.pointer (some ⟨b, 2, none⟩)) (ptr f) (by kernel_rfl) (by kernel_rfl) (by kernel_rfl) (by kernel_rfl) (by kernel_rfl) (by kernel_rfl) (fun j wx ρ hj hC h0 hc => ?_) ?_
  · obtain rfl : j = 0 := by omega
    subst hC
    simp [go_sem, h0, D1.out]
  refine wpG_move (ptr b) rfl (by kernel_rfl) (by kernel_rfl) (by kernel_rfl) ?_
  refine wpG_run1 (x := .tmp 42) (ptr b) (ptr b) (by kernel_rfl) (by kernel_rfl) (by kernel_rfl) (by kernel_rfl) (fun j wx ρ hC h0 hc => nilC rfl ρ wx h0) ?_
  refine wpG_run1 (x := .tmp 43) (ptr b) (.pointer (some ⟨b, 3, none⟩)) (by kernel_rfl) (by kernel_rfl) (by kernel_rfl) (by kernel_rfl) (fun j wx ρ hC h0 hc => fldN rfl (by decide) ρ wx h0) ?_
  refine wpG_runU1 (x := .tmp 44) 0 (.pointer (some ⟨b, 3, none⟩)) (nilP) (by kernel_rfl) (by kernel_rfl) (by kernel_rfl) (by kernel_rfl) (by kernel_rfl) (by kernel_rfl) (fun j wx ρ hj hC h0 hc => ?_) ?_
  · obtain rfl : j = 0 := by omega
    subst hC
    simp [go_sem, h0, D2.out]
  refine wpG_run1 (x := .tmp 41) (ptr f) (ptr f) (by kernel_rfl) (by kernel_rfl) (by kernel_rfl) (by kernel_rfl) (fun j wx ρ hC h0 hc => nilC rfl ρ wx h0) ?_
  refine wpG_run1 (x := .tmp 46) (ptr f) (.pointer (some ⟨f, 3, none⟩)) (by kernel_rfl) (by kernel_rfl) (by kernel_rfl) (by kernel_rfl) (fun j wx ρ hC h0 hc => fldN rfl (by decide) ρ wx h0) ?_
  refine wpG_op 0 undef _ (.inr ⟨rfl, rfl⟩) (by kernel_rfl) (by kernel_rfl) (by kernel_rfl) (by kernel_rfl) (by kernel_rfl) (fun wx hC => ⟨W2, by subst hC; exact sto_E (a := .pointer (some ⟨f, 3, none⟩)) (v := nilP) rfl (by kernel_rfl) (by kernel_rfl) (by simp [go_sem, D3.out.1, D3.out.2, E2.out]), rfl⟩) ?_
  refine wpG_end (fun w2 hw2 => ?_)
  obtain rfl : w2 = W2 := hw2
  simp only [setL, List.set_cons_zero, List.set_cons_succ]
  clear D1 D2 D3 E2
  go_wp2_with (fail)
  have g2 := K2.out.drew
  have D1 := Lib.hid (g2.cellV 0 rfl 4 rfl).1
  have D2 := Lib.hid (g2.cellV 2 rfl 0 rfl).1
  obtain ⟨wz, ez, kz⟩ := mapDelN g2 1 (v := ptr b) (s := s) rfl ha hs 0
  simp only [List.set_cons_zero, List.set_cons_succ] at kz
  have EZ := Lib.hid ez
  have KZ := Lib.hid kz
  clear g2 ez kz K2 hs
  refine wp_chain_list [8] (fun j wx => wx = match j with | 0 => w2.drew | _ => wz) (by kernel_rfl) (by kernel_rfl) (by kernel_rfl) (by kernel_rfl) rfl ?_
  refine wpG_move (ptr p) rfl (by kernel_rfl) (by kernel_rfl) (by kernel_rfl) ?_
  refine wpG_run1 (x := .tmp 48) (ptr p) (ptr p) (by kernel_rfl) (by kernel_rfl) (by kernel_rfl) (by kernel_rfl) (fun j wx ρ hC h0 hc => nilC rfl ρ wx h0) ?_
  refine wpG_run1 (x := .tmp 49) (ptr p) (.pointer (some ⟨p, 4, none⟩)) (by kernel_rfl) (by kernel_rfl) (by kernel_rfl) (by kernel_rfl) (fun j wx ρ hC h0 hc => fldL rfl (by decide) ρ wx h0) ?_
  refine wpG_runU1 (x := .tmp 50) 0 (.pointer (some ⟨p, 4, none⟩)) (.map (some m)) (by kernel_rfl) (by kernel_rfl) (by kernel_rfl) (by kernel_rfl) (by kernel_rfl) (by kernel_rfl) (fun j wx ρ hj hC h0 hc => ?_) ?_
  · obtain rfl : j = 0 := by omega
    subst hC
    simp [go_sem, h0, D1.out]
  refine wpG_move (ptr b) rfl (by kernel_rfl) (by kernel_rfl) (by kernel_rfl) ?_
  refine wpG_run1 (x := .tmp 52) (ptr b) (ptr b) (by kernel_rfl) (by kernel_rfl) (by kernel_rfl) (by kernel_rfl) (fun j wx ρ hC h0 hc => nilC rfl ρ wx h0) ?_
  refine wpG_run1 (x := .tmp 53) (ptr b) (.pointer (some ⟨b, 0, none⟩)) (by kernel_rfl) (by kernel_rfl) (by kernel_rfl) (by kernel_rfl) (fun j wx ρ hC h0 hc => fldN rfl (by decide) ρ wx h0) ?_
  refine wpG_runU1 (x := .tmp 54) 0 (.pointer (some ⟨b, 0, none⟩)) (.int .u32 (a : Int)) (by kernel_rfl) (by kernel_rfl) (by kernel_rfl) (by kernel_rfl) (by kernel_rfl) (by kernel_rfl) (fun j wx ρ hj hC h0 hc => ?_) ?_
  · obtain rfl : j = 0 := by omega
    subst hC
    simp [go_sem, h0, D2.out]
  refine wpG_op 0 (.tuple #[]) _ (.inl rfl) (by kernel_rfl) (by kernel_rfl) (by kernel_rfl) (by kernel_rfl) (by kernel_rfl) (fun wx hC => ⟨wz, by subst hC; exact del_E (m := .map (some m)) (k := .int .u32 (a : Int)) rfl (by kernel_rfl) (by kernel_rfl) EZ.out, rfl⟩) ?_
  refine wpG_end (fun w3 hw3 => ?_)
  obtain rfl : w3 = wz := hw3
  simp only [setL, List.set_cons_zero, List.set_cons_succ]
  go_wp2
  go_end0
  refine ⟨rfl, ?_⟩
  exact KZ.out.perm (List.perm_middle (l₁ := [_, _]))
set_option maxHeartbeats 3200000 in
theorem rem_last (v1 : Value) (d : Nat) (x y z : Value) (bv : Value) (ha : a < 4294967296) (hs : ∀ e ∈ s, e.1 ≠ a)
    (H : Own.St B w0 w (AVals p 56 (lC room pk v1 (ptr b) m) :: AOf m ((a, ptr b) :: s) :: AVals b 66 [aV a, bv, nilP, ptr d] :: AVals d 66 [x, z, ptr b, y] :: (Ps))) :
    Calls Try.prog 27 #[ptr p, ptr b] w fun e w' => e = .returned (.tuple #[]) ∧ Own.St B w0 w' (AVals b 66 [aV a, bv, nilP, ptr d] :: AVals p 56 (lC room pk v1 (ptr d) m) :: AOf m s :: AVals d 66 [x, z, nilP, y] :: Ps) := by
  have c0 := (H.cellV 2 rfl 3 rfl).1
  have K0 := Lib.hid H
  clear H
  go_enter Try.func27, Try.ntmps27
  go_wp2_with (fail)
  clear c0
  have g0 := K0.out.drew
  have D1 := Lib.hid (g0.cellV 2 rfl 3 rfl).1
  have D2 := Lib.hid (g0.cellV 2 rfl 2 rfl).1
  have D3 := Lib.hid (g0.cellV 3 rfl 2 rfl)
  have h1 := g0.storeV 3 rfl 2 (nilP)
  simp only [List.set_cons_zero, List.set_cons_succ] at h1
  obtain ⟨W1, hW1⟩ : ∃ W, W = w.drew.setCell ⟨d, 2, none⟩ (nilP) := ⟨_, rfl⟩
  rw [← hW1] at h1
  have E1 := Lib.hid hW1
  have K1 := Lib.hid h1
  clear K0 g0 h1 hW1
  refine wp_chain_list [10] (fun j wx => wx = match j with | 0 => w.drew | _ => W1) (by kernel_rfl) (by kernel_rfl) (by kernel_rfl) (by kernel_rfl) rfl ?_
  refine wpG_move (ptr b) rfl (by kernel_rfl) (by kernel_rfl) (by kernel_rfl) ?_
  refine wpG_run1 (x := .tmp 16) (ptr b) (ptr b) (by kernel_rfl) (by kernel_rfl) (by kernel_rfl) (by kernel_rfl) (fun j wx ρ hC h0 hc => nilC rfl ρ wx h0) ?_
  refine wpG_run1 (x := .tmp 17) (ptr b) (.pointer (some ⟨b, 3, none⟩)) (by kernel_rfl) (by kernel_rfl) (by kernel_rfl) (by kernel_rfl) (fun j wx ρ hC h0 hc => fldN rfl (by decide) ρ wx h0) ?_
  refine wpG_runU1 (x := .tmp 18) 0 (.pointer (some ⟨b, 3, none⟩)) (ptr d) (by kernel_rfl) (by kernel_rfl) (by kernel_rfl) (by kernel_rfl) (by kernel_rfl) (by kernel_rfl) (fun j wx ρ hj hC h0 hc => ?_) ?_
  · obtain rfl : j = 0 := by omega
    subst hC
    simp [go_sem, h0, D1.out]
  refine wpG_move (ptr b) rfl (by kernel_rfl) (by kernel_rfl) (by kernel_rfl) ?_
  refine wpG_run1 (x := .tmp 20) (ptr b) (ptr b) (by kernel_rfl) (by kernel_rfl) (by kernel_rfl) (by kernel_rfl) (fun j wx ρ hC h0 hc => nilC rfl ρ wx h0) ?_
  refine wpG_run1 (x := .tmp 21) (ptr b) (.pointer (some ⟨b, 2, none⟩)) (by kernel_rfl) (by kernel_rfl) (by kernel_rfl) (by kernel_rfl) (fun j wx ρ hC h0 hc => fldN rfl (by decide) ρ wx h0) ?_
  refine wpG_runU1 (x := .tmp 22) 0 (.pointer (some ⟨b, 2, none⟩)) (nilP) (by kernel_rfl) (by kernel_rfl) (by kernel_rfl) (by kernel_rfl) (by kernel_rfl) (by kernel_rfl) (fun j wx ρ hj hC h0 hc => ?_) ?_
  · obtain rfl : j = 0 := by omega
    subst hC
    simp [go_sem, h0, D2.out]
  refine wpG_run1 (x := .tmp 19) (ptr d) (ptr d) (by kernel_rfl) (by kernel_rfl) (by kernel_rfl) (by kernel_rfl) (fun j wx ρ hC h0 hc => nilC rfl ρ wx h0) ?_
  refine wpG_run1 (x := .tmp 24) (ptr d) (.pointer (some ⟨d, 2, none⟩)) (by kernel_rfl) (by kernel_rfl) (by kernel_rfl) (by kernel_rfl) (fun j wx ρ hC h0 hc => fldN rfl (by decide) ρ wx h0) ?_
  refine wpG_op 0 undef _ (.inr ⟨rfl, rfl⟩) (by kernel_rfl) (by kernel_rfl) (by kernel_rfl) (by kernel_rfl) (by kernel_rfl) (fun wx hC => ⟨W1, by subst hC; exact sto_E (a := .pointer (some ⟨d, 2, none⟩)) (v := nilP) rfl (by kernel_rfl) (by kernel_rfl) (by simp [go_sem, D3.out.1, D3.out.2, E1.out]), rfl⟩) ?_
  refine wpG_end (fun w1 hw1 => ?_)
  obtain rfl : w1 = W1 := hw1
  simp only [setL, List.set_cons_zero, List.set_cons_succ]
  clear D1 D2 D3 E1
  have c3 := (K1.out.cellV 2 rfl 2 rfl).1
  have c4 := (K1.out.cellV 2 rfl 3 rfl).1
  obtain ⟨c5, c5z⟩ := K1.out.cellV 0 rfl 3 rfl
  have h2 := K1.out.storeV 0 rfl 3 (ptr d)
  simp only [List.set_cons_zero, List.set_cons_succ] at h2
  obtain ⟨W2, hW2⟩ : ∃ W, W = w1.setCell ⟨p, 3, none⟩ (ptr d) := ⟨_, rfl⟩
  rw [← hW2] at h2
  have E2 := hW2.symm
  have K2 := Lib.hid h2
  clear K1 h2 hW2
  go_wp2_with (fail)
  clear c3 c4 c5 c5z E2
  have g2 := K2.out.drew
  have D1 := Lib.hid (g2.cellV 0 rfl 4 rfl).1
  have D2 := Lib.hid (g2.cellV 2 rfl 0 rfl).1
  obtain ⟨wz, ez, kz⟩ := mapDelN g2 1 (v := ptr b) (s := s) rfl ha hs 0
  simp only [List.set_cons_zero, List.set_cons_succ] at kz
  have EZ := Lib.hid ez
  have KZ := Lib.hid kz
  clear g2 ez kz K2 hs
  refine wp_chain_list [8] (fun j wx => wx = match j with | 0 => W2.drew | _ => wz) (by kernel_rfl) (by kernel_rfl) (by kernel_rfl) (by kernel_rfl) rfl ?_
  refine wpG_move (ptr p) rfl (by kernel_rfl) (by kernel_rfl) (by kernel_rfl) ?_
  refine wpG_run1 (x := .tmp 48) (ptr p) (ptr p) (by kernel_rfl) (by kernel_rfl) (by kernel_rfl) (by kernel_rfl) (fun j wx ρ hC h0 hc => nilC rfl ρ wx h0) ?_
  refine wpG_run1 (x := .tmp 49) (ptr p) (.pointer (some ⟨p, 4, none⟩)) (by kernel_rfl) (by kernel_rfl) (by kernel_rfl) (by kernel_rfl) (fun j wx ρ hC h0 hc => fldL rfl (by decide) ρ wx h0) ?_
  refine wpG_runU1 (x := .tmp 50) 0 (.pointer (some ⟨p, 4, none⟩)) (.map (some m)) (by kernel_rfl) (by kernel_rfl) (by kernel_rfl) (by kernel_rfl) (by kernel_rfl) (by kernel_rfl) (fun j wx ρ hj hC h0 hc => ?_) ?_
  · obtain rfl : j = 0 := by omega
    subst hC
    simp [go_sem, h0, D1.out]
  refine wpG_move (ptr b) rfl (by kernel_rfl) (by kernel_rfl) (by kernel_rfl) ?_
  refine wpG_run1 (x := .tmp 52) (ptr b) (ptr b) (by kernel_rfl) (by kernel_rfl) (by kernel_rfl) (by kernel_rfl) (fun j wx ρ hC h0 hc => nilC rfl ρ wx h0) ?_
  refine wpG_run1 (x := .tmp 53) (ptr b) (.pointer (some ⟨b, 0, none⟩)) (by kernel_rfl) (by kernel_rfl) (by kernel_rfl) (by kernel_rfl) (fun j wx ρ hC h0 hc => fldN rfl (by decide) ρ wx h0) ?_
  refine wpG_runU1 (x := .tmp 54) 0 (.pointer (some ⟨b, 0, none⟩)) (.int .u32 (a : Int)) (by kernel_rfl) (by kernel_rfl) (by kernel_rfl) (by kernel_rfl) (by kernel_rfl) (by kernel_rfl) (fun j wx ρ hj hC h0 hc => ?_) ?_
  · obtain rfl : j = 0 := by omega
    subst hC
    simp [go_sem, h0, D2.out]
  refine wpG_op 0 (.tuple #[]) _ (.inl rfl) (by kernel_rfl) (by kernel_rfl) (by kernel_rfl) (by kernel_rfl) (by kernel_rfl) (fun wx hC => ⟨wz, by subst hC; exact del_E (m := .map (some m)) (k := .int .u32 (a : Int)) rfl (by kernel_rfl) (by kernel_rfl) EZ.out, rfl⟩) ?_
  refine wpG_end (fun w3 hw3 => ?_)
  obtain rfl : w3 = wz := hw3
  simp only [setL, List.set_cons_zero, List.set_cons_succ]
  go_wp2
  go_end0
  refine ⟨rfl, ?_⟩
  exact KZ.out.perm (List.perm_middle (l₁ := [_, _]))
set_option maxHeartbeats 3200000 in
theorem rem_mid (v1 v2 : Value) (d : Nat) (x y z : Value) (f : Nat) (x2 y2 z2 : Value) (bv : Value) (ha : a < 4294967296) (hs : ∀ e ∈ s, e.1 ≠ a)
    (H : Own.St B w0 w (AVals p 56 (lC room pk v1 v2 m) :: AOf m ((a, ptr b) :: s) :: AVals b 66 [aV a, bv, ptr f, ptr d] :: AVals d 66 [x, z, ptr b, y] :: AVals f 66 [x2, z2, y2, ptr b] :: (Ps))) :
    Calls Try.prog 27 #[ptr p, ptr b] w fun e w' => e = .returned (.tuple #[]) ∧ Own.St B w0 w' (AVals b 66 [aV a, bv, ptr f, ptr d] :: AVals p 56 (lC room pk v1 v2 m) :: AOf m s :: AVals d 66 [x, z, ptr f, y] :: AVals f 66 [x2, z2, y2, ptr d] :: Ps) := by
  have c0 := (H.cellV 2 rfl 3 rfl).1
  have K0 := Lib.hid H
  clear H
  go_enter Try.func27, Try.ntmps27
  go_wp2_with (fail)
  clear c0
  have g0 := K0.out.drew
  have D1 := Lib.hid (g0.cellV 2 rfl 3 rfl).1
  have D2 := Lib.hid (g0.cellV 2 rfl 2 rfl).1
  have D3 := Lib.hid (g0.cellV 3 rfl 2 rfl)
  have h1 := g0.storeV 3 rfl 2 (ptr f)
  simp only [List.set_cons_zero, List.set_cons_succ] at h1
  obtain ⟨W1, hW1⟩ : ∃ W, W = w.drew.setCell ⟨d, 2, none⟩ (ptr f) := ⟨_, rfl⟩
  rw [← hW1] at h1
  have E1 := Lib.hid hW1
  have K1 := Lib.hid h1
  clear K0 g0 h1 hW1
  refine wp_chain_list [10] (fun j wx => wx = match j with | 0 => w.drew | _ => W1) (by kernel_rfl) (by kernel_rfl) (by kernel_rfl) (by kernel_rfl) rfl ?_
  refine wpG_move (ptr b) rfl (by kernel_rfl) (by kernel_rfl) (by kernel_rfl) ?_
  refine wpG_run1 (x := .tmp 16) (ptr b) (ptr b) (by kernel_rfl) (by kernel_rfl) (by kernel_rfl) (by kernel_rfl) (fun j wx ρ hC h0 hc => nilC rfl ρ wx h0) ?_
  refine wpG_run1 (x := .tmp 17) (ptr b) (.pointer (some ⟨b, 3, none⟩)) (by kernel_rfl) (by kernel_rfl) (by kernel_rfl) (by kernel_rfl) (fun j wx ρ hC h0 hc => fldN rfl (by decide) ρ wx h0) ?_
  refine wpG_runU1 (x := .tmp 18) 0 (.pointer (some ⟨b, 3, none⟩)) (ptr d) (by kernel_rfl) (by kernel_rfl) (by kernel_rfl) (by kernel_rfl) (by kernel_rfl) (by kernel_rfl) (fun j wx ρ hj hC h0 hc => ?_) ?_
  · obtain rfl : j = 0 := by omega
    subst hC
    simp [go_sem, h0, D1.out]
  refine wpG_move (ptr b) rfl (by kernel_rfl) (by kernel_rfl) (by kernel_rfl) ?_
  refine wpG_run1 (x := .tmp 20) (ptr b) (ptr b) (by kernel_rfl) (by kernel_rfl) (by kernel_rfl) (by kernel_rfl) (fun j wx ρ hC h0 hc => nilC rfl ρ wx h0) ?_
  refine wpG_run1 (x := .tmp 21) (ptr b) (.pointer (some ⟨b, 2, none⟩)) (by kernel_rfl) (by kernel_rfl) (by kernel_rfl) (by kernel_rfl) (fun j wx ρ hC h0 hc => fldN rfl (by decide) ρ wx h0) ?_
  refine wpG_runU1 (x := .tmp 22) 0 (.pointer (some ⟨b, 2, none⟩)) (ptr f) (by kernel_rfl) (by kernel_rfl) (by kernel_rfl) (by kernel_rfl) (by kernel_rfl) (by kernel_rfl) (fun j wx ρ hj hC h0 hc => ?_) ?_
  · obtain rfl : j = 0 := by omega
    subst hC
    simp [go_sem, h0, D2.out]
  refine wpG_run1 (x := .tmp 19) (ptr d) (ptr d) (by kernel_rfl) (by kernel_rfl) (by kernel_rfl) (by kernel_rfl) (fun j wx ρ hC h0 hc => nilC rfl ρ wx h0) ?_
  refine wpG_run1 (x := .tmp 24) (ptr d) (.pointer (some ⟨d, 2, none⟩)) (by kernel_rfl) (by kernel_rfl) (by kernel_rfl) (by kernel_rfl) (fun j wx ρ hC h0 hc => fldN rfl (by decide) ρ wx h0) ?_
  refine wpG_op 0 undef _ (.inr ⟨rfl, rfl⟩) (by kernel_rfl) (by kernel_rfl) (by kernel_rfl) (by kernel_rfl) (by kernel_rfl) (fun wx hC => ⟨W1, by subst hC; exact sto_E (a := .pointer (some ⟨d, 2, none⟩)) (v := ptr f) rfl (by kernel_rfl) (by kernel_rfl) (by simp [go_sem, D3.out.1, D3.out.2, E1.out]), rfl⟩) ?_
  refine wpG_end (fun w1 hw1 => ?_)
  obtain rfl : w1 = W1 := hw1
  simp only [setL, List.set_cons_zero, List.set_cons_succ]
  clear D1 D2 D3 E1
  have c3 := (K1.out.cellV 2 rfl 2 rfl).1
  go_wp2_with (fail)
  clear c3
  have g1 := K1.out.drew
  have D1 := Lib.hid (g1.cellV 2 rfl 2 rfl).1
  have D2 := Lib.hid (g1.cellV 2 rfl 3 rfl).1
  have D3 := Lib.hid (g1.cellV 4 rfl 3 rfl)
  have h2 := g1.storeV 4 rfl 3 (ptr d)
  simp only [List.set_cons_zero, List.set_cons_succ] at h2
  obtain ⟨W2, hW2⟩ : ∃ W, W = w1.drew.setCell ⟨f, 3, none⟩ (ptr d) := ⟨_, rfl⟩
  rw [← hW2] at h2
  have E2 := Lib.hid hW2
  have K2 := Lib.hid h2
  clear K1 g1 h2 hW2
  refine wp_chain_list [10] (fun j wx => wx = match j with | 0 => w1.drew | _ => W2) (by kernel_rfl) (by kernel_rfl) (by kernel_rfl) (by kernel_rfl) rfl ?_
  refine wpG_move (ptr b) rfl (by kernel_rfl) (by kernel_rfl) (by kernel_rfl) ?_
  refine wpG_run1 (x := .tmp 38) (ptr b) (ptr b) (by kernel_rfl) (by kernel_rfl) (by kernel_rfl) (by kernel_rfl) (fun j wx ρ hC h0 hc => nilC rfl ρ wx h0) ?_
  refine wpG_run1 (x := .tmp 39) (ptr b) (.pointer (some ⟨b, 2, none⟩)) (by kernel_rfl) (by kernel_rfl) (by kernel_rfl) (by kernel_rfl) (fun j wx ρ hC h0 hc => fldN rfl (by decide) ρ wx h0) ?_
  refine wpG_runU1 (x := .tmp 40) 0 (.pointer (some ⟨b, 2, none⟩)) (ptr f) (by kernel_rfl) (by kernel_rfl) (by kernel_rfl) (by kernel_rfl) (by kernel_rfl) (by kernel_rfl) (fun j wx ρ hj hC h0 hc => ?_) ?_
  · obtain rfl : j = 0 := by omega
    subst hC
    simp [go_sem, h0, D1.out]
  refine wpG_move (ptr b) rfl (by kernel_rfl) (by kernel_rfl) (by kernel_rfl) ?_
  refine wpG_run1 (x := .tmp 42) (ptr b) (ptr b) (by kernel_rfl) (by kernel_rfl) (by kernel_rfl) (by kernel_rfl) (fun j wx ρ hC h0 hc => nilC rfl ρ wx h0) ?_
  refine wpG_run1 (x := .tmp 43) (ptr b) (.pointer (some ⟨b, 3, none⟩)) (by kernel_rfl) (by kernel_rfl) (by kernel_rfl) (by kernel_rfl) (fun j wx ρ hC h0 hc => fldN rfl (by decide) ρ wx h0) ?_
  refine wpG_runU1 (x := .tmp 44) 0 (.pointer (some ⟨b, 3, none⟩)) (ptr d) (by kernel_rfl) (by kernel_rfl) (by kernel_rfl) (by kernel_rfl) (by kernel_rfl) (by kernel_rfl) (fun j wx ρ hj hC h0 hc => ?_) ?_
  · obtain rfl : j = 0 := by omega
    subst hC
    simp [go_sem, h0, D2.out]
  refine wpG_run1 (x := .tmp 41) (ptr f) (ptr f) (by kernel_rfl) (by kernel_rfl) (by kernel_rfl) (by kernel_rfl) (fun j wx ρ hC h0 hc => nilC rfl ρ wx h0) ?_
  refine wpG_run1 (x := .tmp 46) (ptr f) (.pointer (some ⟨f, 3, none⟩)) (by kernel_rfl) (by kernel_rfl) (by kernel_rfl) (by kernel_rfl) (fun j wx ρ hC h0 hc => fldN rfl (by decide) ρ wx h0) ?_
  refine wpG_op 0 undef _ (.inr ⟨rfl, rfl⟩) (by kernel_rfl) (by kernel_rfl) (by kernel_rfl) (by kernel_rfl) (by kernel_rfl) (fun wx hC => ⟨W2, by subst hC; exact sto_E (a := .pointer (some ⟨f, 3, none⟩)) (v := ptr d) rfl (by kernel_rfl) (by kernel_rfl) (by simp [go_sem, D3.out.1, D3.out.2, E2.out]), rfl⟩) ?_
  refine wpG_end (fun w2 hw2 => ?_)
  obtain rfl : w2 = W2 := hw2
  simp only [setL, List.set_cons_zero, List.set_cons_succ]
  clear D1 D2 D3 E2
  go_wp2_with (fail)
  have g2 := K2.out.drew
  have D1 := Lib.hid (g2.cellV 0 rfl 4 rfl).1
  have D2 := Lib.hid (g2.cellV 2 rfl 0 rfl).1
  obtain ⟨wz, ez, kz⟩ := mapDelN g2 1 (v := ptr b) (s := s) rfl ha hs 0
  simp only [List.set_cons_zero, List.set_cons_succ] at kz
  have EZ := Lib.hid ez
  have KZ := Lib.hid kz
  clear g2 ez kz K2 hs
  refine wp_chain_list [8] (fun j wx => wx = match j with | 0 => w2.drew | _ => wz) (by kernel_rfl) (by kernel_rfl) (by kernel_rfl) (by kernel_rfl) rfl ?_
  refine wpG_move (ptr p) rfl (by kernel_rfl) (by kernel_rfl) (by kernel_rfl) ?_
  refine wpG_run1 (x := .tmp 48) (ptr p) (ptr p) (by kernel_rfl) (by kernel_rfl) (by kernel_rfl) (by kernel_rfl) (fun j wx ρ hC h0 hc => nilC rfl ρ wx h0) ?_
  refine wpG_run1 (x := .tmp 49) (ptr p) (.pointer (some ⟨p, 4, none⟩)) (by kernel_rfl) (by kernel_rfl) (by kernel_rfl) (by kernel_rfl) (fun j wx ρ hC h0 hc => fldL rfl (by decide) ρ wx h0) ?_
  refine wpG_runU1 (x := .tmp 50) 0 (.pointer (some ⟨p, 4, none⟩)) (.map (some m)) (by kernel_rfl) (by kernel_rfl) (by kernel_rfl) (by kernel_rfl) (by kernel_rfl) (by kernel_rfl) (fun j wx ρ hj hC h0 hc => ?_) ?_
  · obtain rfl : j = 0 := by omega
    subst hC
    simp [go_sem, h0, D1.out]
  refine wpG_move (ptr b) rfl (by kernel_rfl) (by kernel_rfl) (by kernel_rfl) ?_
  refine wpG_run1 (x := .tmp 52) (ptr b) (ptr b) (by kernel_rfl) (by kernel_rfl) (by kernel_rfl) (by kernel_rfl) (fun j wx ρ hC h0 hc => nilC rfl ρ wx h0) ?_
  refine wpG_run1 (x := .tmp 53) (ptr b) (.pointer (some ⟨b, 0, none⟩)) (by kernel_rfl) (by kernel_rfl) (by kernel_rfl) (by kernel_rfl) (fun j wx ρ hC h0 hc => fldN rfl (by decide) ρ wx h0) ?_
  refine wpG_runU1 (x := .tmp 54) 0 (.pointer (some ⟨b, 0, none⟩)) (.int .u32 (a : Int)) (by kernel_rfl) (by kernel_rfl) (by kernel_rfl) (by kernel_rfl) (by kernel_rfl) (by kernel_rfl) (fun j wx ρ hj hC h0 hc => ?_) ?_
  · obtain rfl : j = 0 := by omega
    subst hC
    simp [go_sem, h0, D2.out]
  refine wpG_op 0 (.tuple #[]) _ (.inl rfl) (by kernel_rfl) (by kernel_rfl) (by kernel_rfl) (by kernel_rfl) (by kernel_rfl) (fun wx hC => ⟨wz, by subst hC; exact del_E (m := .map (some m)) (k := .int .u32 (a : Int)) rfl (by kernel_rfl) (by kernel_rfl) EZ.out, rfl⟩) ?_
  refine wpG_end (fun w3 hw3 => ?_)
  obtain rfl : w3 = wz := hw3
  simp only [setL, List.set_cons_zero, List.set_cons_succ]
  go_wp2
  go_end0
  refine ⟨rfl, ?_⟩
  exact KZ.out.perm (List.perm_middle (l₁ := [_, _]))
end
end Hta
end Go.Proofs.Ytameigmoabimiaa

end
section
namespace Go.Proofs.Ytameigmoabimiaa
open Go.RowKit Go.Own Go.Maps
namespace Hta
open Go.GhoM Go.HotM Byt Gho Hot
open Gha (nilP u32Keyed kl kl_inj key_of KV Reads AOf nilC del_E sto_E aof_perm aof_perm1)
theorem upd_E {P : Program} {o : Oper} {x y z : Tmp} {t : TypeId} (ho : o.op = .mapUpdate t (.tmp x) (.tmp y) (.tmp z)) {ρ : Operand → Value} {w w' : World} {m k v : Value} (h0 : ρ (.tmp x) = m) (h1 : ρ (.tmp y) = k) (h2 : ρ (.tmp z) = v) (hrun : (Instr.mapUpdate t m k v).run P w = .ok () w') : (execOp ρ o).run P w = .ok .skip w' := by
  unfold execOp
  simp [ho, h0, h1, h2, hrun, Result.andThen]
section
variable {B : Nat} {w0 w : World} {Ps : List Asn} {p m room pk a b : Nat} {g : G} {s t : List KV} {es : List Nd} {e : Nd}
theorem parts_app (Ps : List Asn) : partsL p m room pk g es ++ Ps = AVals p 56 (lC room pk (hdV es nilP) (laV nilP es) m) :: AOf m (es.map kv) :: (seg nilP es nilP ++ (Gha.A pk g :: (es.map blkA ++ Ps))) := by
  unfold partsL restL
  simp only [List.cons_append, List.append_assoc]
/-- closed behind another object -/
theorem es_close1 {P : Asn} (X : Own.St B w0 w (P :: AVals p 56 (lC room pk (hdV es nilP) (laV nilP es) m) :: AOf m (es.map kv) :: (seg nilP es nilP ++ (Gha.A pk g :: (es.map blkA ++ Ps))))) : Own.St B w0 w (P :: AEs p m room pk g es :: Ps) := by
  rw [← parts_app] at X
  have h := X.perm List.perm_middle.symm
  exact (Own.St.closeJ (Qs := partsL p m room pk g es) h).perm (List.Perm.swap _ _ _)
theorem kv_ne {pre post : List Nd} (hn : ((pre ++ e :: post).map (·.a)).Nodup) : ∀ x ∈ (pre ++ post).map kv, x.1 ≠ e.a := by
  intro x hx
  obtain ⟨y, hy, rfl⟩ := List.mem_map.1 hx
  rw [List.map_append, List.map_cons] at hn
  have h1 := (List.perm_middle (l₁ := pre.map (·.a)) (l₂ := post.map (·.a)) (a := e.a)).nodup_iff.1 hn
  have h2 := (List.nodup_cons.1 h1).1
  rw [← List.map_append] at h2
  exact fun e => h2 (List.mem_map.2 ⟨y, hy, e⟩)
theorem kv_not (hn : a ∉ es.map (·.a)) : ∀ e ∈ es.map kv, e.1 ≠ a := by
  intro e he
  obtain ⟨x, hx, rfl⟩ := List.mem_map.1 he
  exact fun e => hn (List.mem_map.2 ⟨x, hx, e⟩)
theorem kv_perm (pre post : List Nd) : ((pre ++ e :: post).map kv).Perm ((e.a, ptr e.b) :: (pre ++ post).map kv) := by
  rw [List.map_append, List.map_cons, List.map_append]
  exact List.perm_middle
/-- what stands behind the nodes -/
abbrev tailA (pk : Nat) (g : G) (es : List Nd) (Ps : List Asn) : List Asn := Gha.A pk g :: (es.map blkA ++ Ps)
theorem tail_perm (pre post : List Nd) (Ps : List Asn) : (tailA pk g (pre ++ e :: post) Ps).Perm (tailA pk g (pre ++ post) (blkA e :: Ps)) := by
  refine List.Perm.cons _ ?_
  rw [List.map_append, List.map_cons, List.map_append, List.append_assoc, List.append_assoc]
  refine List.Perm.append_left _ ?_
  exact List.perm_middle.symm
/-- the taken one ahead, its bytes behind it -/
theorem end_perm {P Q R : Asn} (X : Own.St B w0 w (P :: Q :: R :: Ps)) : Own.St B w0 w (P :: R :: Q :: Ps) := X.perm (List.Perm.cons _ (List.Perm.swap _ _ _))
/-- a node is taken out -/
theorem remove_any {pre post : List Nd} (H : Own.St B w0 w (AEs p m room pk g (pre ++ e :: post) :: Ps)) (hn : ((pre ++ e :: post).map (·.a)).Nodup) (ha : e.a < 4294967296) :
    Calls Try.prog 27 #[ptr p, ptr e.b] w fun x w' => x = .returned (.tuple #[]) ∧ ∃ od nw, Own.St B w0 w' (nodeA e od nw :: blkA e :: AEs p m room pk g (pre ++ post) :: Ps) := by
  have hs := kv_ne hn
  have h0 := aof_perm1 (es_open H) (kv_perm pre post)
  replace h0 := h0.perm (((((tail_perm (pk := pk) (g := g) (e := e) pre post Ps).append_left (seg nilP (pre ++ e :: post) nilP)).cons _).cons _))
  rcases List.eq_nil_or_concat pre with rfl | ⟨pr, d, rfl⟩
  · cases post with
    | nil =>
      refine (rem_one (Ps := tailA pk g [] (blkA e :: Ps)) (s := []) (sv e) ha hs h0).mono ?_
      rintro x w' ⟨rfl, h⟩
      exact ⟨rfl, _, _, end_perm (es_close1 (es := []) h)⟩
    | cons f po =>
      refine (rem_first (Ps := seg (ptr f.b) po nilP ++ tailA pk g (f :: po) (blkA e :: Ps)) (s := (f :: po).map kv) (laV (ptr f.b) po) f.b (aV f.a) (hdV po nilP) (sv f) (sv e) ha hs h0).mono ?_
      rintro x w' ⟨rfl, h⟩
      exact ⟨rfl, _, _, end_perm (es_close1 (es := f :: po) h)⟩
  · rw [List.concat_eq_append] at *
    have e1 : hdV (pr ++ [d] ++ e :: post) nilP = hdV pr (ptr d.b) := by rw [List.append_assoc, hd_app]; rfl
    have e2 : laV nilP (pr ++ [d] ++ e :: post) = laV (ptr e.b) post := by rw [la_app]; rfl
    have e3 : seg nilP (pr ++ [d] ++ e :: post) nilP = seg nilP pr (ptr d.b) ++ (nodeA d (ptr e.b) (laV nilP pr) :: nodeA e (hdV post nilP) (ptr d.b) :: seg (ptr e.b) post nilP) := by
      rw [List.append_assoc, seg_app]
      rfl
    obtain ⟨TL, hTL⟩ : ∃ TL, TL = tailA pk g (pr ++ [d] ++ post) (blkA e :: Ps) := ⟨_, rfl⟩
    rw [e1, e2, e3, ← hTL] at h0
    cases post with
    | nil =>
      have hp : Own.St B w0 w (AVals p 56 (lC room pk (hdV pr (ptr d.b)) (ptr e.b) m) :: AOf m ((e.a, ptr e.b) :: (pr ++ [d] ++ []).map kv) :: AVals e.b 66 [aV e.a, sv e, nilP, ptr d.b] :: AVals d.b 66 [aV d.a, sv d, ptr e.b, laV nilP pr] :: (seg nilP pr (ptr d.b) ++ TL)) := by
        refine h0.perm ((List.Perm.cons _ (List.Perm.cons _ ?_)))
        rw [List.append_assoc]
        refine List.perm_middle.trans (((List.perm_middle (a := nodeA e nilP (ptr d.b))).cons _).trans ?_)
        exact List.Perm.swap _ _ _
      refine (rem_last (s := (pr ++ [d] ++ []).map kv) _ d.b (aV d.a) (laV nilP pr) (sv d) (sv e) ha hs hp).mono ?_
      rintro x w' ⟨rfl, h⟩
      refine ⟨rfl, nilP, ptr d.b, end_perm (es_close1 (es := pr ++ [d] ++ []) ?_)⟩
      have e4 : hdV (pr ++ [d] ++ []) nilP = hdV pr (ptr d.b) := by rw [List.append_nil, hd_app]; rfl
      have e5 : laV nilP (pr ++ [d] ++ []) = ptr d.b := by rw [List.append_nil, la_snoc]
      have e6 : seg nilP (pr ++ [d] ++ []) nilP = seg nilP pr (ptr d.b) ++ [nodeA d nilP (laV nilP pr)] := by rw [List.append_nil, seg_snoc]
      rw [e4, e5, e6]
      rw [show Gha.A pk g :: (List.map blkA (pr ++ [d] ++ []) ++ blkA e :: Ps) = TL from hTL.symm]
      refine h.perm (List.Perm.cons _ (List.Perm.cons _ (List.Perm.cons _ ?_)))
      rw [List.append_assoc]
      exact List.perm_middle.symm
    | cons f po =>
      have hp : Own.St B w0 w (AVals p 56 (lC room pk (hdV pr (ptr d.b)) (laV (ptr e.b) (f :: po)) m) :: AOf m ((e.a, ptr e.b) :: (pr ++ [d] ++ f :: po).map kv) :: AVals e.b 66 [aV e.a, sv e, ptr f.b, ptr d.b] :: AVals d.b 66 [aV d.a, sv d, ptr e.b, laV nilP pr] :: AVals f.b 66 [aV f.a, sv f, hdV po nilP, ptr e.b] :: (seg nilP pr (ptr d.b) ++ (seg (ptr f.b) po nilP ++ TL))) := by
        refine h0.perm ((List.Perm.cons _ (List.Perm.cons _ ?_)))
        rw [List.append_assoc]
        refine List.perm_middle.trans (((List.perm_middle (a := nodeA e (ptr f.b) (ptr d.b))).cons _).trans ?_)
        refine (((List.perm_middle (a := nodeA f (hdV po nilP) (ptr e.b))).cons _).cons _).trans ?_
        exact List.Perm.swap _ _ _
      refine (rem_mid (s := (pr ++ [d] ++ f :: po).map kv) _ _ d.b (aV d.a) (laV nilP pr) (sv d) f.b (aV f.a) (hdV po nilP) (sv f) (sv e) ha hs hp).mono ?_
      rintro x w' ⟨rfl, h⟩
      refine ⟨rfl, ptr f.b, ptr d.b, end_perm (es_close1 (es := pr ++ [d] ++ f :: po) ?_)⟩
      have e4 : hdV (pr ++ [d] ++ f :: po) nilP = hdV pr (ptr d.b) := by rw [List.append_assoc, hd_app]; rfl
      have e5 : laV nilP (pr ++ [d] ++ f :: po) = laV (ptr e.b) (f :: po) := by rw [la_app]; rfl
      have e6 : seg nilP (pr ++ [d] ++ f :: po) nilP = seg nilP pr (ptr d.b) ++ (nodeA d (ptr f.b) (laV nilP pr) :: nodeA f (hdV po nilP) (ptr d.b) :: seg (ptr f.b) po nilP) := by
        rw [List.append_assoc, seg_app]
        rfl
      rw [e4, e5, e6]
      rw [show Gha.A pk g :: (List.map blkA (pr ++ [d] ++ f :: po) ++ blkA e :: Ps) = TL from hTL.symm]
      refine h.perm (List.Perm.cons _ (List.Perm.cons _ (List.Perm.cons _ ?_)))
      rw [List.append_assoc]
      refine List.Perm.symm (List.perm_middle.trans ((List.perm_middle (a := nodeA f (hdV po nilP) (ptr d.b))).cons _))
set_option maxHeartbeats 3200000 in
theorem add_one (bv x y : Value) (ha : a < 4294967296) (hl : s.length ≤ 100000) (hs : ∀ e ∈ s, e.1 ≠ a) (H : Own.St B w0 w (AVals p 56 (lC room pk nilP nilP m) :: AOf m s :: AVals b 66 [aV a, bv, x, y] :: Ps)) :
    Calls Try.prog 26 #[ptr p, ptr b] w fun e w' => e = .returned (.tuple #[]) ∧ Own.St B w0 w' (AVals p 56 (lC room pk (ptr b) (ptr b) m) :: AOf m ((a, ptr b) :: s) :: AVals b 66 [aV a, bv, nilP, nilP] :: Ps) := by
  have c0 := (H.cellV 0 rfl 2 rfl).1
  obtain ⟨cE1, zE1⟩ := H.cellV 2 rfl 2 rfl
  have h1 := H.storeV 2 rfl 2 (nilP)
  simp only [List.set_cons_zero, List.set_cons_succ] at h1
  obtain ⟨W1, hW1⟩ : ∃ W, W = w.setCell ⟨b, 2, none⟩ (nilP) := ⟨_, rfl⟩
  rw [← hW1] at h1
  have E1 := hW1.symm
  obtain ⟨cE2, zE2⟩ := h1.cellV 2 rfl 3 rfl
  have h2 := h1.storeV 2 rfl 3 (nilP)
  simp only [List.set_cons_zero, List.set_cons_succ] at h2
  obtain ⟨W2, hW2⟩ : ∃ W, W = W1.setCell ⟨b, 3, none⟩ (nilP) := ⟨_, rfl⟩
  rw [← hW2] at h2
  have E2 := hW2.symm
  have c3 := (h2.cellV 2 rfl 2 rfl).1
  obtain ⟨cE3, zE3⟩ := h2.cellV 0 rfl 3 rfl
  have h3 := h2.storeV 0 rfl 3 (ptr b)
  simp only [List.set_cons_zero, List.set_cons_succ] at h3
  obtain ⟨W3, hW3⟩ : ∃ W, W = W2.setCell ⟨p, 3, none⟩ (ptr b) := ⟨_, rfl⟩
  rw [← hW3] at h3
  have E3 := hW3.symm
  obtain ⟨cE4, zE4⟩ := h3.cellV 0 rfl 2 rfl
  have h4 := h3.storeV 0 rfl 2 (ptr b)
  simp only [List.set_cons_zero, List.set_cons_succ] at h4
  obtain ⟨W4, hW4⟩ : ∃ W, W = W3.setCell ⟨p, 2, none⟩ (ptr b) := ⟨_, rfl⟩
  rw [← hW4] at h4
  have E4 := hW4.symm
  have K4 := Lib.hid h4
  have HS := Lib.hid hs
  clear H h1 h2 h3 h4 hW1 hW2 hW3 hW4 hs
  go_enter Try.func26, Try.ntmps26
  go_wp2_with (fail)
  clear c0 cE1 zE1 E1 cE2 zE2 E2 c3 cE3 zE3 E3 cE4 zE4 E4
  have g2 := K4.out.drew
  have D1 := Lib.hid (g2.cellV 0 rfl 4 rfl).1
  have D2 := Lib.hid (g2.cellV 2 rfl 0 rfl).1
  obtain ⟨wz, ez, kz⟩ := mapPutN g2 1 (a := a) (v := nilP) (pres := false) (s := s) rfl ha HS.out (by omega) (ptr b)
  simp only [List.set_cons_zero, List.set_cons_succ] at kz
  have EZ := Lib.hid ez
  have KZ := Lib.hid kz
  clear g2 ez kz K4 HS
  refine wp_chain_list [9] (fun j wx => wx = match j with | 0 => W4.drew | _ => wz) (by kernel_rfl) (by kernel_rfl) (by kernel_rfl) (by kernel_rfl) rfl ?_
  refine wpG_move (ptr p) rfl (by kernel_rfl) (by kernel_rfl) (by kernel_rfl) ?_
  refine wpG_run1 (x := .tmp 34) (ptr p) (ptr p) (by kernel_rfl) (by kernel_rfl) (by kernel_rfl) (by kernel_rfl) (fun j wx ρ hC h0 hc => nilC rfl ρ wx h0) ?_
  refine wpG_run1 (x := .tmp 35) (ptr p) (.pointer (some ⟨p, 4, none⟩)) (by kernel_rfl) (by kernel_rfl) (by kernel_rfl) (by kernel_rfl) (fun j wx ρ hC h0 hc => fldL rfl (by decide) ρ wx h0) ?_
  refine wpG_runU1 (x := .tmp 36) 0 (.pointer (some ⟨p, 4, none⟩)) (.map (some m)) (by kernel_rfl) (by kernel_rfl) (by kernel_rfl) (by kernel_rfl) (by kernel_rfl) (by kernel_rfl) (fun j wx ρ hj hC h0 hc => ?_) ?_
  · obtain rfl : j = 0 := by omega
    subst hC
    simp [go_sem, h0, D1.out]
  refine wpG_move (ptr b) rfl (by kernel_rfl) (by kernel_rfl) (by kernel_rfl) ?_
  refine wpG_run1 (x := .tmp 38) (ptr b) (ptr b) (by kernel_rfl) (by kernel_rfl) (by kernel_rfl) (by kernel_rfl) (fun j wx ρ hC h0 hc => nilC rfl ρ wx h0) ?_
  refine wpG_run1 (x := .tmp 39) (ptr b) (.pointer (some ⟨b, 0, none⟩)) (by kernel_rfl) (by kernel_rfl) (by kernel_rfl) (by kernel_rfl) (fun j wx ρ hC h0 hc => fldN rfl (by decide) ρ wx h0) ?_
  refine wpG_runU1 (x := .tmp 40) 0 (.pointer (some ⟨b, 0, none⟩)) (.int .u32 (a : Int)) (by kernel_rfl) (by kernel_rfl) (by kernel_rfl) (by kernel_rfl) (by kernel_rfl) (by kernel_rfl) (fun j wx ρ hj hC h0 hc => ?_) ?_
  · obtain rfl : j = 0 := by omega
    subst hC
    simp [go_sem, h0, D2.out]
  refine wpG_move (ptr b) rfl (by kernel_rfl) (by kernel_rfl) (by kernel_rfl) ?_
  refine wpG_op 0 undef _ (.inr ⟨rfl, rfl⟩) (by kernel_rfl) (by kernel_rfl) (by kernel_rfl) (by kernel_rfl) (by kernel_rfl) (fun wx hC => ⟨wz, by subst hC; exact upd_E (m := .map (some m)) (k := .int .u32 (a : Int)) (v := ptr b) rfl (by kernel_rfl) (by kernel_rfl) (by kernel_rfl) EZ.out, rfl⟩) ?_
  refine wpG_end (fun w3 hw3 => ?_)
  obtain rfl : w3 = wz := hw3
  simp only [setL, List.set_cons_zero, List.set_cons_succ]
  go_wp2
  go_end0
  exact ⟨rfl, KZ.out⟩
set_option maxHeartbeats 3200000 in
theorem add_first (v2 : Value) (f : Nat) (x2 y2 z2 : Value) (bv x y : Value) (ha : a < 4294967296) (hl : s.length ≤ 100000) (hs : ∀ e ∈ s, e.1 ≠ a) (H : Own.St B w0 w (AVals p 56 (lC room pk (ptr f) v2 m) :: AOf m s :: AVals b 66 [aV a, bv, x, y] :: AVals f 66 [x2, z2, y2, nilP] :: Ps)) :
    Calls Try.prog 26 #[ptr p, ptr b] w fun e w' => e = .returned (.tuple #[]) ∧ Own.St B w0 w' (AVals p 56 (lC room pk (ptr b) v2 m) :: AOf m ((a, ptr b) :: s) :: AVals b 66 [aV a, bv, ptr f, nilP] :: AVals f 66 [x2, z2, y2, ptr b] :: Ps) := by
  have c0 := (H.cellV 0 rfl 2 rfl).1
  obtain ⟨cE1, zE1⟩ := H.cellV 2 rfl 2 rfl
  have h1 := H.storeV 2 rfl 2 (ptr f)
  simp only [List.set_cons_zero, List.set_cons_succ] at h1
  obtain ⟨W1, hW1⟩ : ∃ W, W = w.setCell ⟨b, 2, none⟩ (ptr f) := ⟨_, rfl⟩
  rw [← hW1] at h1
  have E1 := hW1.symm
  obtain ⟨cE2, zE2⟩ := h1.cellV 2 rfl 3 rfl
  have h2 := h1.storeV 2 rfl 3 (nilP)
  simp only [List.set_cons_zero, List.set_cons_succ] at h2
  obtain ⟨W2, hW2⟩ : ∃ W, W = W1.setCell ⟨b, 3, none⟩ (nilP) := ⟨_, rfl⟩
  rw [← hW2] at h2
  have E2 := hW2.symm
  have c3 := (h2.cellV 2 rfl 2 rfl).1
  obtain ⟨cE3, zE3⟩ := h2.cellV 3 rfl 3 rfl
  have h3 := h2.storeV 3 rfl 3 (ptr b)
  simp only [List.set_cons_zero, List.set_cons_succ] at h3
  obtain ⟨W3, hW3⟩ : ∃ W, W = W2.setCell ⟨f, 3, none⟩ (ptr b) := ⟨_, rfl⟩
  rw [← hW3] at h3
  have E3 := hW3.symm
  obtain ⟨cE4, zE4⟩ := h3.cellV 0 rfl 2 rfl
  have h4 := h3.storeV 0 rfl 2 (ptr b)
  simp only [List.set_cons_zero, List.set_cons_succ] at h4
  obtain ⟨W4, hW4⟩ : ∃ W, W = W3.setCell ⟨p, 2, none⟩ (ptr b) := ⟨_, rfl⟩
  rw [← hW4] at h4
  have E4 := hW4.symm
  have K4 := Lib.hid h4
  have HS := Lib.hid hs
  clear H h1 h2 h3 h4 hW1 hW2 hW3 hW4 hs
  go_enter Try.func26, Try.ntmps26
  go_wp2_with (fail)
  clear c0 cE1 zE1 E1 cE2 zE2 E2 c3 cE3 zE3 E3 cE4 zE4 E4
  have g2 := K4.out.drew
  have D1 := Lib.hid (g2.cellV 0 rfl 4 rfl).1
  have D2 := Lib.hid (g2.cellV 2 rfl 0 rfl).1
  obtain ⟨wz, ez, kz⟩ := mapPutN g2 1 (a := a) (v := nilP) (pres := false) (s := s) rfl ha HS.out (by omega) (ptr b)
  simp only [List.set_cons_zero, List.set_cons_succ] at kz
  have EZ := Lib.hid ez
  have KZ := Lib.hid kz
  clear g2 ez kz K4 HS
  refine wp_chain_list [9] (fun j wx => wx = match j with | 0 => W4.drew | _ => wz) (by kernel_rfl) (by kernel_rfl) (by kernel_rfl) (by kernel_rfl) rfl ?_
  refine wpG_move (ptr p) rfl (by kernel_rfl) (by kernel_rfl) (by kernel_rfl) ?_
  refine wpG_run1 (x := .tmp 34) (ptr p) (ptr p) (by kernel_rfl) (by kernel_rfl) (by kernel_rfl) (by kernel_rfl) (fun j wx ρ hC h0 hc => nilC rfl ρ wx h0) ?_
  refine wpG_run1 (x := .tmp 35) (ptr p) (.pointer (some ⟨p, 4, none⟩)) (by kernel_rfl) (by kernel_rfl) (by kernel_rfl) (by kernel_rfl) (fun j wx ρ hC h0 hc => fldL rfl (by decide) ρ wx h0) ?_
  refine wpG_runU1 (x := .tmp 36) 0 (.pointer (some ⟨p, 4, none⟩)) (.map (some m)) (by kernel_rfl) (by kernel_rfl) (by kernel_rfl) (by kernel_rfl) (by kernel_rfl) (by kernel_rfl) (fun j wx ρ hj hC h0 hc => ?_) ?_
  · obtain rfl : j = 0 := by omega
    subst hC
    simp [go_sem, h0, D1.out]
  refine wpG_move (ptr b) rfl (by kernel_rfl) (by kernel_rfl) (by kernel_rfl) ?_
  refine wpG_run1 (x := .tmp 38) (ptr b) (ptr b) (by kernel_rfl) (by kernel_rfl) (by kernel_rfl) (by kernel_rfl) (fun j wx ρ hC h0 hc => nilC rfl ρ wx h0) ?_
  refine wpG_run1 (x := .tmp 39) (ptr b) (.pointer (some ⟨b, 0, none⟩)) (by kernel_rfl) (by kernel_rfl) (by kernel_rfl) (by kernel_rfl) (fun j wx ρ hC h0 hc => fldN rfl (by decide) ρ wx h0) ?_
  refine wpG_runU1 (x := .tmp 40) 0 (.pointer (some ⟨b, 0, none⟩)) (.int .u32 (a : Int)) (by kernel_rfl) (by kernel_rfl) (by kernel_rfl) (by kernel_rfl) (by kernel_rfl) (by kernel_rfl) (fun j wx ρ hj hC h0 hc => ?_) ?_
  · obtain rfl : j = 0 := by omega
    subst hC
    simp [go_sem, h0, D2.out]
  refine wpG_move (ptr b) rfl (by kernel_rfl) (by kernel_rfl) (by kernel_rfl) ?_
  refine wpG_op 0 undef _ (.inr ⟨rfl, rfl⟩) (by kernel_rfl) (by kernel_rfl) (by kernel_rfl) (by kernel_rfl) (by kernel_rfl) (fun wx hC => ⟨wz, by subst hC; exact upd_E (m := .map (some m)) (k := .int .u32 (a : Int)) (v := ptr b) rfl (by kernel_rfl) (by kernel_rfl) (by kernel_rfl) EZ.out, rfl⟩) ?_
  refine wpG_end (fun w3 hw3 => ?_)
  obtain rfl : w3 = wz := hw3
  simp only [setL, List.set_cons_zero, List.set_cons_succ]
  go_wp2
  go_end0
  exact ⟨rfl, KZ.out⟩
theorem add_any {od nw : Value} (H : Own.St B w0 w (nodeA e od nw :: blkA e :: AEs p m room pk g es :: Ps)) (hn : e.a ∉ es.map (·.a)) (ha : e.a < 4294967296) (hl : es.length ≤ 100000) :
    Calls Try.prog 26 #[ptr p, ptr e.b] w fun x w' => x = .returned (.tuple #[]) ∧ Own.St B w0 w' (AEs p m room pk g (e :: es) :: Ps) := by
  have hs := kv_not hn
  have h0 := es_open (H.perm (((List.Perm.swap _ _ _).cons _).trans (List.Perm.swap _ _ _)))
  have hl2 : (es.map kv).length ≤ 100000 := by rw [List.length_map]; exact hl
  have hp : ∀ X : List Asn, (Gha.A pk g :: (es.map blkA ++ nodeA e od nw :: blkA e :: X)).Perm (nodeA e od nw :: (tailA pk g (e :: es) X)) := fun X => by
    refine (List.Perm.cons _ ?_).trans (List.Perm.swap _ _ _)
    refine List.perm_middle.trans (List.Perm.cons _ ?_)
    exact List.perm_middle
  cases es with
  | nil =>
    refine (add_one (Ps := tailA pk g [e] Ps) (s := []) (sv e) od nw ha hl2 hs (h0.perm (((hp Ps).cons _).cons _))).mono ?_
    rintro x w' ⟨rfl, h⟩
    exact ⟨rfl, es_close (es := [e]) h⟩
  | cons f es =>
    have h1 := h0.perm ((((hp Ps).append_left (seg nilP (f :: es) nilP)).cons _).cons _)
    have h2 := h1.perm (((List.perm_middle (l₁ := seg nilP (f :: es) nilP)).cons _).cons _)
    refine (add_first (Ps := seg (ptr f.b) es nilP ++ tailA pk g (e :: f :: es) Ps) (s := (f :: es).map kv) (laV (ptr f.b) es) f.b (aV f.a) (hdV es nilP) (sv f) (sv e) od nw ha hl2 hs h2).mono ?_
    rintro x w' ⟨rfl, h⟩
    exact ⟨rfl, es_close (es := e :: f :: es) h⟩
/-- a block becomes the one that was used last -/
theorem use_any {pre post : List Nd} (H : Own.St B w0 w (AEs p m room pk g (pre ++ e :: post) :: Ps)) (hn : ((pre ++ e :: post).map (·.a)).Nodup) (ha : e.a < 4294967296) (hl : (pre ++ post).length ≤ 100000) :
    Calls Try.prog 24 #[ptr p, ptr e.b] w fun x w' => x = .returned (.tuple #[]) ∧ Own.St B w0 w' (AEs p m room pk g (e :: (pre ++ post)) :: Ps) := by
  have CR := Lib.hid (remove_any H hn ha)
  have hm : e.a ∉ (pre ++ post).map (·.a) := fun h => by
    obtain ⟨y, hy, e2⟩ := List.mem_map.1 h
    exact kv_ne hn (kv y) (List.mem_map.2 ⟨y, hy, rfl⟩) e2
  have HM := Lib.hid hm
  clear H hn hm
  go_enter Try.func24, Try.ntmps24
  go_wp2_with (fail)
  refine CR.out.mono ?_
  rintro x w1 ⟨rfl, od, nw, h1⟩
  have CA := Lib.hid (add_any h1 HM.out ha hl)
  clear h1 CR HM
  go_wp2_with (fail)
  refine CA.out.mono ?_
  rintro x w2 ⟨rfl, h2⟩
  have H2 := Lib.hid h2
  clear h2 CA
  go_wp2
  go_end0
  exact ⟨rfl, H2.out⟩
end
end Hta
end Go.Proofs.Ytameigmoabimiaa

end
section
namespace Go.Proofs.Ytameigmoabimiaa
open Go.RowKit Go.Own Go.Maps
namespace Hta
open Go.GhoM Go.HotM Byt Gho Hot
open Gha (nilP u32Keyed kl kl_inj key_of KV Reads AOf nilC del_E sto_E aof_perm aof_perm1)
/-! ### the ghost's list holds no bytes -/
/-- no cell of these objects is a byte -/
def NoByte (w : World) (S : Nat → Prop) : Prop := ∀ k, S k → ∀ (o : Nat) (v : Int), w.cell? ⟨k, o, none⟩ ≠ some (.int .u8 v)
theorem nob_vals {w : World} {S : Nat → Prop} {b : Nat} {t : TypeId} {vs : List Value} (h : (AVals b t vs).holds S w) (hv : ∀ v, Value.int .u8 v ∉ vs) : NoByte w S := by
  intro k hk o v hc
  obtain rfl := (h.2 k).1 hk
  have hb := h.1
  unfold World.cell? at hc
  simp only [hb] at hc
  simp at hc
  exact hv v (List.mem_of_getElem? hc)
theorem nob_map {w : World} {S : Nat → Prop} {b : Nat} {s : List KV} (h : (AOf b s).holds S w) : NoByte w S := by
  intro k hk o v hc
  obtain ⟨⟨D, ⟨es, clock, hb, _⟩, _⟩, h5⟩ := h
  obtain rfl := (h5 k).1 hk
  unfold World.cell? at hc
  simp only [hb] at hc
  cases hc
theorem nob_apart {w : World} : ∀ {Ps : List Asn} {S : Nat → Prop}, Apart w Ps S → (∀ P ∈ Ps, ∀ S, P.holds S w → NoByte w S) → NoByte w S
  | [], _, h, _, k, hk => absurd hk (h k)
  | P :: Ps, S, ⟨S1, S2, h1, h2, _, h4⟩, hp, k, hk => by
    rcases (h4 k).1 hk with h | h
    · exact hp P (List.mem_cons_self ..) S1 h1 k h
    · exact nob_apart h2 (fun Q hQ => hp Q (List.mem_cons_of_mem _ hQ)) k h
theorem hd_nob : ∀ (es : List Gha.Nd) (v : Int), Gha.hdV es nilP ≠ .int .u8 v
  | [], v, h => by cases h
  | e :: es, v, h => by cases h
theorem la_nob : ∀ (es : List Gha.Nd) (nw : Value) (_ : ∀ v : Int, nw ≠ .int .u8 v) (v : Int), Gha.laV nw es ≠ .int .u8 v
  | [], nw, hn, v, h => hn v h
  | e :: es, nw, _, v, h => la_nob es (ptr e.2) (fun v h => by cases h) v h
theorem seg_nob {w : World} : ∀ (es : List Gha.Nd) (nw : Value) (_ : ∀ v : Int, nw ≠ .int .u8 v), ∀ P ∈ Gha.seg nw es nilP, ∀ S, P.holds S w → NoByte w S
  | [], _, _, P, hP, _, _ => by cases hP
  | e :: es, nw, hn, P, hP, S, h => by
    rcases List.mem_cons.1 hP with rfl | hP
    · refine nob_vals h (fun v hm => ?_)
      rcases List.mem_cons.1 hm with h1 | hm
      · cases h1
      rcases List.mem_cons.1 hm with h1 | hm
      · exact hd_nob es v h1.symm
      rcases List.mem_cons.1 hm with h1 | hm
      · exact hn v h1.symm
      · cases hm
    · exact seg_nob es (ptr e.2) (fun v h => by cases h) P hP S h
theorem gha_nob {w : World} {S : Nat → Prop} {p : Nat} {g : G} (h : (Gha.A p g).holds S w) : NoByte w S := by
  obtain ⟨x, h⟩ := h
  refine nob_apart (Ps := Gha.partsL p x.1.1 g.room x.1.2) h (fun P hP S hS => ?_)
  rcases List.mem_cons.1 hP with rfl | hP
  · refine nob_vals hS (fun v hm => ?_)
    rcases List.mem_cons.1 hm with h1 | hm
    · cases h1
    rcases List.mem_cons.1 hm with h1 | hm
    · exact hd_nob _ v h1.symm
    rcases List.mem_cons.1 hm with h1 | hm
    · exact la_nob _ nilP (fun v h => by cases h) v h1.symm
    rcases List.mem_cons.1 hm with h1 | hm
    · cases h1
    · cases hm
  rcases List.mem_cons.1 hP with rfl | hP
  · exact nob_map hS
  · exact seg_nob _ nilP (fun v h => by cases h) P hP S hS
/-- blocks that are as they were in W -/
def AGarH (W : World) (G : Nat → Prop) : Asn where
  holds S w := (∀ k, S k ↔ (G k ∧ k < W.heap.size)) ∧ (∀ k, S k → w.heap[k]? = W.heap[k]?) ∧ W.heap.size ≤ w.heap.size
  keep h gs hd := by
    refine ⟨h.1, fun k hk => ?_, Nat.le_trans h.2.2 gs.size⟩
    have hlt := ((h.1 k).1 hk).2
    exact (gs.block k (Nat.lt_of_lt_of_le hlt h.2.2) (hd k hk)).trans (h.2.1 k hk)
  lt h k hk := Nat.lt_of_lt_of_le ((h.1 k).1 hk).2 h.2.2
section
variable {B : Nat} {w0 w : World} {Ps : List Asn} {p m room pk a b : Nat} {g : G} {h : H} {s t : List KV} {es : List Nd} {e : Nd}
/-- the list is asked: it turns nothing but what it holds -/
theorem ask_keep (H : Own.St B w0 w (Gha.A pk g :: Ps)) (ok : GhoM.Ok g) (hr : g.room ≤ 4096) (ha : a < 4294967296) {ao : Option Addr} {n cap : Nat} {l : List UInt8} (hg : Given w ao n cap l) :
    Calls Try.prog 25 #[ptr pk, aV a] w fun x w' => x = .returned (.bool (has g a)) ∧ Own.St B w0 w' (Gha.A pk (GhoM.ask g a) :: Ps) ∧ Given w' ao n cap l := by
  obtain ⟨S, hS, hB, put⟩ := H.at 0 rfl
  have hN := gha_nob hS
  have hlt := (Gha.A pk g).lt hS
  have X : Own.St 0 w w [Gha.A pk g, AGarH w (fun k => ¬ S k)] :=
    ⟨Below.refl _ _, Nat.zero_le _, fun k => S k ∨ (¬ S k ∧ k < w.heap.size), ⟨S, fun k => ¬ S k ∧ k < w.heap.size, hS, ⟨fun k => ¬ S k ∧ k < w.heap.size, fun _ => False, ⟨fun k => Iff.rfl, fun k _ => rfl, Nat.le_refl _⟩, fun _ h => h, fun k _ h => h, fun k => by simp⟩, fun k h1 h2 => h2.1 h1, fun k => Iff.rfl⟩, fun k _ => Nat.zero_le k⟩
  refine (Gha.ask_any a X ok hr ha).mono ?_
  rintro x w' ⟨rfl, Y⟩
  obtain ⟨T, hT, _, _⟩ := Y.at 0 rfl
  obtain ⟨hb, _, U, ⟨T, U1, hT, ⟨U2, U3, hG, _, _, hU2⟩, hd, _⟩, _⟩ := Y
  have hst : Step S T w w' := by
    refine ⟨hb.os, hb.tape, hb.output, hG.2.2, fun k hk hn => hG.2.1 k ((hG.1 k).2 ⟨hn, hk⟩), fun k hk => ?_⟩
    by_cases h1 : S k
    · exact .inl h1
    · refine .inr (Nat.le_of_not_lt fun h2 => ?_)
      exact hd k hk ((hU2 k).2 (.inl ((hG.1 k).2 ⟨h1, h2⟩)))
  refine ⟨rfl, put T w' _ hT hst, ?_⟩
  refine ⟨?_, hg.size, hg.room, hg.nil⟩
  rcases hg.view with h1 | ⟨b, o, h1, h2, h3, h4⟩
  · exact .inl h1
  · by_cases hl : l.length = 0
    · exact .inl (List.eq_nil_of_length_eq_zero hl)
    · have hns : ¬ S b := fun h5 => hN b h5 (o + 0) _ (h4 0 (by omega))
      refine .inr ⟨b, o, h1, Nat.lt_of_lt_of_le h2 hst.size, Nat.lt_of_lt_of_le h3 hst.size, fun j hj => ?_⟩
      exact (World.cell?_of_block (w := w) (hst.block b h3 hns)).trans (h4 j hj)
/-- bytes in new memory -/
theorem copied_new {ao : Option Addr} {n cap : Nat} {l : List UInt8} (hg : Given w ao n cap l) (hn : n ≤ 1000000) :
    Calls Try.prog 23 #[.slice ao n cap] w fun x w' => ∃ a' c', x = .returned (.slice a' n c') ∧ Own.St w.heap.size w w' [AB a' n c' l] := by
  obtain ⟨w1, MK, h1⟩ := ab_make (Own.St.start w) .i64 .i64 n (by omega)
  have HC := Lib.hid (vcells (hg.later h1.below).view)
  have HSZ := Lib.hid hg.size
  have HNO : Hid (ao = none → n = 0) := fun e => (given_nil hg e).1
  obtain ⟨b, hb⟩ : ∃ b, b = w.heap.size := ⟨_, rfl⟩
  rw [← hb] at MK h1
  have H1 := Lib.hid h1
  have HBB := Lib.hid hb
  clear h1 hg hb
  go_enter Try.func23, Try.ntmps23
  go_wp2_with (refine wpList_ab_copy rfl (.tmp 7) (.tmp 8) rfl H1.out 0 rfl rfl ao n cap l rfl HSZ.out (Nat.le_refl _) HNO.out HC.out ?_; intro w2 h2; simp only [List.set_cons_zero] at h2; have H2 := Lib.hid h2; clear h2)
  go_ret
  refine ⟨_, _, rfl, ?_⟩
  have h := H2.out
  rw [List.drop_of_length_le (by simp), List.append_nil] at h
  rw [HBB.out] at h ⊢
  exact h
theorem copied_any {ao : Option Addr} {n cap : Nat} {l : List UInt8} (H : Own.St B w0 w Ps) (hg : Given w ao n cap l) (hn : n ≤ 1000000) :
    Calls Try.prog 23 #[.slice ao n cap] w fun x w' => ∃ a' c', x = .returned (.slice a' n c') ∧ Own.St B w0 w' (AB a' n c' l :: Ps) := by
  refine (copied_new hg hn).mono ?_
  rintro x w' ⟨a', c', rfl, h⟩
  refine ⟨a', c', rfl, ?_⟩
  obtain ⟨S, hS, hB, _⟩ := h.at 0 rfl
  exact H.adopt h.below _ hS hB
/-! ### find -/
theorem find_in {pre post : List Nd} (H : Own.St B w0 w (AEs p m room pk g (pre ++ e :: post) :: Ps)) (ha : e.a < 4294967296) :
    Calls Try.prog 22 #[ptr p, aV e.a] w fun x w' => x = .returned (ptr e.b) ∧ w' = w := by
  have h0 := es_open H
  have c0 := (h0.cellV 0 rfl 4 rfl).1
  have LK := mapLookN h0 1 rfl (a := e.a) ha (v := ptr e.b) (List.mem_map.2 ⟨e, by simp, rfl⟩)
  clear H h0
  go_enter Try.func22, Try.ntmps22
  go_wp2_with (refine wpList_val rfl (look_exec rfl LK _ rfl rfl) ?_)
  go_ret
  exact ⟨rfl, rfl⟩
theorem find_not (H : Own.St B w0 w (AEs p m room pk g es :: Ps)) (hn : a ∉ es.map (·.a)) (ha : a < 4294967296) :
    Calls Try.prog 22 #[ptr p, aV a] w fun x w' => x = .returned nilP ∧ w' = w := by
  have h0 := es_open H
  have c0 := (h0.cellV 0 rfl 4 rfl).1
  have LK := mapLook0N h0 1 rfl (a := a) ha (kv_not hn)
  clear H h0 hn
  go_enter Try.func22, Try.ntmps22
  go_wp2_with (refine wpList_val rfl (look_exec rfl LK _ rfl rfl) ?_)
  go_ret
  exact ⟨rfl, rfl⟩
theorem nil_find (a : Nat) (w : World) : Calls Try.prog 22 #[.pointer none, aV a] w fun x w' => x = .returned nilP ∧ w' = w := by
  go_enter Try.func22, Try.ntmps22
  go_wp2
  go_ret
  exact ⟨rfl, rfl⟩
/-! ### New -/
set_option maxHeartbeats 1600000 in
theorem new_any (rm known : Int) (X : Own.St B w0 w Ps) (hr : -9223372036854775808 ≤ rm ∧ rm ≤ 9223372036854775807) (hk : -9223372036854775808 ≤ known ∧ known ≤ 9223372036854775807) :
    Calls Try.prog 9 #[.int .i64 rm, .int .i64 known] w fun e w' => if mayBe rm = true ∧ mayBe known = true then ∃ p, e = .returned (.tuple #[ptr p, errH 0]) ∧ Own.St B w0 w' (A p (newH rm.toNat known.toNat) :: Ps) else e = .returned (.tuple #[.pointer none, errH 1]) ∧ Own.St B w0 w' Ps := by
  by_cases h1 : rm < 0
  · have hm : ¬ (mayBe rm = true ∧ mayBe known = true) := fun h => by have := h.1; unfold mayBe at this; simp at this; omega
    have HH := Lib.hid X
    simp only [if_neg hm]
    clear X hm
    go_enter Try.func9, Try.ntmps9
    go_wp2
    go_ret2
    exact ⟨rfl, HH.out⟩
  · by_cases h2 : 4096 < rm
    · have hm : ¬ (mayBe rm = true ∧ mayBe known = true) := fun h => by have := h.1; unfold mayBe at this; simp at this; omega
      have HH := Lib.hid X
      simp only [if_neg hm]
      clear X hm
      go_enter Try.func9, Try.ntmps9
      go_wp2
      go_ret2
      exact ⟨rfl, HH.out⟩
    · have hm : mayBe rm = true := by unfold mayBe; simp; omega
      have CN := Lib.hid (Gha.new_any known X hk)
      by_cases hq : mayBe known = true
      · simp only [if_pos hq] at CN
        simp only [if_pos (show mayBe rm = true ∧ mayBe known = true from ⟨hm, hq⟩)]
        clear X hm hq
        go_enter Try.func9, Try.ntmps9
        go_wp2_with (fail)
        refine CN.out.mono ?_
        rintro e w1 ⟨q, rfl, h3⟩
        obtain ⟨wm, b, em, hM⟩ := mapMakeN h3
        have h4 := hM.boxV 56 [.int .i64 rm, ptr q, nilP, nilP, .map (some b)]
        have e1 : rm = ((rm.toNat : Nat) : Int) := by omega
        have H4 : Hid (Own.St B w0 (wm.alloc (.cells #[.int .i64 rm, ptr q, nilP, nilP, .map (some b)] 56)) (A wm.heap.size (newH rm.toNat known.toNat) :: Ps)) := by
          refine A_close (m := b) (pk := q) (room := rm.toNat) (g := newG known.toNat) (es := []) (h := newH rm.toNat known.toNat) rfl rfl rfl (es_close (es := []) ?_)
          show Own.St B w0 _ (AVals _ _ [.int .i64 ((rm.toNat : Nat) : Int), ptr q, nilP, nilP, .map (some b)] :: _)
          rw [← e1]
          exact h4
        clear h3 hM h4 e1 CN
        go_wp2
        go_ret2
        exact ⟨_, rfl, H4.out⟩
      · simp only [if_neg hq] at CN
        simp only [if_neg (show ¬ (mayBe rm = true ∧ mayBe known = true) from fun h => hq h.2)]
        clear X hm hq
        go_enter Try.func9, Try.ntmps9
        go_wp2_with (fail)
        refine CN.out.mono ?_
        rintro e w1 ⟨rfl, h3⟩
        have H3 := Lib.hid h3
        clear h3 CN
        go_wp2
        go_ret2
        exact ⟨rfl, H3.out⟩
end
end Hta
end Go.Proofs.Ytameigmoabimiaa

end
section
namespace Go.Proofs.Ytameigmoabimiaa
open Go.RowKit Go.Own Go.Maps
namespace Hta
open Go.GhoM Go.HotM Byt Gho Hot
open Gha (nilP u32Keyed kl kl_inj key_of KV Reads AOf nilC del_E sto_E aof_perm aof_perm1)
/-! ### the nodes and what they stand for -/
theorem keys_es {h : H} {es : List Nd} (he : es.map item = h.L) : keys h = es.map (·.a) := by
  unfold keys
  rw [← he, List.map_map]
  rfl
theorem find_app {e : Nd} {post : List Nd} : ∀ (pre : List Nd) (_ : ∀ x ∈ pre, x.a ≠ e.a), findI e.a ((pre ++ e :: post).map item) = pre.length
  | [], _ => by
    show findI e.a (item e :: _) = 0
    unfold findI
    rw [if_pos (show (item e).addr = e.a from rfl)]
  | x :: pre, hp => by
    show findI e.a (item x :: (pre ++ e :: post).map item) = pre.length + 1
    unfold findI
    rw [if_neg (show ¬ (item x).addr = e.a from hp x (List.mem_cons_self ..)), find_app pre (fun y hy => hp y (List.mem_cons_of_mem _ hy))]
theorem pre_ne {e : Nd} {pre post : List Nd} (hn : ((pre ++ e :: post).map (·.a)).Nodup) : ∀ x ∈ pre, x.a ≠ e.a := fun x hx => kv_ne hn (kv x) (List.mem_map.2 ⟨x, List.mem_append_left _ hx, rfl⟩)
theorem rest_split {e : Nd} {pre post : List Nd} (hn : ((pre ++ e :: post).map (·.a)).Nodup) : rest e.a ((pre ++ e :: post).map item) = (pre ++ post).map item := by
  have h1 : (pre ++ e :: post).map item = (pre.map item ++ [item e]) ++ post.map item := by simp
  have h2 : (pre ++ e :: post).map item = pre.map item ++ (item e :: post.map item) := by simp
  unfold rest
  rw [find_app pre (pre_ne hn)]
  have h3 : ((pre ++ e :: post).map item).take pre.length = pre.map item := by rw [h2, List.take_left' (by simp)]
  have h4 : ((pre ++ e :: post).map item).drop (pre.length + 1) = post.map item := by rw [h1, List.drop_left' (by simp)]
  rw [h3, h4, List.map_append]
theorem bytes_split {h : H} {e : Nd} {pre post : List Nd} (he : (pre ++ e :: post).map item = h.L) (hn : ((pre ++ e :: post).map (·.a)).Nodup) : bytesOf h e.a = e.l := by
  have h1 : h.L[pre.length]? = some (item e) := by
    rw [← he]
    simp
  exact bytes_at (by rw [← he, find_app pre (pre_ne hn)]) h1
theorem split_in {h : H} {es : List Nd} {a : Nat} (he : es.map item = h.L) (hi : isIn h a = true) : ∃ pre e post, es = pre ++ e :: post ∧ e.a = a := by
  rw [isIn_iff, keys_es he] at hi
  obtain ⟨x, hx, hxa⟩ := List.mem_map.1 hi
  obtain ⟨pre, post, h2⟩ := List.append_of_mem hx
  exact ⟨pre, x, post, h2, hxa⟩
theorem nodup_es {h : H} {es : List Nd} (ok : HotM.Ok h) (he : es.map item = h.L) : (es.map (·.a)).Nodup := by rw [← keys_es he]; exact ok.once
theorem len_es {h : H} {es : List Nd} (ok : HotM.Ok h) (he : es.map item = h.L) : es.length ≤ h.room ∧ es.length ≤ 4096 := by
  have h1 := ok.len
  have h2 := ok.room
  rw [← he, List.length_map] at h1
  exact ⟨h1, Nat.le_trans h1 h2⟩
section
variable {B : Nat} {w0 w : World} {Ps : List Asn} {p m room pk a b : Nat} {g : G} {h : H} {s t : List KV} {es : List Nd} {e : Nd}
/-- a node's bytes are there -/
theorem blk_given (X : Own.St B w0 w (AEs p m room pk g es :: Ps)) (he : e ∈ es) : Given w e.ao e.n e.c e.l ∧ e.l.length = e.n := by
  have h0 := es_open X
  obtain ⟨i, hi⟩ := List.getElem?_of_mem (l := AVals p 56 (lC room pk (hdV es nilP) (laV nilP es) m) :: AOf m (es.map kv) :: (seg nilP es nilP ++ (Gha.A pk g :: (es.map blkA ++ Ps)))) (a := blkA e) (by simp; exact .inr (.inr (.inr (.inr (.inl ⟨e, he, rfl⟩)))))
  exact ⟨given_own h0 i hi, (ab_len h0 i hi).1⟩
/-- the cells of the first node -/
theorem head_cell (X : Own.St B w0 w (AEs p m room pk g (e :: es) :: Ps)) : w.cell? ⟨e.b, 1, none⟩ = some (sv e) := ((es_open X).cellV 2 rfl 1 rfl).1
/-- a block's bytes are replaced by others -/
theorem swap_blk {pre post : List Nd} {a' : Option Addr} {n c : Nat} {l : List UInt8} (X : Own.St B w0 w (AB a' n c l :: AEs p m room pk g (pre ++ e :: post) :: Ps)) :
    (∃ u, w.cell? ⟨e.b, 1, none⟩ = some u) ∧ w.frozen? ⟨e.b, 1, none⟩ = false ∧ Own.St B w0 (w.setCell ⟨e.b, 1, none⟩ (.slice a' n c)) (AEs p m room pk g (pre ++ { e with ao := a', n := n, c := c, l := l } :: post) :: Ps) := by
  have h0 := es_open (X.perm (List.Perm.swap _ _ _))
  have e1 : seg nilP (pre ++ e :: post) nilP = seg nilP pre (ptr e.b) ++ (nodeA e (hdV post nilP) (laV nilP pre) :: seg (ptr e.b) post nilP) := by rw [seg_app]; rfl
  rw [e1] at h0
  have p1 : ∀ (N : Asn) (v : List Asn) (C M : Asn), (C :: M :: ((seg nilP pre (ptr e.b) ++ (N :: seg (ptr e.b) post nilP)) ++ v)).Perm (N :: C :: M :: (seg nilP pre (ptr e.b) ++ (seg (ptr e.b) post nilP ++ v))) := fun N v C M => by
    rw [List.append_assoc]
    refine ((List.perm_middle.cons M).cons C).trans ?_
    exact ((List.Perm.swap N M _).cons C).trans (List.Perm.swap N C _)
  have h1 := h0.perm (p1 _ _ _ _)
  obtain ⟨c1, c1z⟩ := h1.cellV 0 rfl 1 rfl
  refine ⟨⟨_, c1⟩, c1z, ?_⟩
  have h2 := h1.storeV 0 rfl 1 (.slice a' n c)
  simp only [List.set_cons_zero, List.set_cons_succ] at h2
  have h3 := h2.perm (p1 _ _ _ _).symm
  refine es_close (es := pre ++ { e with ao := a', n := n, c := c, l := l } :: post) ?_
  have q1 : hdV (pre ++ { e with ao := a', n := n, c := c, l := l } :: post) nilP = hdV (pre ++ e :: post) nilP := by rw [hd_app, hd_app]; rfl
  have q2 : laV nilP (pre ++ { e with ao := a', n := n, c := c, l := l } :: post) = laV nilP (pre ++ e :: post) := by rw [la_app, la_app]; rfl
  have q3 : (pre ++ { e with ao := a', n := n, c := c, l := l } :: post).map kv = (pre ++ e :: post).map kv := by rw [List.map_append, List.map_append, List.map_cons, List.map_cons]; rfl
  have q4 : seg nilP (pre ++ { e with ao := a', n := n, c := c, l := l } :: post) nilP = seg nilP pre (ptr e.b) ++ (AVals e.b 66 [aV e.a, .slice a' n c, hdV post nilP, laV nilP pre] :: seg (ptr e.b) post nilP) := by rw [seg_app]; rfl
  rw [q1, q2, q3, q4]
  have p2 : ∀ (L : List Asn), (L ++ (Gha.A pk g :: ((pre ++ e :: post).map blkA ++ AB a' n c l :: Ps))).Perm (blkA e :: (L ++ (Gha.A pk g :: ((pre ++ { e with ao := a', n := n, c := c, l := l } :: post).map blkA ++ Ps)))) := fun L => by
    refine List.Perm.trans (List.Perm.append_left L ?_) List.perm_middle
    refine List.Perm.trans (List.Perm.cons _ ?_) (List.Perm.swap _ _ _)
    rw [List.map_append, List.map_cons, List.map_append, List.map_cons, List.append_assoc, List.append_assoc]
    refine List.perm_middle.trans (List.Perm.cons _ ?_)
    refine List.Perm.append_left _ ?_
    exact List.perm_middle
  have h4 := h3.perm (((p2 _).cons _).cons _)
  have h5 := h4.perm (((List.Perm.swap _ _ _).cons _).trans (List.Perm.swap _ _ _))
  exact h5.drop 1
/-- the list ahead, and put back -/
theorem g_open (X : Own.St B w0 w (AEs p m room pk g es :: Ps)) : w.cell? ⟨p, 1, none⟩ = some (ptr pk) ∧ ∃ R, Own.St B w0 w (Gha.A pk g :: R) ∧ ∀ w' g', Own.St B w0 w' (Gha.A pk g' :: R) → Own.St B w0 w' (AEs p m room pk g' es :: Ps) := by
  have h0 := es_open X
  refine ⟨(h0.cellV 0 rfl 1 rfl).1, AVals p 56 (lC room pk (hdV es nilP) (laV nilP es) m) :: AOf m (es.map kv) :: (seg nilP es nilP ++ (es.map blkA ++ Ps)), ?_, fun w' g' h => es_close ?_⟩
  · refine h0.perm ?_
    refine ((List.perm_middle.cons _).cons _).trans ?_
    exact ((List.Perm.swap _ _ _).cons _).trans (List.Perm.swap _ _ _)
  · refine h.perm (List.Perm.symm ?_)
    refine ((List.perm_middle.cons _).cons _).trans ?_
    exact ((List.Perm.swap _ _ _).cons _).trans (List.Perm.swap _ _ _)
/-! ### Get -/
set_option maxHeartbeats 1600000 in
theorem get_any (a : Nat) (X : Own.St B w0 w (A p h :: Ps)) (ok : HotM.Ok h) (ha : a < 4294967296) :
    Calls Try.prog 14 #[ptr p, aV a] w fun e w' => ∃ ao c, e = .returned (.tuple #[.slice ao (bytesOf h a).length c, .bool (isIn h a)]) ∧ Own.St B w0 w' (AB ao (bytesOf h a).length c (bytesOf h a) :: A p (HotM.get h a) :: Ps) := by
  obtain ⟨m, pk, es, he, H⟩ := A_open X
  have hnd := nodup_es ok he
  cases hi : isIn h a
  · have hm : a ∉ es.map (·.a) := by rw [← keys_es he]; exact isIn_not.1 hi
    have CF := Lib.hid (find_not H hm ha)
    have H1 : Hid (Own.St B w0 w (A p h :: Ps)) := X
    rw [get_not hi, bytes_none hi]
    clear H hm hi hnd he X ok
    go_enter Try.func14, Try.ntmps14
    go_wp2_with (fail)
    refine CF.out.mono ?_
    rintro x w1 ⟨rfl, rfl⟩
    clear CF
    go_wp2
    go_ret2
    exact ⟨none, 0, rfl, ab_nil H1.out⟩
  · obtain ⟨pre, e, post, rfl, rfl⟩ := split_in he hi
    have hl := (len_es ok he).2
    rw [List.length_append, List.length_cons] at hl
    have CF := Lib.hid (find_in H ha)
    have CU := Lib.hid (use_any H hnd ha (by rw [List.length_append]; omega))
    have hb := bytes_split he hnd
    have hL : (e :: (pre ++ post)).map item = (HotM.get h e.a).L := by
      unfold HotM.get
      rw [if_pos hi]
      show _ = frontL h.room ⟨e.a, bytesOf h e.a⟩ (rest e.a h.L)
      rw [front_whole ok hi, hb, ← he, rest_split hnd]
      rfl
    have hr : h.room = (HotM.get h e.a).room := (get_room h e.a).symm
    have hg : h.g = (HotM.get h e.a).g := (get_g h e.a).symm
    have BL := Lib.hid (bytes_len ok e.a)
    have HL := Lib.hid hL
    have HR := Lib.hid hr
    have HG := Lib.hid hg
    have HB := Lib.hid hb
    rw [hb]
    obtain ⟨el, hel⟩ : ∃ el, el = e.l := ⟨_, rfl⟩
    obtain ⟨n, hn⟩ : ∃ n, n = e.n := ⟨_, rfl⟩
    have HEL := Lib.hid hel
    have HN := Lib.hid hn
    clear hL hr hg hb hel hn hi hnd he X ok H hl
    go_enter Try.func14, Try.ntmps14
    go_wp2_with (fail)
    refine CF.out.mono ?_
    rintro x w1 ⟨rfl, rfl⟩
    clear CF
    go_wp2_with (fail)
    refine CU.out.mono ?_
    rintro x w2 ⟨rfl, h2⟩
    have c2 := head_cell h2
    have q := blk_given h2 (List.mem_cons_self ..)
    have CC := Lib.hid (copied_any h2 q.1 (by rw [← q.2, ← HB.out]; have := BL.out; omega))
    have Q2 := Lib.hid q.2
    clear h2 q CU
    go_wp2_with (fail)
    refine CC.out.mono ?_
    rintro x w3 ⟨a', c', rfl, h3⟩
    have H3 := Lib.hid h3
    clear h3 CC
    go_wp2
    go_ret2
    rw [Q2.out]
    exact ⟨a', c', rfl, (A_close HL.out HR.out HG.out H3.out.swap2).swap2⟩
/-! ### Drop -/
theorem drop_any (a : Nat) (X : Own.St B w0 w (A p h :: Ps)) (ok : HotM.Ok h) (ha : a < 4294967296) :
    Calls Try.prog 16 #[ptr p, aV a] w fun e w' => e = .returned (.bool (isIn h a)) ∧ Own.St B w0 w' (A p (HotM.drop h a) :: Ps) := by
  obtain ⟨m, pk, es, he, H⟩ := A_open X
  have hnd := nodup_es ok he
  cases hi : isIn h a
  · have hm : a ∉ es.map (·.a) := by rw [← keys_es he]; exact isIn_not.1 hi
    have CF := Lib.hid (find_not H hm ha)
    have H1 : Hid (Own.St B w0 w (A p h :: Ps)) := X
    rw [drop_none hi]
    clear H hm hi hnd he X ok
    go_enter Try.func16, Try.ntmps16
    go_wp2_with (fail)
    refine CF.out.mono ?_
    rintro x w1 ⟨rfl, rfl⟩
    clear CF
    go_wp2
    go_ret
    exact ⟨rfl, H1.out⟩
  · obtain ⟨pre, e, post, rfl, rfl⟩ := split_in he hi
    have CF := Lib.hid (find_in H ha)
    have CR := Lib.hid (remove_any H hnd ha)
    have HL : Hid ((pre ++ post).map item = (HotM.drop h e.a).L) := by
      show _ = rest e.a h.L
      rw [← he, rest_split hnd]
    clear hi hnd he X ok H
    go_enter Try.func16, Try.ntmps16
    go_wp2_with (fail)
    refine CF.out.mono ?_
    rintro x w1 ⟨rfl, rfl⟩
    clear CF
    go_wp2_with (fail)
    refine CR.out.mono ?_
    rintro x w2 ⟨rfl, od, nw, h2⟩
    have H2 := Lib.hid ((h2.drop 1).drop 1)
    clear h2 CR
    go_wp2
    go_ret
    exact ⟨rfl, A_close HL.out rfl rfl H2.out⟩
end
end Hta
end Go.Proofs.Ytameigmoabimiaa

end
section
namespace Go.Proofs.Ytameigmoabimiaa
open Go.RowKit Go.Own Go.Maps
namespace Hta
open Go.GhoM Go.HotM Byt Gho Hot
open Gha (nilP u32Keyed kl kl_inj key_of KV Reads AOf nilC del_E sto_E aof_perm aof_perm1)
section
variable {B : Nat} {w0 w : World} {Ps : List Asn} {p m room pk a b : Nat} {g : G} {h : H} {s t : List KV} {es : List Nd} {e : Nd}
theorem off_in {h : H} {a : Nat} (hi : isIn h a = true) (b : List UInt8) : offB h a = true ∧ (HotM.offer h a b).L = frontL h.room ⟨a, b⟩ (rest a h.L) ∧ (HotM.offer h a b).g = h.g := by
  have h1 : offB h a = true := by unfold offB; rw [hi]; rfl
  refine ⟨h1, ?_, ?_⟩
  · show (if offB h a = true then _ else _) = _
    rw [if_pos h1]
  · show (if isIn h a = true then _ else _) = _
    rw [if_pos hi]
theorem off_not {h : H} {a : Nat} (hi : isIn h a = false) (b : List UInt8) : offB h a = (has h.g a && !decide (h.room = 0)) ∧ (HotM.offer h a b).L = (if (has h.g a && !decide (h.room = 0)) = true then frontL h.room ⟨a, b⟩ h.L else h.L) ∧ (HotM.offer h a b).g = GhoM.ask h.g a := by
  have h1 : offB h a = (has h.g a && !decide (h.room = 0)) := by unfold offB; rw [hi]; rfl
  refine ⟨h1, ?_, ?_⟩
  · show (if offB h a = true then frontL h.room ⟨a, b⟩ (rest a h.L) else h.L) = _
    rw [h1, rest_none (isIn_not.1 hi)]
  · show (if isIn h a = true then _ else _) = _
    rw [if_neg (by rw [hi]; simp)]
set_option maxHeartbeats 1600000 in
theorem offer_in (a : Nat) (ao : Option Addr) (n cap : Nat) (b : List UInt8) (X : Own.St B w0 w (A p h :: Ps)) (ok : HotM.Ok h) (ha : a < 4294967296) (hgv : Given w ao n cap b) (hn : n ≤ 20000) (hi : isIn h a = true) :
    Calls Try.prog 12 #[ptr p, aV a, .slice ao n cap] w fun e w' => e = .returned (.bool (offB h a)) ∧ Own.St B w0 w' (A p (HotM.offer h a b) :: Ps) := by
  obtain ⟨m, pk, es, he, H⟩ := A_open X
  have hnd := nodup_es ok he
  obtain ⟨pre, e, post, rfl, rfl⟩ := split_in he hi
  have hl := (len_es ok he).2
  rw [List.length_append, List.length_cons] at hl
  obtain ⟨o1, o2, o3⟩ := off_in hi b
  have CF := Lib.hid (find_in H ha)
  have CC := Lib.hid (copied_any H hgv (by omega))
  have HL : Hid (∀ (a' : Option Addr) (c' : Nat), (({ e with ao := a', n := n, c := c', l := b } : Nd) :: (pre ++ post)).map item = (HotM.offer h e.a b).L) := by
    intro a' c'
    rw [o2, front_whole ok hi, ← he, rest_split hnd]
    rfl
  have HG := Lib.hid o3.symm
  have HND := Lib.hid hnd
  have HLN : Hid ((pre ++ post).length ≤ 100000) := by show _ ≤ _; rw [List.length_append]; omega
  rw [o1]
  clear o1 o2 o3 hnd he X ok H hl hi hgv
  go_enter Try.func12, Try.ntmps12
  go_wp2_with (fail)
  refine CF.out.mono ?_
  rintro x w1 ⟨rfl, rfl⟩
  clear CF
  go_wp2_with (fail)
  refine CC.out.mono ?_
  rintro x w2 ⟨a', c', rfl, h2⟩
  obtain ⟨⟨u, c1⟩, c1z, h3⟩ := swap_blk h2
  obtain ⟨W3, hW3⟩ : ∃ W, W = w2.setCell ⟨e.b, 1, none⟩ (.slice a' n c') := ⟨_, rfl⟩
  rw [← hW3] at h3
  have E3 := hW3.symm
  have CU := Lib.hid (use_any (e := { e with ao := a', n := n, c := c', l := b }) h3 (by have := HND.out; rw [List.map_append, List.map_cons] at this ⊢; exact this) ha HLN.out)
  clear h2 h3 hW3 CC
  go_wp2_with (fail)
  refine CU.out.mono ?_
  rintro x w4 ⟨rfl, h4⟩
  have H4 := Lib.hid h4
  clear h4 CU
  go_wp2
  go_ret
  exact ⟨rfl, A_close (h := HotM.offer h e.a b) (HL.out a' c') (offer_room h e.a b).symm HG.out H4.out⟩
set_option maxHeartbeats 3200000 in
theorem offer_not (a : Nat) (ao : Option Addr) (n cap : Nat) (b : List UInt8) (X : Own.St B w0 w (A p h :: Ps)) (ok : HotM.Ok h) (ha : a < 4294967296) (hgv : Given w ao n cap b) (hn : n ≤ 20000) (hi : isIn h a = false) :
    Calls Try.prog 12 #[ptr p, aV a, .slice ao n cap] w fun e w' => e = .returned (.bool (offB h a)) ∧ Own.St B w0 w' (A p (HotM.offer h a b) :: Ps) := by
  obtain ⟨m, pk, es, he, H⟩ := A_open X
  have hnd := nodup_es ok he
  have hm : a ∉ es.map (·.a) := by rw [← keys_es he]; exact isIn_not.1 hi
  obtain ⟨hl, hl4⟩ := len_es ok he
  have CF := Lib.hid (find_not H hm ha)
  obtain ⟨cg, R, h1, hback⟩ := g_open H
  have CA := Lib.hid (ask_keep h1 ok.g ok.groom ha hgv)
  obtain ⟨o1, o2, o3⟩ := off_not hi b
  have HO2 := Lib.hid o2
  have HG := Lib.hid o3.symm
  have HND := Lib.hid hnd
  have HM := Lib.hid hm
  have HL := Lib.hid hl
  have HL4 := Lib.hid hl4
  have HE := Lib.hid he
  have HBK := Lib.hid hback
  obtain ⟨room, hroom⟩ : ∃ r, r = h.room := ⟨_, rfl⟩
  have hr4 : room ≤ 4096 := by rw [hroom]; exact ok.room
  have HF : Hid (∀ x ∈ es, x.a < 4294967296) := by
    intro x hx
    refine ok.fits (item x) ?_
    rw [← he]
    exact List.mem_map.2 ⟨x, hx, rfl⟩
  rw [o1]
  rw [← hroom] at HL HO2 HBK ⊢
  have HRM := Lib.hid hroom
  obtain ⟨q, hq⟩ : ∃ q, q = has h.g a := ⟨_, rfl⟩
  rw [← hq] at CA HO2 ⊢
  clear o1 o2 o3 hnd he X ok H hl hl4 hi hgv h1 hback hroom hm hq
  go_enter Try.func12, Try.ntmps12
  go_wp2_with (fail)
  refine CF.out.mono ?_
  rintro x w1 ⟨rfl, rfl⟩
  clear CF
  go_wp2_with (fail)
  refine CA.out.mono ?_
  rintro x w2 ⟨rfl, h2, hgv2⟩
  have h3 := HBK.out _ _ h2
  have c0 := ((es_open h3).cellV 0 rfl 0 rfl).1
  have H3 := Lib.hid h3
  cases q
  · clear h2 h3 hgv2 CA c0
    go_wp2
    go_ret
    refine ⟨rfl, A_close (h := HotM.offer h a b) ?_ (HRM.out.trans (offer_room h a b).symm) HG.out H3.out⟩
    rw [HO2.out, Bool.false_and, if_neg (by simp)]
    exact HE.out
  · by_cases hz : room = 0
    · subst hz
      clear h2 h3 hgv2 CA
      go_wp2
      go_ret
      refine ⟨rfl, A_close (h := HotM.offer h a b) ?_ (HRM.out.trans (offer_room h a b).symm) HG.out H3.out⟩
      rw [HO2.out, if_neg (by simp)]
      exact HE.out
    · have hz2 : ¬ (room : Int) = 0 := by omega
      have hz3 : ((room : Int) == 0) = false := by simp; omega
      have hz4 : (true && !decide (room = 0)) = true := by simp [hz]
      have CC := Lib.hid (copied_any h3 hgv2 (by omega))
      have HO3 : Hid ((HotM.offer h a b).L = frontL room ⟨a, b⟩ h.L) := by
        have := HO2.out
        rw [hz4, if_pos rfl] at this
        exact this
      have HZ4 := Lib.hid hz4
      clear h2 h3 hgv2 CA hz4 HO2
      go_wp2_with (fail)
      refine CC.out.mono ?_
      rintro x w3 ⟨a', c', rfl, h4⟩
      have h5 := h4.boxV 66 [aV a, .slice a' n c', nilP, nilP]
      obtain ⟨nb, hnb⟩ : ∃ nb, nb = w3.heap.size := ⟨_, rfl⟩
      obtain ⟨W4, hW4⟩ : ∃ W, W = w3.alloc (.cells [aV a, .slice a' n c', nilP, nilP].toArray 66) := ⟨_, rfl⟩
      rw [← hnb, ← hW4] at h5
      have EB := hnb.symm
      have E4 : w3.alloc (.cells #[aV a, .slice a' n c', nilP, nilP] 66) = W4 := hW4.symm
      obtain ⟨e, hee⟩ : ∃ e : Nd, e = ⟨a, nb, a', n, c', b⟩ := ⟨_, rfl⟩
      have h6 : Own.St B w0 W4 (nodeA e nilP nilP :: blkA e :: AEs p m room pk (GhoM.ask h.g a) es :: Ps) := by rw [hee]; exact h5
      have CA := Lib.hid (add_any h6 (by rw [hee]; exact HM.out) (by rw [hee]; exact ha) (by have := HL4.out; omega))
      have hen : ptr e.b = ptr nb := by rw [hee]
      rw [hen] at CA
      have HEE := Lib.hid hee
      clear h4 h5 h6 hnb hW4 hee hen CC
      go_wp2_with (fail)
      refine CA.out.mono ?_
      rintro x w5 ⟨rfl, h7⟩
      obtain ⟨k, hk⟩ : ∃ k, k = es.length + 1 := ⟨_, rfl⟩
      have hkl : k ≤ room + 1 := by rw [hk]; have := HL.out; omega
      have K2 := Lib.hid h7
      have HK := Lib.hid hk
      have FC : Hid (∀ wx, Below w5.heap.size w5 wx → wx.cell? ⟨p, 4, none⟩ = some (.map (some m)) ∧ wx.cell? ⟨p, 0, none⟩ = some (.int .i64 (room : Int)) ∧ ∀ ty, (Builtin.len_ #[53] ty #[.map (some m)]).run Try.prog wx = .ok (.int .i64 (k : Int)) wx) := by
        intro wx hw
        have h := es_open (K2.out.later hw)
        refine ⟨(h.cellV 0 rfl 4 rfl).1, (h.cellV 0 rfl 0 rfl).1, fun ty => ?_⟩
        have := mapLenN h 1 rfl ty
        rw [List.length_map, List.length_cons, ← HK.out] at this
        exact this
      clear h7 hk CA E4 EB
      go_wp2_with (fail)
      obtain ⟨q, hq⟩ : ∃ q, q = decide (room < k) := ⟨_, rfl⟩
      have HQ := Lib.hid hq.symm
      clear hq
      refine wp_lax_list (by kernel_rfl) (by kernel_rfl) (by kernel_rfl) ?_
      refine wpL_move (ptr p) rfl (by kernel_rfl) (by kernel_rfl) (by kernel_rfl) (by kernel_rfl) ?_
      refine wpL_run1 (x := .tmp 44) (ptr p) (ptr p) (by kernel_rfl) (by kernel_rfl) (by kernel_rfl) (by kernel_rfl) (by kernel_rfl) (fun wx ρ hwx h0 hc => nilC rfl ρ wx h0) ?_
      refine wpL_run1 (x := .tmp 45) (ptr p) (.pointer (some ⟨p, 4, none⟩)) (by kernel_rfl) (by kernel_rfl) (by kernel_rfl) (by kernel_rfl) (by kernel_rfl) (fun wx ρ hwx h0 hc => fldL rfl (by decide) ρ wx h0) ?_
      refine wpL_run1 (x := .tmp 46) (.pointer (some ⟨p, 4, none⟩)) (.map (some m)) (by kernel_rfl) (by kernel_rfl) (by kernel_rfl) (by kernel_rfl) (by kernel_rfl) (fun wx ρ hwx h0 hc => by simp [h0, go_sem, (FC.out wx hwx).1]) ?_
      refine wpL_run1 (x := .tmp 47) (.map (some m)) (.int .i64 k) (by kernel_rfl) (by kernel_rfl) (by kernel_rfl) (by kernel_rfl) (by kernel_rfl) (fun wx ρ hwx h0 hc => by simp [h0, go_sem, (FC.out wx hwx).2.2]) ?_
      refine wpL_move (ptr p) rfl (by kernel_rfl) (by kernel_rfl) (by kernel_rfl) (by kernel_rfl) ?_
      refine wpL_run1 (x := .tmp 49) (ptr p) (ptr p) (by kernel_rfl) (by kernel_rfl) (by kernel_rfl) (by kernel_rfl) (by kernel_rfl) (fun wx ρ hwx h0 hc => nilC rfl ρ wx h0) ?_
      refine wpL_run1 (x := .tmp 50) (ptr p) (.pointer (some ⟨p, 0, none⟩)) (by kernel_rfl) (by kernel_rfl) (by kernel_rfl) (by kernel_rfl) (by kernel_rfl) (fun wx ρ hwx h0 hc => fldL rfl (by decide) ρ wx h0) ?_
      refine wpL_run1 (x := .tmp 51) (.pointer (some ⟨p, 0, none⟩)) (.int .i64 room) (by kernel_rfl) (by kernel_rfl) (by kernel_rfl) (by kernel_rfl) (by kernel_rfl) (fun wx ρ hwx h0 hc => by simp [h0, go_sem, (FC.out wx hwx).2.1]) ?_
      refine wpL_run2 (x := .tmp 48) (y := .tmp 52) (.int .i64 k) (.int .i64 room) (.bool q) (by kernel_rfl) (by kernel_rfl) (by kernel_rfl) (by kernel_rfl) (by kernel_rfl) (by kernel_rfl) (fun wx ρ hwx h0 h1 hc => by simp [h0, h1, go_sem, HQ.out]) ?_
      refine wpL_end (by kernel_rfl) (fun w6 hw6 => ?_)
      simp only [FinL, setL, List.set_cons_zero, List.set_cons_succ]
      have K3 := Lib.hid (K2.out.later hw6)
      clear K2 FC hw6
      have hIT : (e :: es).map item = ⟨a, b⟩ :: h.L := by rw [List.map_cons, HE.out, HEE.out]; rfl
      have HIT := Lib.hid hIT
      clear hIT
      by_cases hb : k ≤ room
      · have hqf : q = false := by rw [← HQ.out]; exact decide_eq_false (by omega)
        subst hqf
        clear HQ
        go_wp2
        go_ret
        refine ⟨by rw [HZ4.out]; rfl, A_close (h := HotM.offer h a b) ?_ (HRM.out.trans (offer_room h a b).symm) HG.out K3.out⟩
        rw [HIT.out, HO3.out]
        unfold frontL
        rw [List.take_of_length_le]
        rw [← HIT.out, List.length_map, List.length_cons, ← HK.out]
        exact hb
      · have hqf : q = true := by rw [← HQ.out]; exact decide_eq_true (by omega)
        subst hqf
        clear HQ
        obtain ⟨pre, z, hpe⟩ : ∃ pre z, e :: es = pre ++ [z] := by
          rcases List.eq_nil_or_concat (e :: es) with h | ⟨pr, d, h⟩
          · cases h
          · exact ⟨pr, d, by rw [h, List.concat_eq_append]⟩
        have h3 := K3.out
        rw [hpe] at h3
        have c5 : w6.cell? ⟨p, 3, none⟩ = some (ptr z.b) := by
          have := ((es_open h3).cellV 0 rfl 3 rfl).1
          rwa [la_snoc] at this
        have hnd : ((pre ++ z :: []).map (·.a)).Nodup := by
          show ((pre ++ [z]).map (·.a)).Nodup
          rw [← hpe, List.map_cons, HEE.out]
          exact List.nodup_cons.2 ⟨HM.out, HND.out⟩
        have hef : z.a < 4294967296 := by
          have : z ∈ e :: es := by rw [hpe]; simp
          rcases List.mem_cons.1 this with h | h
          · rw [h, HEE.out]; exact ha
          · exact HF.out _ h
        have CR := Lib.hid (remove_any (e := z) (pre := pre) (post := []) h3 hnd hef)
        have HPE := Lib.hid hpe
        clear h3 hnd hef K3 hpe
        go_wp2_with (fail)
        refine CR.out.mono ?_
        rintro x w7 ⟨rfl, od, nw, h8⟩
        have K4 := Lib.hid ((h8.drop 1).drop 1)
        clear h8 CR
        go_wp2
        go_ret
        refine ⟨by rw [HZ4.out]; rfl, A_close (h := HotM.offer h a b) ?_ (HRM.out.trans (offer_room h a b).symm) HG.out K4.out⟩
        have h5 := HIT.out
        rw [HPE.out, List.map_append] at h5
        have h6 := congrArg List.length HPE.out
        rw [List.length_cons, List.length_append, List.length_singleton, ← HK.out] at h6
        have h7 : (pre.map item).length = room := by rw [List.length_map]; omega
        rw [HO3.out, List.append_nil]
        unfold frontL
        rw [← h5, ← h7, List.take_left]
theorem offer_any (a : Nat) (ao : Option Addr) (n cap : Nat) (b : List UInt8) (X : Own.St B w0 w (A p h :: Ps)) (ok : HotM.Ok h) (ha : a < 4294967296) (hgv : Given w ao n cap b) (hn : n ≤ 20000) :
    Calls Try.prog 12 #[ptr p, aV a, .slice ao n cap] w fun e w' => e = .returned (.bool (offB h a)) ∧ Own.St B w0 w' (A p (HotM.offer h a b) :: Ps) := by
  cases hi : isIn h a
  · exact offer_not a ao n cap b X ok ha hgv hn hi
  · exact offer_in a ao n cap b X ok ha hgv hn hi
end
end Hta
end Go.Proofs.Ytameigmoabimiaa

end
section
namespace Go.Proofs.Ytameigmoabimiaa
open Go.RowKit Go.Own Go.Maps
namespace Hta
open Go.GhoM Go.HotM Byt Gho Hot
open Gha (nilP u32Keyed kl kl_inj key_of KV Reads AOf nilC del_E sto_E aof_perm aof_perm1 makeCap)
theorem seg_at (od : Value) : ∀ (nw : Value) (es : List Nd) (i : Nat) (e : Nd), es[i]? = some e → ∃ nw', (seg nw es od)[i]? = some (nodeA e (hdV (es.drop (i + 1)) od) nw')
  | _, [], i, e, h => by simp at h
  | nw, f :: es, 0, e, h => by
    simp only [List.getElem?_cons_zero, Option.some.injEq] at h
    subst h
    exact ⟨nw, rfl⟩
  | nw, f :: es, i + 1, e, h => by
    rw [List.getElem?_cons_succ] at h
    exact seg_at od (ptr f.b) es i e h
section
variable {B : Nat} {w0 w : World} {Ps : List Asn} {p m room pk a b : Nat} {g : G} {h : H} {s t : List KV} {es : List Nd}
theorem node_cells (H : Own.St B w0 w (AEs p m room pk g es :: Ps)) {i : Nat} {e : Nd} (he : es[i]? = some e) : w.cell? ⟨e.b, 0, none⟩ = some (aV e.a) ∧ w.cell? ⟨e.b, 2, none⟩ = some (hdV (es.drop (i + 1)) nilP) := by
  have h := es_open H
  obtain ⟨nw, hs⟩ := seg_at nilP nilP es i e he
  have hi : i < (seg nilP es nilP).length := (List.getElem?_eq_some_iff.1 hs).1
  have h2 : (AVals p 56 (lC room pk (hdV es nilP) (laV nilP es) m) :: AOf m (es.map kv) :: (seg nilP es nilP ++ (Gha.A pk g :: (es.map blkA ++ Ps))))[i + 1 + 1]? = some (nodeA e (hdV (es.drop (i + 1)) nilP) nw) := by
    rw [List.getElem?_cons_succ, List.getElem?_cons_succ, List.getElem?_append_left hi, hs]
  exact ⟨(h.cellV _ h2 0 rfl).1, (h.cellV _ h2 2 rfl).1⟩
set_option maxHeartbeats 3200000 in
theorem hall_es (H : Own.St B w0 w (AEs p m room pk g es :: Ps)) (hl : es.length ≤ 5000) :
    Calls Try.prog 19 #[ptr p] w fun e w' => ∃ ao c, e = .returned (.slice ao es.length c) ∧ Own.St B w0 w' (RowU (.slice ao es.length c) (es.map (·.a)) es.length :: AEs p m room pk g es :: Ps) := by
  obtain ⟨n, hn⟩ : ∃ n, n = es.length := ⟨_, rfl⟩
  rw [← hn]
  have c0 := ((es_open H).cellV 0 rfl 4 rfl).1
  have LN : ∀ ty, (Builtin.len_ #[53] ty #[.map (some m)]).run Try.prog w = .ok (.int .i64 (n : Int)) w := by
    intro ty
    have := mapLenN (es_open H) 1 rfl ty
    rwa [List.length_map, ← hn] at this
  obtain ⟨w1, gb, MK, h1⟩ := makeCap H n (by omega)
  have c1 := ((es_open (h1.perm (List.Perm.swap _ _ _))).cellV 0 rfl 2 rfl).1
  have hn5 : n ≤ 5000 := by omega
  have HN := Lib.hid hn
  have H1 := Lib.hid h1
  obtain ⟨v, hv⟩ : ∃ v, v = hdV es nilP := ⟨_, rfl⟩
  rw [← hv] at c1
  have HV := Lib.hid hv
  clear H h1 hn hl hv
  go_enter Try.func19, Try.ntmps19
  go_wp2
  go_loopw [3, 4] (fun v3 v4 wr => ∃ (i : Nat) (ao : Option Addr) (c : Nat) (v : Value), i ≤ n ∧ v3 = .slice ao i c ∧ v4 = v ∧ v = hdV (es.drop i) nilP ∧ Own.St B w0 wr (RowU (.slice ao i c) ((es.take i).map (·.a)) i :: AEs p m room pk g es :: Ps)) (fun v3 _ _ => match v3 with | .slice _ k _ => n - k | _ => 0)
  case atStart => exact ⟨0, _, _, _, Nat.zero_le _, rfl, rfl, HV.out, H1.out⟩
  case round =>
    obtain ⟨i, ao, c, v4, hin, rfl, hq4, hv4, hr⟩ := hrel
    by_cases hi : i < n
    · obtain ⟨e, he⟩ : ∃ e, es[i]? = some e := ⟨_, List.getElem?_eq_getElem (by rw [← HN.out]; exact hi)⟩
      have hd : es.drop i = e :: es.drop (i + 1) := by
        have h1 : i < es.length := (List.getElem?_eq_some_iff.1 he).1
        rw [List.drop_eq_getElem_cons h1]
        congr 1
        exact (List.getElem?_eq_some_iff.1 he).2
      have hv5 : v4 = ptr e.b := by rw [hv4, hd]; rfl
      have ht : (es.take (i + 1)).map (·.a) = (es.take i).map (·.a) ++ [e.a] := by
        rw [List.take_add_one, he, List.map_append]
        rfl
      obtain ⟨x, b, eao, en, ec, el⟩ := e
      simp only at ht
      replace hv5 : v4 = ptr b := hv5
      rw [hv5] at hq4
      subst hq4
      have ca := (node_cells (hr.perm (List.Perm.swap _ _ _)) he).1
      have hA := hr.alloc (.cells #[aV x] 31)
      have HA := Lib.hid hA
      have CN : Hid (∀ a', some (⟨wr.heap.size, 0, none⟩ : Addr) = some a' → ∀ j u, [aV x][j]? = some u → (wr.alloc (.cells #[aV x] 31)).cell? (a'.add j) = some u) := by
        intro a' ha j u hu
        cases ha
        rw [add_of, Nat.zero_add]
        exact cell_of_block (heap_alloc_new wr _) (by simpa using hu)
      have HE := Lib.hid he
      have HT := Lib.hid ht
      clear hr hv4 hv5 hd ht he hA H1 HV c1 c0 LN MK
      go_wp2_with (at_builtin; refine wpList_many_append manyU rfl (.tmp 23) (.tmp 28) rfl HA.out 0 rfl rfl (some ⟨wr.heap.size, 0, none⟩) 1 1 [aV x] rfl (by intro h; cases h) rfl CN.out (by intro u hu; simp at hu; subst hu; rfl) (by omega) (by decide) ?_; intro a2 c2 w2 h2; simp only [List.set_cons_zero] at h2 ⊢; have H2 := Lib.hid h2; have c3 := (node_cells (h2.perm (List.Perm.swap _ _ _)) HE.out).2; clear h2)
      go_roundw
      case rel =>
        refine ⟨i + 1, a2, c2, _, by omega, rfl, rfl, rfl, ?_⟩
        have h := H2.out
        rw [show List.map aV (List.map (fun x => x.a) (es.take i)) ++ [aV x] = (List.map (fun x => x.a) (es.take (i + 1))).map aV by rw [HT.out, List.map_append]; rfl] at h
        exact h
      case measure => simp; omega
    · obtain rfl : i = n := by omega
      have hv5 : v4 = nilP := by rw [hv4, List.drop_of_length_le (by rw [← HN.out]; omega)]; rfl
      rw [hv5] at hq4
      subst hq4
      have HR := Lib.hid hr
      clear hr hv4 hv5 H1 HV c1 c0 LN MK
      go_wp2
      go_ret
      refine ⟨ao, c, rfl, ?_⟩
      have h := HR.out
      rw [List.take_of_length_le (by rw [← HN.out]; omega)] at h
      exact h
theorem hall_any (X : Own.St B w0 w (A p h :: Ps)) (ok : HotM.Ok h) :
    Calls Try.prog 19 #[ptr p] w fun e w' => ∃ ao c, e = .returned (.slice ao (keys h).length c) ∧ Own.St B w0 w' (RowU (.slice ao (keys h).length c) (keys h) (keys h).length :: A p h :: Ps) := by
  obtain ⟨m, pk, es, he, H⟩ := A_open X
  have hk := keys_es he
  have hlen : es.length = (keys h).length := by rw [hk, List.length_map]
  refine (hall_es H (by have := (len_es ok he).2; omega)).mono ?_
  rintro e w' ⟨ao, c, rfl, h'⟩
  rw [← hk, hlen] at h'
  rw [hlen]
  exact ⟨ao, c, rfl, (A_close (h := h) he rfl rfl (h'.perm (List.Perm.swap _ _ _))).perm (List.Perm.swap _ _ _)⟩
end
theorem nil_get (a : Nat) (w : World) : Calls Try.prog 14 #[.pointer none, aV a] w fun e w' => ∃ ao c, e = .returned (.tuple #[.slice ao 0 c, .bool false]) ∧ Below w.heap.size w w' := by
  have CD := Lib.hid (nil_find a w)
  go_enter Try.func14, Try.ntmps14
  go_wp2_with (fail)
  refine CD.out.mono ?_
  rintro e w1 ⟨rfl, rfl⟩
  clear CD
  go_wp2
  go_ret2
  exact ⟨none, 0, rfl, Below.refl _ _⟩
theorem nil_drop (a : Nat) (w : World) : Calls Try.prog 16 #[.pointer none, aV a] w fun e w' => e = .returned (.bool false) ∧ Below w.heap.size w w' := by
  have CD := Lib.hid (nil_find a w)
  go_enter Try.func16, Try.ntmps16
  go_wp2_with (fail)
  refine CD.out.mono ?_
  rintro e w1 ⟨rfl, rfl⟩
  clear CD
  go_wp2
  go_ret
  exact ⟨rfl, Below.refl _ _⟩
theorem nil_offer (a : Nat) (v : Value) (w : World) : Calls Try.prog 12 #[.pointer none, aV a, v] w fun e w' => e = .returned (.bool false) ∧ Below w.heap.size w w' := by
  go_enter Try.func12, Try.ntmps12
  go_wp2
  go_ret
  exact ⟨rfl, Below.refl _ _⟩
theorem hnil_all (w : World) : Calls Try.prog 19 #[.pointer none] w fun e w' => ∃ ao c, e = .returned (.slice ao 0 c) ∧ Below w.heap.size w w' := by
  go_enter Try.func19, Try.ntmps19
  go_wp2
  go_ret
  exact ⟨none, 0, rfl, Below.refl _ _⟩
end Hta
namespace Hot
open Go.GhoM Go.HotM Byt Gho
def kept (W : World) : Kept W where
  A := Hta.A
  new room known _ H hr hk := Hta.new_any room known H hr hk
  get a _ H ok ha := Hta.get_any a H ok ha
  offer a ao n cap b _ H ok ha hg hn := Hta.offer_any a ao n cap b H ok ha hg hn
  drop a _ H ok ha := Hta.drop_any a H ok ha
  all _ H ok := Hta.hall_any H ok
  nilGet a _ _ := Hta.nil_get a _
  nilOffer a _ _ _ _ _ _ _ := Hta.nil_offer a _ _
  nilDrop a _ _ := Hta.nil_drop a _
  nilAll _ := Hta.hnil_all _
end Hot
end Go.Proofs.Ytameigmoabimiaa

end
