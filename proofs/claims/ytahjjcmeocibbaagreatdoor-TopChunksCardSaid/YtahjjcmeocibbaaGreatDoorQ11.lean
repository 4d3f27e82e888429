/- Merged: LgaE LgaF LgaG LgaH LgaI LgaJ LgaK LgaX TopJ -/
import Derived.Test.YtahjjcmeocibbaaGreatDoorQ4
import Derived.Test.YtahjjcmeocibbaaGreatDoorQ9
import Derived.Test.YtahjjcmeocibbaaGreatDoorQ10
set_option linter.unusedVariables false
section
namespace Go.Proofs.YtahjjcmeocibbaaGreatDoor
open Go.RowKit Go.Own
namespace Lga
open Go.LogM Byt
def tyPg (b0 : Nat) (P : List UInt8) : Ty where
 holds v w := ∃ b T, v = .slice (some ⟨b, 0, none⟩) 128 128 /\ (ARow 113 1 (.slice (some ⟨b, 0, none⟩) 128 128) 128 (P.map byteV)).holds T w /\ ∀ k, T k -> b0 <= k
 keep := fun ⟨b, T, h1, h2, h3⟩ g => ⟨b, T, h1, (ARow _ _ _ _ _).keep h2 (T := fun _ => False) (U := fun _ => False) ⟨g.os, g.tape, g.output, g.size, fun k hk _ => g.block k hk, fun _ h => h.elim⟩ (fun _ _ h => h), h3⟩
section
variable {B : Nat} {w0 w : World} {Ps : List Asn} {X : Asn} {p pf pt fr pp a q nx : Nat} {s : FlaM.FS} {tb : TabM.T} {N : Nat}
theorem lies_at {F : Asn} (H : Own.St B w0 w (F :: Ps)) (j : Nat) {e : TypeId} {ao : Option Addr} {n cap : Nat} {x : List UInt8} (hj : Ps[j]? = some (ARow e 1 (.slice ao n cap) n (x.map byteV))) : Fla.Lies B w Ps ao n cap x := by
 obtain ⟨S, hS, _⟩ := H.at (j + 1) (P := ARow e 1 (.slice ao n cap) n (x.map byteV)) hj
 obtain ⟨h1, h2, h3, h4⟩ := H.rowLen (j + 1) (xs := x.map byteV) (e := e) (size := 1) (ao := ao) (n := n) (cap := cap) hj
 exact ⟨⟨(Row.view hS).live.mono (fun _ hk => hk.2), by rw [List.length_map] at h1; omega, ⟨h2, h3⟩, fun h => (h4 h).2⟩, .inl ⟨j, e, hj⟩⟩
theorem p4 {f g x t : Asn} (h : Own.St B w0 w (f :: g :: x :: t :: Ps)) : Own.St B w0 w (x :: f :: t :: Ps) := ((h.swap2.drop 1).swap2)
set_option maxRecDepth 6000 in
set_option maxHeartbeats 8000000 in
theorem begin_any (H : S3 B w0 w (AL p pf pt fr q nx) pf pt s tb Ps) (ok : FlaM.Ok s N) (hN : N <= 9990) (g sq k : Nat) (hk : k = fr + g) (hk2 : k <= 100000) :
 Calls Tryz.prog 95 #[ptr p, .int .i64 (g : Int), .int .u64 (sq : Int)] w fun e w' => e = .returned (errL (headL k sq s).2) /\ S3 B w0 w' (AL p pf pt fr q nx) pf pt (headL k sq s).1.1 tb Ps := by
 have ok1 := FlaM.ok_erase ok (k : Int)
 have ok2 := FlaM.ok_barrier ok1
 obtain ⟨X, hX⟩ : ∃ X, X = headL k sq s := ⟨_, rfl⟩
 rw [<- hX]
 unfold headL at hX
 obtain ⟨r1, hr1⟩ : ∃ r, r = FlaM.erase s (k : Int) := ⟨_, rfl⟩
 rw [<- hr1] at hX ok1 ok2
 obtain ⟨r2, hr2⟩ : ∃ r, r = FlaM.barrier r1.1 := ⟨_, rfl⟩
 rw [<- hr2] at hX ok2
 obtain ⟨P, hP⟩ : ∃ P, P = hdr sq := ⟨_, rfl⟩
 rw [<- hP] at hX
 obtain ⟨r3, hr3⟩ : ∃ r, r = FlaM.progF r2.1 (k : Int) ((0 : Nat) : Int) P := ⟨_, rfl⟩
 rw [<- hr3] at hX
 have HX := Lib.hid hX
 have HH := Lib.hid H
 have SUM : Hid ((fr : Int) + (g : Int) = (k : Int)) := by show _ = _; omega
 have WR : Hid (IntKind.i64.wrap (k : Int) = (k : Int)) := IntWalk.i64_in _ (by omega)
 have HI : Hid (Fla.i64B (k : Int)) := by show Fla.i64B _; unfold Fla.i64B; omega
 have C0 : Hid (∀ wx, Below w.heap.size w wx -> wx.cell? ⟨p, 0, none⟩ = some (ptr pf)) := fun wx hwx => ((HH.out.later hwx).cellV 0 rfl 0 rfl).1
 have C1 : Hid (∀ wx, Below w.heap.size w wx -> wx.cell? ⟨p, 1, none⟩ = some (.int .i64 (fr : Int))) := fun wx hwx => ((HH.out.later hwx).cellV 0 rfl 1 rfl).1
 have CE : Hid (∀ wx, Below w.heap.size w wx -> Calls Tryz.prog 118 #[ptr pf, .int .i64 (k : Int)] wx fun e w' => e = .returned (errL r1.2) /\ S3 B w0 w' (AL p pf pt fr q nx) pf pt r1.1 tb Ps) := fun wx hwx => by
  rw [hr1]
  exact f_erase (HH.out.later hwx) ok (by omega) _ HI.out
 have CB : Hid (∀ wx, S3 B w0 wx (AL p pf pt fr q nx) pf pt r1.1 tb Ps -> Calls Tryz.prog 13 #[ptr pf] wx fun e w' => e = .returned (errL r2.2) /\ S3 B w0 w' (AL p pf pt fr q nx) pf pt r2.1 tb Ps) := fun wx h => by
  rw [hr2]
  exact f_barrier h ok1 (by omega)
 have CG : Hid (∀ wx b, Own.St B w0 wx (Fla.AFl pf r2.1 :: ARow 113 1 (.slice (some ⟨b, 0, none⟩) 128 128) 128 (P.map byteV) :: AL p pf pt fr q nx :: Tba.A pt tb :: Ps) -> Calls Tryz.prog 68 #[ptr pf, .int .i64 (k : Int), .int .i64 0, .slice (some ⟨b, 0, none⟩) 128 128] wx fun e w' => e = .returned (errL r3.2) /\ S3 B w0 w' (AL p pf pt fr q nx) pf pt r3.1 tb Ps) := fun wx b h => by
  rw [hr3]
  exact (Fla.program_any h ok2 (by omega) (k : Int) ((0 : Nat) : Int) HI.out (by unfold Fla.i64B; omega) _ 128 128 P (lies_at h 0 rfl) (by decide)).mono fun e w' h => ⟨h.1, p4 h.2⟩
 have CF0 : Hid (∀ wx, Calls Tryz.prog 119 #[.int .u64 (sq : Int)] wx fun e w' => ∃ v, e = .returned v /\ (∀ b0, b0 <= wx.heap.size -> (tyPg b0 P).holds v w') /\ Below wx.heap.size wx w') := fun wx => by
  rw [hP]
  exact (first_any sq wx).mono fun e w' ⟨b, h1, h2⟩ => ⟨_, h1, fun b0 hb0 => by
   obtain ⟨S, hS, hB, _⟩ := h2.at 0 rfl
   exact ⟨b, S, rfl, hS, fun k hk => Nat.le_trans hb0 (hB k hk)⟩, h2.below⟩
 obtain ⟨e1, s1⟩ := r1
 obtain ⟨e2, s2⟩ := r2
 obtain ⟨e3, s3⟩ := r3
 simp only at CE CB CG
 have HX2 : Hid (X = if s1 ≠ 0 then ((e1, s.pp), s1) else if s2 ≠ 0 then ((e2, s.pp), s2) else if s3 ≠ 0 then ((e3, s.pp), s3) else ((e3, 1), 0)) := HX.out
 clear hX hr1 hr2 hr3 hP ok ok1 ok2 H HX hk
 go_enter Tryz.func95, Tryz.ntmps95
 go_wp2_with (fail)
 refine wp_laxW_list 10 (by kernel_rfl) (by kernel_rfl) (by kernel_rfl) (by kernel_rfl) (by kernel_rfl) ?_
 simp only [List.take_succ_cons, List.take_zero, List.drop_succ_cons, List.drop_zero]
 refine lxM (ptr p) rfl ?_; refine lxA (.tmp 9) (ptr p) (ptr p) ?_; refine lxA (.tmp 10) (ptr p) (.pointer (some ⟨p, 0, none⟩)) ?_; refine lxR (.tmp 11) (.pointer (some ⟨p, 0, none⟩)) (ptr pf) (fun wx ρ hwx h0 hc => by simp [h0, go_sem, C0.out wx hwx]) ?_; refine lxM (ptr p) rfl ?_; refine lxA (.tmp 13) (ptr p) (ptr p) ?_; refine lxA (.tmp 14) (ptr p) (.pointer (some ⟨p, 1, none⟩)) ?_; refine lxR (.tmp 15) (.pointer (some ⟨p, 1, none⟩)) (.int .i64 (fr : Int)) (fun wx ρ hwx h0 hc => by simp [h0, go_sem, C1.out wx hwx]) ?_; refine lxM (.int .i64 (g : Int)) rfl ?_; refine lxT (.tmp 16) (.tmp 17) (.int .i64 (fr : Int)) (.int .i64 (g : Int)) (.int .i64 (k : Int)) (fun wx ρ hwx h0 h1 hc => by simp [h0, h1, go_sem, SUM.out, WR.out]) ?_
 refine wpL_end (by kernel_rfl) (fun w1 hw1 => ?_)
 simp only [FinL, setL, List.set_cons_zero, List.set_cons_succ]
 intro _
 have CE1 := Lib.hid (CE.out w1 hw1)
 clear CE C0 C1 hw1
 go_wp2_with (fail)
 refine CE1.out.mono ?_
 clear CE1
 rintro e w2 ⟨rfl, h2⟩
 have H2 := Lib.hid h2
 clear h2
 by_cases hs1 : s1 = 0
 · subst hs1
   have HX3 : Hid (X = if s2 ≠ 0 then ((e2, s.pp), s2) else if s3 ≠ 0 then ((e3, s.pp), s3) else ((e3, 1), 0)) := by show X = _; rw [HX2.out, if_neg (by simp)]
   have c0 := (H2.out.cellV 0 rfl 0 rfl).1
   clear HX2
   go_wp2_with (fail)
   refine (CB.out _ H2.out).mono ?_
   clear CB c0
   rintro e w3 ⟨rfl, h3⟩
   have H3 := Lib.hid h3
   clear h3
   by_cases hs2 : s2 = 0
   · subst hs2
     have HX4 : Hid (X = if s3 ≠ 0 then ((e3, s.pp), s3) else ((e3, 1), 0)) := by show X = _; rw [HX3.out, if_neg (by simp)]
     clear HX3
     obtain ⟨b0, hb0⟩ : ∃ b, b = w3.heap.size := ⟨_, rfl⟩
     have D0 : Hid (∀ wx, Below w3.heap.size w3 wx -> wx.cell? ⟨p, 0, none⟩ = some (ptr pf)) := fun wx hwx => ((H3.out.later hwx).cellV 0 rfl 0 rfl).1
     have D1 : Hid (∀ wx, Below w3.heap.size w3 wx -> wx.cell? ⟨p, 1, none⟩ = some (.int .i64 (fr : Int))) := fun wx hwx => ((H3.out.later hwx).cellV 0 rfl 1 rfl).1
     have CF : Hid (∀ wx, Below w3.heap.size w3 wx -> Calls Tryz.prog 119 #[.int .u64 (sq : Int)] wx fun e w' => ∃ v, e = .returned v /\ (tyPg b0 P).holds v w' /\ Below wx.heap.size wx w') := fun wx hwx => (CF0.out wx).mono fun e w' ⟨v, h1, h2, h3⟩ => ⟨v, h1, h2 b0 (by rw [hb0]; exact hwx.size), h3⟩
     have HB0 := Lib.hid hb0
     clear CF0 hb0
     go_wp2_with (fail)
     refine wp_laxW_list 12 (by kernel_rfl) (by kernel_rfl) (by kernel_rfl) (by kernel_rfl) (by kernel_rfl) ?_
     simp only [List.take_succ_cons, List.take_zero, List.drop_succ_cons, List.drop_zero]
     refine lxM (ptr p) rfl ?_; refine lxA (.tmp 31) (ptr p) (ptr p) ?_; refine lxA (.tmp 32) (ptr p) (.pointer (some ⟨p, 0, none⟩)) ?_; refine lxR (.tmp 33) (.pointer (some ⟨p, 0, none⟩)) (ptr pf) (fun wx ρ hwx h0 hc => by simp [h0, go_sem, D0.out wx hwx]) ?_; refine lxM (ptr p) rfl ?_; refine lxA (.tmp 35) (ptr p) (ptr p) ?_; refine lxA (.tmp 36) (ptr p) (.pointer (some ⟨p, 1, none⟩)) ?_; refine lxR (.tmp 37) (.pointer (some ⟨p, 1, none⟩)) (.int .i64 (fr : Int)) (fun wx ρ hwx h0 hc => by simp [h0, go_sem, D1.out wx hwx]) ?_; refine lxM (.int .i64 (g : Int)) rfl ?_; refine lxT (.tmp 38) (.tmp 39) (.int .i64 (fr : Int)) (.int .i64 (g : Int)) (.int .i64 (k : Int)) (fun wx ρ hwx h0 h1 hc => by simp [h0, h1, go_sem, SUM.out, WR.out]) ?_; refine lxM (.int .u64 (sq : Int)) rfl ?_
     refine wpL_fnT (tyPg b0 P) [.int .u64 (sq : Int)] rfl rfl (by kernel_rfl) (by kernel_rfl) (by kernel_rfl) (by kernel_rfl) (fun _ _ => by simp [go_sem]) (fun wx hwx => CF.out wx hwx) ?_
     refine wpL_end (by kernel_rfl) (fun w4 hw4 v42 hv42 => ?_)
     simp only [FinL, setL, List.set_cons_zero, List.set_cons_succ]
     intro _
     obtain ⟨b, T, rfl, hT, hT2⟩ := hv42
     have h4 := H3.out.adopt hw4 _ hT (fun k hk => by rw [<- HB0.out]; exact hT2 k hk)
     have h5 := h4.front 2 rfl
     simp only [List.eraseIdx_cons_succ, List.eraseIdx_cons_zero] at h5
     have CG1 := Lib.hid (CG.out w4 b h5)
     clear CG hT hT2 hw4 h4 h5 D0 D1 CF H3
     go_wp2_with (fail)
     refine CG1.out.mono ?_
     clear CG1
     rintro e w5 ⟨rfl, h5⟩
     have H5 := Lib.hid h5
     clear h5
     by_cases hs3 : s3 = 0
     · subst hs3
       have HX5 : Hid (X = ((e3, 1), 0)) := by show X = _; rw [HX4.out, if_neg (by simp)]
       clear HX4
       go_wp2
       go_ret
       rw [HX5.out]
       exact ⟨rfl, H5.out⟩
     · have HX5 : Hid (X = ((e3, s.pp), s3)) := by show X = _; rw [HX4.out, if_pos hs3]
       clear HX4
       go_wp2
       go_ret
       rw [HX5.out]
       exact ⟨rfl, H5.out⟩
   · have g1 : ((s2 : Int) != 0) = true := by simp; omega
     have HX4 : Hid (X = ((e2, s.pp), s2)) := by show X = _; rw [HX3.out, if_pos hs2]
     clear HX3 hs2
     go_wp2
     go_ret
     rw [HX4.out]
     exact ⟨rfl, H3.out⟩
 · have g1 : ((s1 : Int) != 0) = true := by simp; omega
   have HX3 : Hid (X = ((e1, s.pp), s1)) := by show X = _; rw [HX2.out, if_pos hs1]
   clear HX2 hs1
   go_wp2
   go_ret
   rw [HX3.out]
   exact ⟨rfl, H2.out⟩
end
end Lga
end Go.Proofs.YtahjjcmeocibbaaGreatDoor
end
section
namespace Go.Proofs.YtahjjcmeocibbaaGreatDoor
open Go.RowKit Go.Own
namespace Lga
open Go.LogM Byt
section
variable {B : Nat} {w0 w : World} {Ps : List Asn} {p pf pt fr pp a q nx : Nat} {σ : LG} {N : Nat}
abbrev LS (B : Nat) (w0 w : World) (p pf pt fr : Nat) (σ : LG) (Ps : List Asn) : Prop := S3 B w0 w (A p pf pt fr σ.fs.pp σ.tb σ.a) pf pt σ.fs σ.tb Ps
set_option maxRecDepth 6000 in
set_option maxHeartbeats 8000000 in
theorem open_any (H : LS B w0 w p pf pt fr σ Ps) (hm : Mid fr σ N) (hN : N <= 9900) (hc : TabM.cur σ.tb = none) :
 Calls Tryz.prog 67 #[ptr p] w fun e w' => e = .returned (errL (openL fr σ).2) /\ LS B w0 w' p pf pt fr (openL fr σ).1 Ps := by
 obtain ⟨s, tb, a⟩ := σ
 simp only at hc
 obtain ⟨q, nx, hl, H1⟩ := A_to H
 simp only at hl H1
 have c2 := (H1.cellV 0 rfl 2 rfl).1
 have CO := t_open H1 hm.tb (by omega)
 obtain ⟨R, hR⟩ : ∃ R, R = openL fr ⟨s, tb, a⟩ := ⟨_, rfl⟩
 rw [<- hR]
 unfold openL at hR
 simp only at hR CO
 by_cases h0 : (TabM.openT tb).2.2.2 ≠ 0
 · rw [if_pos h0] at hR
   have ho := open_err h0
   obtain ⟨⟨x1, x2, x3⟩, hx⟩ : ∃ x, x = (TabM.openT tb).2 := ⟨_, rfl⟩
   rw [ho, <- hx] at hR
   rw [ho, <- hx] at CO
   rw [<- hx] at h0
   simp only at h0 hR
   have HR := Lib.hid hR
   have HL := Lib.hid hl
   have g1 : ((x3 : Int) != 0) = true := by simp; omega
   have CO2 : Hid (Calls Tryz.prog 94 #[ptr pt] w fun e w' => e = .returned (.tuple #[.int .i64 (x1 : Int), .int .u64 (x2 : Int), .int .i64 (x3 : Int)]) /\ S3 B w0 w' (AL p pf pt fr q nx) pf pt s tb Ps) := CO
   clear hR CO H H1 hm hx ho h0 hc hl
   go_enter Tryz.func67, Tryz.ntmps67
   go_wp2_with (fail)
   refine CO2.out.mono ?_
   clear CO2
   rintro e w1 ⟨rfl, h1⟩
   have H2 := Lib.hid h1
   clear h1
   go_wp2
   go_ret
   rw [HR.out]
   exact ⟨rfl, A_of HL.out H2.out⟩
 · obtain ⟨i, o⟩ := opn_of hc (by simpa using h0)
   have hroom := hm.room
   simp only at hroom
   have hilt := o.lt
   have hmfs := hm.fs.segs
   simp only at hmfs
   rw [if_neg h0, o.eq] at hR
   rw [o.eq] at CO
   simp only at hR
   obtain ⟨tb', htb⟩ : ∃ t, t = (TabM.openT tb).1 := ⟨_, rfl⟩
   rw [<- htb] at hR CO
   have hp2 := hm.pp
   simp only at hp2
   have hb := hl.begun o (show 1 <= s.pp by omega)
   have hba := hl.bare o
   rw [<- htb] at hb hba
   obtain ⟨nq, hnq⟩ : ∃ n, n = tb.next := ⟨_, rfl⟩
   rw [<- hnq] at hR CO hb
   obtain ⟨f1, _, _, f4, f5⟩ := head_facts hm.fs (fr + i) nq
   simp only at f1 f4 f5
   obtain ⟨k, hk⟩ : ∃ k, k = fr + i := ⟨_, rfl⟩
   rw [<- hk] at hR f1 f4 f5
   obtain ⟨Z, hZ⟩ : ∃ Z, Z = headL k nq s := ⟨_, rfl⟩
   have CBG : Hid (∀ wx, S3 B w0 wx (AL p pf pt fr q nx) pf pt s tb' Ps -> Calls Tryz.prog 95 #[ptr p, .int .i64 (i : Int), .int .u64 (nq : Int)] wx fun e w' => e = .returned (errL Z.2) /\ S3 B w0 w' (AL p pf pt fr q nx) pf pt Z.1.1 tb' Ps) := fun wx h => by
    rw [hZ]
    exact begin_any h hm.fs (by omega) i nq k hk (by omega)
   rw [<- hZ] at hR f1 f4 f5
   obtain ⟨⟨s', a'⟩, er⟩ := Z
   simp only at hR f1 f4 f5 CBG
   have HR := Lib.hid hR
   have HBG := Lib.hid hb
   have HBA := Lib.hid hba
   have F1 := Lib.hid f1
   have F4 := Lib.hid f4
   have F5 := Lib.hid f5
   have CO2 : Hid (Calls Tryz.prog 94 #[ptr pt] w fun e w' => e = .returned (.tuple #[.int .i64 (i : Int), .int .u64 (nq : Int), .int .i64 0]) /\ S3 B w0 w' (AL p pf pt fr q nx) pf pt s tb' Ps) := CO
   clear hR CO H H1 hm h0 hc hl o hroom hilt hmfs htb hp2 hb hba hnq f1 f4 f5 hk hZ
   go_enter Tryz.func67, Tryz.ntmps67
   go_wp2_with (fail)
   refine CO2.out.mono ?_
   clear CO2 c2
   rintro e w1 ⟨rfl, h1⟩
   have H2 := Lib.hid h1
   clear h1
   go_wp2_with (fail)
   refine (CBG.out _ H2.out).mono ?_
   clear CBG H2
   rintro e w2 ⟨rfl, h2⟩
   have H3 := Lib.hid h2
   clear h2
   by_cases he : er = 0
   · subst he
     have q3 := H3.out.cellV 0 rfl 3 rfl
     have h4 := H3.out.storeV 0 rfl 3 (.int .u64 (nq : Int))
     simp only [List.set_cons_zero] at h4
     have q4 := h4.cellV 0 rfl 4 rfl
     have h5 := h4.storeV 0 rfl 4 (.int .i64 1)
     simp only [List.set_cons_zero] at h5
     have H5 : Hid (S3 B w0 ((w2.setCell ⟨p, 3, none⟩ (.int .u64 (nq : Int))).setCell ⟨p, 4, none⟩ (.int .i64 1)) (AL p pf pt fr nq 1) pf pt s' tb' Ps) := h5
     clear h4 h5
     go_wp2
     go_ret
     rw [HR.out]
     refine ⟨rfl, ?_⟩
     have h6 := HBG.out
     rw [<- F1.out] at h6
     have h7 := A_of h6 H5.out
     show S3 B w0 _ (A p pf pt fr s'.pp tb' a') pf pt s' tb' Ps
     rw [F5.out trivial]
     exact h7
   · have g1 : ((er : Int) != 0) = true := by simp; omega
     go_wp2
     go_ret
     rw [HR.out]
     refine ⟨rfl, ?_⟩
     have h6 := HBA.out
     rw [<- F1.out] at h6
     have h7 := A_of h6 H3.out
     show S3 B w0 _ (A p pf pt fr s'.pp tb' a') pf pt s' tb' Ps
     rw [F4.out he, <- F1.out]
     exact h7
set_option maxRecDepth 6000 in
set_option maxHeartbeats 8000000 in
theorem close_any (H : LS B w0 w p pf pt fr σ Ps) (hm : LgOk fr σ N) (hN : N <= 9900) :
 Calls Tryz.prog 66 #[ptr p] w fun e w' => e = .returned (errL (closeL σ).2) /\ LS B w0 w' p pf pt fr (closeL σ).1 Ps := by
 obtain ⟨s, tb, a⟩ := σ
 obtain ⟨q, nx, hl, H1⟩ := A_to H
 simp only at hl H1
 have c2 := (H1.cellV 0 rfl 2 rfl).1
 have HH := Lib.hid H1
 have CC := t_cur H1 hm.tb (by omega)
 obtain ⟨R, hR⟩ : ∃ R, R = closeL ⟨s, tb, a⟩ := ⟨_, rfl⟩
 rw [<- hR]
 unfold closeL at hR
 simp only at CC hR
 have hmtb := hm.tb
 have hmfs := hm.fs
 have hml := hm.load
 simp only at hmtb hmfs hml
 cases hc : TabM.cur tb with
 | none =>
  rw [hc] at hR
  simp only at hR
  have HR := Lib.hid hR
  have HL := Lib.hid hl
  have CC2 : Hid (Calls Tryz.prog 15 #[ptr pt] w fun e w' => e = .returned (.tuple #[.int .i64 0, .bool false]) /\ Below w.heap.size w w') := by
   have e1 : Tab.curV tb = .tuple #[.int .i64 0, .bool false] := by unfold Tab.curV; rw [hc]; rfl
   rw [e1] at CC
   exact CC
  clear hR CC H H1 hm hc hl hmtb hmfs hml
  go_enter Tryz.func66, Tryz.ntmps66
  go_wp2_with (fail)
  refine CC2.out.mono ?_
  clear CC2
  rintro e w1 ⟨rfl, hb1⟩
  have H2 := Lib.hid (HH.out.later hb1)
  clear hb1
  go_wp2
  go_ret
  rw [HR.out]
  exact ⟨rfl, A_of HL.out H2.out⟩
 | some i =>
  rw [hc] at hR
  simp only at hR
  have CC2 : Hid (Calls Tryz.prog 15 #[ptr pt] w fun e w' => e = .returned (.tuple #[.int .i64 (i : Int), .bool true]) /\ Below w.heap.size w w') := by
   have e1 : Tab.curV tb = .tuple #[.int .i64 (i : Int), .bool true] := by unfold Tab.curV; rw [hc]; rfl
   rw [e1] at CC
   exact CC
  have hd := barrier_dims s
  obtain ⟨r, hr⟩ : ∃ r, r = FlaM.barrier s := ⟨_, rfl⟩
  have CB : Hid (∀ wx, S3 B w0 wx (AL p pf pt fr q nx) pf pt s tb Ps -> Calls Tryz.prog 13 #[ptr pf] wx fun e w' => e = .returned (errL r.2) /\ S3 B w0 w' (AL p pf pt fr q nx) pf pt r.1 tb Ps) := fun wx h => by
   rw [hr]
   exact f_barrier h hmfs (by omega)
  have hsl : (TabM.sealT tb).2 = 0 := by unfold TabM.sealT; rw [hc]
  have CS : Hid (∀ wx s', S3 B w0 wx (AL p pf pt fr q nx) pf pt s' tb Ps -> Calls Tryz.prog 93 #[ptr pt] wx fun e w' => e = .returned (errL 0) /\ S3 B w0 w' (AL p pf pt fr q nx) pf pt s' (TabM.sealT tb).1 Ps) := fun wx s' h => by
   have := t_seal h hmtb (by omega)
   rw [hsl] at this
   exact this
  rw [<- hr] at hR hd
  obtain ⟨s', er⟩ := r
  simp only at hR hd CB
  have HR := Lib.hid hR
  have HL := Lib.hid hl
  have HLS := Lib.hid (hl.sealed hml a)
  have F1 := Lib.hid hd.1
  clear hR CC H H1 hm hc hl hmtb hmfs hml hr hd hsl
  go_enter Tryz.func66, Tryz.ntmps66
  go_wp2_with (fail)
  refine CC2.out.mono ?_
  clear CC2 c2
  rintro e w1 ⟨rfl, hb1⟩
  have H2 := Lib.hid (HH.out.later hb1)
  have c0 := (H2.out.cellV 0 rfl 0 rfl).1
  clear hb1 HH
  go_wp2_with (fail)
  refine (CB.out _ H2.out).mono ?_
  clear CB H2 c0
  rintro e w2 ⟨rfl, h2⟩
  have H3 := Lib.hid h2
  have c2 := (h2.cellV 0 rfl 2 rfl).1
  clear h2
  by_cases he : er = 0
  · subst he
    go_wp2_with (fail)
    refine (CS.out _ _ H3.out).mono ?_
    clear CS H3 c2
    rintro e w3 ⟨rfl, h3⟩
    have H4 := Lib.hid h3
    clear h3
    go_wp2
    go_ret
    rw [HR.out, if_pos trivial]
    refine ⟨rfl, ?_⟩
    have h6 := HLS.out
    rw [<- F1.out] at h6
    exact A_of h6 H4.out
  · have g1 : ((er : Int) != 0) = true := by simp; omega
    go_wp2
    go_ret
    rw [HR.out, if_neg he]
    refine ⟨rfl, ?_⟩
    have h6 := HL.out
    rw [<- F1.out] at h6
    exact A_of h6 H3.out
set_option maxHeartbeats 4000000 in
theorem room_any (H : LS B w0 w p pf pt fr σ Ps) (hm : LgOk fr σ N) (hN : N <= 9800) (m : Nat) (h1 : 1 <= m) (hm2 : m <= 1000) :
 Calls Tryz.prog 29 #[ptr p, .int .i64 (m : Int)] w fun e w' => e = .returned (errL (readyL fr σ m).2) /\ LS B w0 w' p pf pt fr (readyL fr σ m).1 Ps := by
 obtain ⟨q, nx, hl, H1⟩ := A_to H
 have hpp := hm.fs.pp
 have CL := left_any H1 hm.tb (by omega) (by omega) hl.low
 rw [hl.left] at CL
 obtain ⟨R, hR⟩ : ∃ R, R = readyL fr σ m := ⟨_, rfl⟩
 rw [<- hR]
 have HH := Lib.hid H
 by_cases hc : (TabM.cur σ.tb).isSome = true /\ σ.a + m <= σ.fs.pp
 · rw [ready_here hc.1 hc.2] at hR
   rw [if_pos hc.1] at CL
   obtain ⟨k, hk⟩ : ∃ k, k = σ.fs.pp - σ.a := ⟨_, rfl⟩
   have hkm : (k : Int) >= (m : Int) := by omega
   rw [<- hk] at CL
   have CL1 := Lib.hid CL
   have HR := Lib.hid hR
   clear CL H H1 hl hm hpp hk hR hc
   go_enter Tryz.func29, Tryz.ntmps29
   go_wp2_with (fail)
   refine CL1.out.mono ?_
   clear CL1
   rintro e w1 ⟨rfl, hb1⟩
   have H2 := Lib.hid (HH.out.later hb1)
   clear hb1
   go_wp2
   go_ret
   rw [HR.out]
   exact ⟨rfl, H2.out⟩
 · rw [ready_shut (m := m) hm (fun hs => by rcases Nat.lt_or_ge σ.fs.pp (σ.a + m) with h2 | h2; exact h2; exact absurd ⟨hs, h2⟩ hc)] at hR
   obtain ⟨k, hk⟩ : ∃ k, k = (if (TabM.cur σ.tb).isSome = true then σ.fs.pp - σ.a else 0) := ⟨_, rfl⟩
   have hkm : ¬ (k : Int) >= (m : Int) := by
    rw [hk]
    split
    · rename_i hs
      have : ¬ σ.a + m <= σ.fs.pp := fun h => hc ⟨hs, h⟩
      omega
    · omega
   rw [<- hk] at CL
   have CL1 := Lib.hid CL
   obtain ⟨m1, m2, m3, _, _⟩ := close_mid hm
   obtain ⟨Z, hZ⟩ : ∃ Z, Z = closeL σ := ⟨_, rfl⟩
   have CC : Hid (∀ wx, LS B w0 wx p pf pt fr σ Ps -> Calls Tryz.prog 66 #[ptr p] wx fun e w' => e = .returned (errL Z.2) /\ LS B w0 w' p pf pt fr Z.1 Ps) := fun wx h => by
    rw [hZ]
    exact close_any h hm (by omega)
   rw [<- hZ] at hR m1 m2 m3
   obtain ⟨σ', er⟩ := Z
   simp only at hR m1 m2 m3 CC
   have M1 := Lib.hid m1
   have M3 := Lib.hid m3
   have HR := Lib.hid hR
   clear CL H H1 hl hm hpp hk hR hc hZ m1 m2 m3
   go_enter Tryz.func29, Tryz.ntmps29
   go_wp2_with (fail)
   refine CL1.out.mono ?_
   clear CL1
   rintro e w1 ⟨rfl, hb1⟩
   have H2 := Lib.hid (HH.out.later hb1)
   clear hb1 HH
   go_wp2_with (fail)
   refine (CC.out _ H2.out).mono ?_
   clear CC H2
   rintro e w2 ⟨rfl, h2⟩
   have H3 := Lib.hid h2
   clear h2
   by_cases he : er = 0
   · subst he
     have CO := Lib.hid (open_any H3.out M1.out (by omega) (M3.out rfl))
     have HR2 : Hid (R = openL fr σ') := by show R = _; rw [HR.out, if_neg (by simp)]
     obtain ⟨Y, hY⟩ : ∃ Y, Y = openL fr σ' := ⟨_, rfl⟩
     rw [<- hY] at CO HR2
     clear HR hY M1 M3
     go_wp2_with (fail)
     refine CO.out.mono ?_
     clear CO
     rintro e w3 ⟨rfl, h3⟩
     have H4 := Lib.hid h3
     clear h3
     go_wp2
     go_ret
     rw [HR2.out]
     exact ⟨rfl, H4.out⟩
   · have g1 : ((er : Int) != 0) = true := by simp; omega
     go_wp2
     go_ret
     rw [HR.out, if_pos he]
     exact ⟨rfl, H3.out⟩
end
end Lga
end Go.Proofs.YtahjjcmeocibbaaGreatDoor
end
section
namespace Go.LogM
theorem progs_cons (g : Nat) (s : FlaM.FS) (a : Nat) (b : Bs) (r : List Bs) : progsL g s a (b :: r) = if (FlaM.progF s (g : Int) (a : Int) b).2 = 0 then progsL g (FlaM.progF s (g : Int) (a : Int) b).1 (a + 1) r else (((FlaM.progF s (g : Int) (a : Int) b).1, a), (FlaM.progF s (g : Int) (a : Int) b).2) := by rw [progsL]
end Go.LogM
namespace Go.Proofs.YtahjjcmeocibbaaGreatDoor
open Go.RowKit Go.Own
namespace Lga
open Go.LogM Byt
abbrev plcV (x y z : Int) : List Value := [.int .i64 x, .int .i64 y, .int .i64 z]
theorem boxy_plc : Boxy Tryz.prog 42 3 := boxy_of #[.int .i64 0, .int .i64 0, .int .i64 0] (by kernel_rfl) rfl (by kernel_rfl)
theorem zero_plc : (Tryz.prog.info? 42).bind (·.zero) = some (.agg (plcV 0 0 0).toArray) := by kernel_rfl
theorem built_plc0 : Tryz.prog.built 42 [] = some (plcV 0 0 0).toArray := by kernel_rfl
theorem info_plc (cs : List Value) (h : cs.length = 3) : (Tryz.prog.info? 42).map (·.size) = some cs.length := by
 have h0 : (Tryz.prog.info? 42).map (fun i => i.size) = some 3 := by kernel_rfl
 rw [h]; exact h0
theorem back1 {B : Nat} {w0 w : World} {x a b c : Asn} {Ps : List Asn} (h : Own.St B w0 w (x :: a :: b :: c :: Ps)) : Own.St B w0 w (a :: b :: c :: x :: Ps) := by
 refine h.perm ?_
 have h1 : (x :: a :: b :: c :: Ps).Perm (a :: x :: b :: c :: Ps) := List.Perm.swap _ _ _
 have h2 : (a :: x :: b :: c :: Ps).Perm (a :: b :: x :: c :: Ps) := (List.Perm.swap _ _ _).cons _
 have h3 : (a :: b :: x :: c :: Ps).Perm (a :: b :: c :: x :: Ps) := ((List.Perm.swap _ _ _).cons _).cons _
 exact (h1.trans h2).trans h3
theorem dropMid {B : Nat} {w0 w : World} {a b c : Asn} {Ps : List Asn} (Xs : List Asn) (h : Own.St B w0 w (a :: b :: c :: (Xs ++ Ps))) : Own.St B w0 w (a :: b :: c :: Ps) := by
 have h1 := Own.St.perm_app (Xs := [a, b, c]) (Ys := Xs) (Zs := Ps) h
 have h2 := h1.drop Xs.length
 rw [List.drop_left] at h2
 exact h2.perm List.perm_append_comm
section
variable {B : Nat} {w0 w : World} {Ps Qs : List Asn} {X : Asn} {p pf pt fr q nx g n : Nat} {s : FlaM.FS} {tb : TabM.T} {N : Nat}
theorem f_prog (H : S3 B w0 w X pf pt s tb Qs) (ok : FlaM.Ok s N) (hN : N <= 10000) (seg page : Int) (hs : Fla.i64B seg) (hp : Fla.i64B page) (j : Nat) {e : TypeId} {ao : Option Addr} {n cap : Nat} {x : List UInt8} (hj : Qs[j]? = some (ARow e 1 (.slice ao n cap) n (x.map byteV))) (hn : n <= 20000) :
 Calls Tryz.prog 68 #[ptr pf, .int .i64 seg, .int .i64 page, .slice ao n cap] w fun e w' => e = .returned (errL (FlaM.progF s seg page x).2) /\ S3 B w0 w' X pf pt (FlaM.progF s seg page x).1 tb Qs :=
 (Fla.program_any H.swap2 ok hN seg page hs hp ao n cap x (lies_at H.swap2 (j + 2) hj) hn).mono fun e w' h => ⟨h.1, h.2.swap2⟩
set_option maxRecDepth 6000 in
set_option maxHeartbeats 16000000 in
theorem store_any (L : List Bs) (al : Option Addr) (cl a : Nat) (H : S3 B w0 w (AL p pf pt fr q a) pf pt s tb (AGrid 37 113 byteV (.slice al n cl) L :: Ps)) (okf : FlaM.Ok s N) (okt : TabM.Ok tb N) (hN : N <= 9900) (hc : TabM.cur tb = some g) (hl : L.length = n) (hL : ∀ x ∈ L, x.length = 128) (ha : a + n <= s.pp) (hr : fr + tb.rows.length <= s.safe.length) (k : Nat) (hk : k = fr + g) :
 Calls Tryz.prog 30 #[ptr p, .slice al n cl] w fun e w' => e = .returned (.tuple #[.agg (if (progsL k s a L).2 = 0 then plcV (g : Int) (a : Int) (n : Int) else plcV 0 0 0).toArray, errL (progsL k s a L).2]) /\ S3 B w0 w' (AL p pf pt fr q (progsL k s a L).1.2) pf pt (progsL k s a L).1.1 tb Ps := by
 obtain ⟨R, hR⟩ : ∃ R, R = progsL k s a L := ⟨_, rfl⟩
 rw [<- hR]
 have HR := Lib.hid hR
 have hpp := okf.pp
 have hss := okf.segs
 have hgl := (TabM.cur_some hc).1
 have e1 : Tab.curV tb = .tuple #[.int .i64 (g : Int), .bool true] := by unfold Tab.curV; rw [hc]; rfl
 have hk2 : k <= 1000 := by omega
 have SUM : Hid ((fr : Int) + (g : Int) = (k : Int)) := by show _ = _; omega
 have WR : Hid (IntKind.i64.wrap (k : Int) = (k : Int)) := IntWalk.i64_in _ (by omega)
 have HI : Hid (Fla.i64B (k : Int)) := by show Fla.i64B _; unfold Fla.i64B; omega
 have hg0 := (H.perm_app (Xs := [_, _, _]) (Ys := [_]) (Zs := Ps))
 obtain ⟨rs, hrl, hg1⟩ := Own.St.gridOpen hg0
 have hg2 := hg1.perm_app (Xs := gParts 37 113 byteV (.slice al n cl) rs L) (Ys := Ps) (Zs := [_, _, _])
 have hg3 := (hg2.perm_app (Xs := Ps) (Ys := [_, _, _]) (Zs := gParts 37 113 byteV (.slice al n cl) rs L))
 obtain ⟨G, hG⟩ : ∃ G, G = gParts 37 113 byteV (.slice al n cl) rs L := ⟨_, rfl⟩
 rw [<- hG] at hg3
 have H1 : Hid (S3 B w0 w (AL p pf pt fr q a) pf pt s tb (G ++ Ps)) := hg3
 have GO : Hid (∀ (Qs : List Asn) (wx : World) (s' : FlaM.FS) (ai : Nat), S3 B w0 wx (AL p pf pt fr q ai) pf pt s' tb (Qs ++ (G ++ Ps)) -> ∀ i, i < n -> ∃ ra rc gb, rs[i]? = some (ra, rc) /\ al = some ⟨gb, 0, none⟩ /\ wx.cell? ⟨gb, i, none⟩ = some (.slice ra 128 rc) /\ (Qs ++ (G ++ Ps))[Qs.length + 1 + i]? = some (ARow 113 1 (.slice ra 128 rc) 128 ((L.getD i []).map byteV))) := by
  intro Qs wx s' ai h i hi
  have hiL : i < L.length := by omega
  have hir : i < rs.length := by omega
  have hrs : rs[i]? = some rs[i] := List.getElem?_eq_getElem hir
  have hLi : L[i]? = some L[i] := List.getElem?_eq_getElem hiL
  have h128 : L[i].length = 128 := hL _ (List.getElem_mem _)
  have hz := zip_at (gRow 113 byteV) rs L i _ _ hrs hLi
  have ho : (AL p pf pt fr q ai :: Fla.AFl pf s' :: Tba.A pt tb :: (Qs ++ (G ++ Ps)))[Qs.length + 3]? = some (gOuter 37 (.slice al n cl) rs L) := by
   show (Qs ++ (G ++ Ps))[Qs.length]? = _
   rw [List.getElem?_append_right (Nat.le_refl _), Nat.sub_self, hG]
   rfl
  unfold gOuter at ho
  rw [hl] at ho
  obtain ⟨gb, hgb, ⟨u, hu, hcell⟩, _⟩ := h.rowAt _ ho i (by omega)
  rw [zip_at _ _ _ _ _ _ hrs hLi] at hu
  cases hu
  refine ⟨rs[i].1, rs[i].2, gb, hrs, hgb, by rw [hcell]; unfold gsl; rw [h128], ?_⟩
  rw [List.getElem?_append_right (by omega), show Qs.length + 1 + i - Qs.length = i + 1 by omega, hG]
  unfold gParts
  rw [List.cons_append, List.getElem?_cons_succ, List.getElem?_append_left (List.getElem?_eq_some_iff.1 hz).1, hz]
  unfold gRow gsl
  have el : L.getD i [] = L[i] := by rw [List.getD_eq_getElem?_getD, hLi]; rfl
  rw [el, h128]
 have HLL := Lib.hid hl
 have DR : Hid (∀ i, i < n -> L.drop i = L.getD i [] :: L.drop (i + 1)) := fun i hi => by
  rw [List.drop_eq_getElem_cons (by omega), List.getD_eq_getElem?_getD, List.getElem?_eq_getElem (by omega)]
  rfl
 have CV := Lib.hid e1
 have HTB := Lib.hid okt
 have OKF := Lib.hid okf
 have HCL : n <= cl /\ cl <= maxLen := by
  have ho : (G ++ Ps)[0]? = some (gOuter 37 (.slice al n cl) rs L) := by rw [hG]; rfl
  unfold gOuter at ho
  rw [hl] at ho
  obtain ⟨_, h2, h3, _⟩ := H1.out.rowLen 3 ho
  exact ⟨h2, h3⟩
 have HN64 : a + n <= 64 := by omega
 have hncl := HCL.1
 have hclm := HCL.2
 unfold maxLen at hclm
 obtain ⟨z, hz⟩ : ∃ z, z = plcV 0 0 0 := ⟨_, rfl⟩
 obtain ⟨pl, hpl⟩ : ∃ z, z = plcV (g : Int) (a : Int) (n : Int) := ⟨_, rfl⟩
 have ZB : Hid ((Tryz.prog.info? 42).bind (·.zero) = some (.agg z.toArray)) := by rw [hz]; exact zero_plc
 have ZL : Hid (z.length = 3) := by show _ = _; rw [hz]; rfl
 have Z1 : Hid (∀ v ∈ z, v.oneCell' = true) := by rw [hz]; intro v hv; simp at hv; rw [hv]; rfl
 have PL : Hid (pl.length = 3) := by show _ = _; rw [hpl]; rfl
 have P1 : Hid (∀ v ∈ pl, v.oneCell' = true) := by rw [hpl]; intro v hv; simp at hv; rcases hv with rfl | rfl | rfl <;> rfl
 have PE : Hid (Value.agg #[.int .i64 (g : Int), .int .i64 (a : Int), .int .i64 (n : Int)] = .agg pl.toArray) := by rw [hpl]; exact rfl
 have c2 := (H1.out.cellV 0 rfl 2 rfl).1
 clear hR hpp hss hgl e1 hk H hg0 hg1 hg2 hg3 hG hl okf okt hr HCL hc hrl hL
 rw [<- hpl, <- hz]
 have HZ := Lib.hid hz
 obtain ⟨V, hV⟩ : ∃ V, V = if R.2 = 0 then pl else z := ⟨_, rfl⟩
 rw [<- hV]
 have HV := Lib.hid hV
 clear hz hpl hV
 go_enter Tryz.func30, Tryz.ntmps30
 go_wp2_with (first
  | (refine wpList_newZ z ZB.out rfl rfl H1.out ?_; intro b4 w1 h; have H2 : Hid (S3 B w0 w1 (AL p pf pt fr q a) pf pt s tb ([AVals b4 42 z] ++ (G ++ Ps))) := back1 h; have c2' := (H2.out.cellV 0 rfl 2 rfl).1; clear h))
 have CC2 := t_cur H2.out HTB.out (by omega)
 rw [CV.out] at CC2
 refine CC2.mono ?_
 clear CC2 c2 c2'
 rintro e w2 ⟨rfl, hb2⟩
 have H3 : Hid (S3 B w0 w2 (AL p pf pt fr q a) pf pt s tb ([AVals b4 42 z] ++ (G ++ Ps))) := H2.out.later hb2
 have c4 := (H3.out.cellV 0 rfl 4 rfl).1
 clear hb2 H2
 go_wp2_with (first
  | (refine wpList_box2 boxy_plc rfl rfl rfl (.tmp 8) (.tmp 27) rfl rfl pl (fun _ => rfl) (fun _ => PE.out) PL.out P1.out H3.out ?_; intro b8 w3 h; have H4 : Hid (S3 B w0 w3 (AL p pf pt fr q a) pf pt s tb ([AVals b8 42 pl, AVals b4 42 z] ++ (G ++ Ps))) := back1 h; clear h))
 clear c4 H3
 go_loopw [30] (fun v30 wr => ∃ (i : Nat) (s' : FlaM.FS), i <= n /\ v30 = .int .i64 (i : Int) /\ FlaM.Ok s' (N + i) /\ R = progsL k s' (a + i) (L.drop i) /\ S3 B w0 wr (AL p pf pt fr q (a + i)) pf pt s' tb ([AVals b8 42 pl, AVals b4 42 z] ++ (G ++ Ps))) (fun v30 _ => n - (intOf v30).toNat)
 case atStart => exact ⟨0, s, Nat.zero_le _, rfl, OKF.out, HR.out, H4.out⟩
 case round =>
  obtain ⟨i, s', hin, rfl, hok, hri, hH⟩ := hrel
  have HRI := Lib.hid hri
  have H5 := Lib.hid hH
  have OKI := Lib.hid hok
  clear hri hH hok HR H4 OKF
  by_cases hi : (i : Int) < (n : Int)
  · have hin2 : i < n := by omega
    obtain ⟨ra, rc, gb, _, rfl, hcell, hrow⟩ := GO.out _ _ _ _ H5.out i hin2
    obtain ⟨b, hb⟩ : ∃ b, b = L.getD i [] := ⟨_, rfl⟩
    have hst := HRI.out
    rw [DR.out i hin2, <- hb, progs_cons] at hst
    rw [<- hb] at hrow
    obtain ⟨ai, hai⟩ : ∃ x, x = a + i := ⟨_, rfl⟩
    rw [<- hai] at hst
    have hai2 : ai <= 64 := by omega
    have HS5 : Hid (S3 B w0 wr (AL p pf pt fr q ai) pf pt s' tb ([AVals b8 42 pl, AVals b4 42 z] ++ (G ++ Ps))) := by rw [hai]; exact H5.out
    have C0 : Hid (∀ wx, Below wr.heap.size wr wx -> wx.cell? ⟨p, 0, none⟩ = some (ptr pf)) := fun wx hwx => ((HS5.out.later hwx).cellV 0 rfl 0 rfl).1
    have C1 : Hid (∀ wx, Below wr.heap.size wr wx -> wx.cell? ⟨p, 1, none⟩ = some (.int .i64 (fr : Int))) := fun wx hwx => ((HS5.out.later hwx).cellV 0 rfl 1 rfl).1
    have C4 : Hid (∀ wx, Below wr.heap.size wr wx -> wx.cell? ⟨p, 4, none⟩ = some (.int .i64 (ai : Int))) := fun wx hwx => ((HS5.out.later hwx).cellV 0 rfl 4 rfl).1
    have hokn := FlaM.ok_program OKI.out (k : Int) (ai : Int) b
    obtain ⟨r, hr⟩ : ∃ r, r = FlaM.progF s' (k : Int) (ai : Int) b := ⟨_, rfl⟩
    have CG : Hid (∀ wx, Below wr.heap.size wr wx -> Calls Tryz.prog 68 #[ptr pf, .int .i64 (k : Int), .int .i64 (ai : Int), .slice ra 128 rc] wx fun e w' => e = .returned (errL r.2) /\ S3 B w0 w' (AL p pf pt fr q ai) pf pt r.1 tb ([AVals b8 42 pl, AVals b4 42 z] ++ (G ++ Ps))) := fun wx hwx => by
     rw [hr]
     exact f_prog (HS5.out.later hwx) OKI.out (by omega) (k : Int) (ai : Int) HI.out (by unfold Fla.i64B; omega) _ hrow (by decide)
    rw [<- hr] at hst hokn
    obtain ⟨s2, er⟩ := r
    simp only at hst hokn CG
    have HST := Lib.hid hst
    have OKN := Lib.hid hokn
    have hicl : i < cl := by omega
    have HAI := Lib.hid hai
    clear hst hokn hr hb hrow hai HRI H5 OKI
    go_wp2_with (fail)
    refine wp_laxW_list 15 (by kernel_rfl) (by kernel_rfl) (by kernel_rfl) (by kernel_rfl) (by kernel_rfl) ?_
    simp only [List.take_succ_cons, List.take_zero, List.drop_succ_cons, List.drop_zero]
    refine lxM (ptr p) rfl ?_; refine lxA (.tmp 34) (ptr p) (ptr p) ?_; refine lxA (.tmp 35) (ptr p) (.pointer (some ⟨p, 0, none⟩)) ?_; refine lxR (.tmp 36) (.pointer (some ⟨p, 0, none⟩)) (ptr pf) (fun wx ρ hwx h0 hc => by simp [h0, go_sem, C0.out wx hwx]) ?_; refine lxM (ptr p) rfl ?_; refine lxA (.tmp 38) (ptr p) (ptr p) ?_; refine lxA (.tmp 39) (ptr p) (.pointer (some ⟨p, 1, none⟩)) ?_; refine lxR (.tmp 40) (.pointer (some ⟨p, 1, none⟩)) (.int .i64 (fr : Int)) (fun wx ρ hwx h0 hc => by simp [h0, go_sem, C1.out wx hwx]) ?_; refine lxM (.int .i64 (g : Int)) rfl ?_; refine lxT (.tmp 41) (.tmp 42) (.int .i64 (fr : Int)) (.int .i64 (g : Int)) (.int .i64 (k : Int)) (fun wx ρ hwx h0 h1 hc => by simp [h0, h1, go_sem, SUM.out, WR.out]) ?_; refine lxM (ptr p) rfl ?_; refine lxA (.tmp 44) (ptr p) (ptr p) ?_; refine lxA (.tmp 45) (ptr p) (.pointer (some ⟨p, 4, none⟩)) ?_; refine lxR (.tmp 46) (.pointer (some ⟨p, 4, none⟩)) (.int .i64 (ai : Int)) (fun wx ρ hwx h0 hc => by simp [h0, go_sem, C4.out wx hwx]) ?_; refine lxM (.slice ra 128 rc) rfl ?_
    refine wpL_end (by kernel_rfl) (fun w5 hw5 => ?_)
    simp only [FinL, setL, List.set_cons_zero, List.set_cons_succ]
    intro _
    have CG1 := Lib.hid (CG.out w5 hw5)
    clear CG C0 C1 C4 hw5 hcell HS5
    go_wp2_with (fail)
    refine CG1.out.mono ?_
    clear CG1
    rintro e w6 ⟨rfl, h6⟩
    have H6 := Lib.hid h6
    clear h6
    by_cases he : er = 0
    · subst he
      have HS2 : Hid (R = progsL k s2 (ai + 1) (L.drop (i + 1))) := by show R = _; rw [HST.out, if_pos rfl]
      have q4 := H6.out.cellV 0 rfl 4 rfl
      have h7 := H6.out.storeV 0 rfl 4 (.int .i64 ((ai + 1 : Nat) : Int))
      simp only [List.set_cons_zero] at h7
      have H7 : Hid (S3 B w0 (w6.setCell ⟨p, 4, none⟩ (.int .i64 ((ai + 1 : Nat) : Int))) (AL p pf pt fr q (ai + 1)) pf pt s2 tb ([AVals b8 42 pl, AVals b4 42 z] ++ (G ++ Ps))) := h7
      have HA1 : Hid (ai + 1 = a + (i + 1)) := by show _ = _; rw [HAI.out]; omega
      have WI : Hid (IntKind.i64.wrap ((ai : Int) + 1) = ((ai + 1 : Nat) : Int)) := (IntWalk.i64_in _ (by omega)).trans (by omega)
      clear h7 HST
      go_wp2
      go_roundw
      case rel => exact ⟨i + 1, s2, by omega, by go_num, OKN.out, by rw [<- HA1.out]; exact HS2.out, by rw [<- HA1.out]; exact H7.out⟩
      case measure => simp [intOf]; omega
    · have g1 : ((er : Int) != 0) = true := by simp; omega
      have HS2 : Hid (R = ((s2, ai), er)) := by show R = _; rw [HST.out, if_neg he]
      have BZ : Hid (Tryz.prog.built 42 [] = some z.toArray) := by rw [HZ.out]; exact built_plc0
      clear HST
      go_wp2_with (first
       | (refine Own.wpList_built rfl 42 #[] rfl z.toArray ?_ ?_; · (simp only [List.map_toArray, List.map_nil, List.toList_toArray]; exact BZ.out))
       | (refine wpList_fill boxy_plc rfl (.tmp 4) (.tmp 52) rfl rfl H6.out 4 rfl ZL.out z rfl rfl ZL.out Z1.out ?_; intro w7 h; simp only [List.set_cons_succ] at h; have H7 := Lib.hid h; clear h))
      refine bodyPost_ret (results_cell_two rfl _ _ b4 42 _ (0, 0) _ _ rfl rfl (H7.out.rowV 4 rfl) Tryz.underlying42 rfl (info_plc z ZL.out)) rfl ?_
      have HVE : V = z := by rw [HV.out, HS2.out, if_neg he]
      rw [HS2.out, HVE]
      refine ⟨rfl, ?_⟩
      · have h8 := H7.out
        exact dropMid G (dropMid [_, _] h8)
  · have HE : Hid (R = ((s', a + n), 0)) := by
     show R = _
     rw [HRI.out, show i = n by omega, List.drop_of_length_le (by rw [HLL.out]; omega)]
     rfl
    have HI2 : Hid (i = n) := by show i = n; omega
    clear HRI
    go_wp2_with (first
     | (refine wpList_load_mid rfl 42 (.tmp 8) rfl b8 0 rfl pl _ (H5.out.boxRange 3 rfl) Tryz.underlying42 rfl (info_plc pl PL.out) ?_)
     | (refine wpList_fill boxy_plc rfl (.tmp 4) (.tmp 62) rfl rfl H5.out 4 rfl ZL.out pl rfl rfl PL.out P1.out ?_; intro w7 h; simp only [List.set_cons_succ] at h; have H7 := Lib.hid h; clear h))
    refine bodyPost_ret (results_cell_two rfl _ _ b4 42 _ (0, 0) _ _ rfl rfl (H7.out.rowV 4 rfl) Tryz.underlying42 rfl (info_plc pl PL.out)) rfl ?_
    have HVE : V = pl := by rw [HV.out, HE.out, if_pos rfl]
    rw [HE.out, HVE]
    refine ⟨rfl, ?_⟩
    have h8 := H7.out
    rw [HI2.out] at h8
    exact dropMid G (dropMid [_, _] h8)
end
end Lga
end Go.Proofs.YtahjjcmeocibbaaGreatDoor
end
section
namespace Go.LogM
theorem progs_facts (g : Nat) : ∀ (L : List Bs) (s : FlaM.FS) (a : Nat), (progsL g s a L).1.1.pp = s.pp /\ a <= (progsL g s a L).1.2 /\ (progsL g s a L).1.2 <= a + L.length
 | [], s, a => ⟨rfl, Nat.le_refl _, Nat.le_refl _⟩
 | b :: L, s, a => by
  have d := prog_dims s (g : Int) (a : Int) b
  rw [progs_cons]
  split
  · obtain ⟨h1, h2, h3⟩ := progs_facts g L (FlaM.progF s (g : Int) (a : Int) b).1 (a + 1)
    exact ⟨h1.trans d.1, by omega, by simp only [List.length_cons]; omega⟩
  · exact ⟨d.1, Nat.le_refl _, Nat.le_add_right _ _⟩
theorem LR.moved {pp : Nat} {tb : TabM.T} {a q nx i : Nat} (h : LR pp tb a q nx) (hc : TabM.cur tb = some i) (ha : a < pp) {a' : Nat} (ha' : a' <= pp) : LR pp tb a' q a' := by
 obtain ⟨h1, _⟩ := h.here hc ha
 refine ⟨h.seq, ha', fun j hj => ?_⟩
 rw [hc] at hj
 cases hj
 exact .inl ⟨h1, rfl⟩
end Go.LogM
namespace Go.Proofs.YtahjjcmeocibbaaGreatDoor
open Go.RowKit Go.Own
namespace Lga
open Go.LogM Byt
section
variable {B : Nat} {w0 w : World} {Ps Qs : List Asn} {X : Asn} {p pf pt fr q nx : Nat} {σ : LG} {N : Nat}
set_option maxRecDepth 6000 in
set_option maxHeartbeats 16000000 in
theorem append_any (H : LS B w0 w p pf pt fr σ Ps) (hm : LgOk fr σ N) (hN : N <= 9000) (n : RecM.Nte) (f : RecM.Fits n) (ao : Option Addr) (len cap : Nat) (hg : Given w ao len cap n.data) (hb : len <= 1000000) :
 Calls Tryz.prog 10 #[ptr p, Rec.ntV n (.slice ao len cap)] w fun e w' => e = .returned (.tuple #[.agg (plcV (appendL fr σ n).2.1.seg (appendL fr σ n).2.1.page (appendL fr σ n).2.1.pages).toArray, errL (appendL fr σ n).2.2]) /\ LS B w0 w' p pf pt fr (appendL fr σ n).1 Ps := by
 obtain ⟨cs, hcs⟩ : ∃ cs, cs = Rec.ntC n (.slice ao len cap) := ⟨_, rfl⟩
 obtain ⟨z, hz⟩ : ∃ z, z = plcV 0 0 0 := ⟨_, rfl⟩
 obtain ⟨b3, hb3⟩ : ∃ b, b = w.heap.size := ⟨_, rfl⟩
 obtain ⟨W1, hW1⟩ : ∃ W, W = w.alloc (.cells cs.toArray 54) := ⟨_, rfl⟩
 have h1 := H.boxV 54 cs
 rw [<- hb3, <- hW1] at h1
 obtain ⟨b4, hb4⟩ : ∃ b, b = W1.heap.size := ⟨_, rfl⟩
 obtain ⟨W2, hW2⟩ : ∃ W, W = W1.alloc (.cells z.toArray 42) := ⟨_, rfl⟩
 have h2 := (back1 h1).boxV 42 z
 rw [<- hb4, <- hW2] at h2
 have H2 : Hid (LS B w0 W2 p pf pt fr σ ([AVals b4 42 z, AVals b3 54 cs] ++ Ps)) := back1 h2
 have G2 : Given W2 ao len cap n.data := by
  refine hg.later ?_
  rw [hW2, hW1]
  exact (((Own.St.start w).alloc _).alloc _).below
 have CP := pagesOf_any n f ao len cap W2 G2 hb
 have CSL : Hid (cs.length = 37) := by show _ = 37; rw [hcs]; exact Rec.ntC_len _ _ f.sum
 have RN : Hid (W2.rangeAt b3 0 cs) := H2.out.boxRange 4 rfl
 obtain ⟨R, hR⟩ : ∃ R, R = appendL fr σ n := ⟨_, rfl⟩
 show Calls Tryz.prog _ #[ptr p, .agg (Rec.ntC n (.slice ao len cap)).toArray] w _
 rw [<- hR, <- hcs]
 rw [append_ready] at hR
 have HR := Lib.hid hR
 have ZB : Hid ((Tryz.prog.info? 42).bind (·.zero) = some (.agg z.toArray)) := by rw [hz]; exact zero_plc
 have BZ : Hid (Tryz.prog.built 42 [] = some z.toArray) := by rw [hz]; exact built_plc0
 have ZL : Hid (z.length = 3) := by show _ = _; rw [hz]; rfl
 have Z1 : Hid (∀ v ∈ z, v.oneCell' = true) := by rw [hz]; intro v hv; simp at hv; rw [hv]; rfl
 have HZ := Lib.hid hz
 have HB3 := Lib.hid hb3
 have HW1 := Lib.hid hW1
 have HB4 := Lib.hid hb4
 have HW2 := Lib.hid hW2
 have HM := Lib.hid hm
 have hpp := hm.fs.pp
 show Calls Tryz.prog _ #[ptr p, .agg cs.toArray] w _
 unfold Rec.ntV at CP
 rw [<- hcs] at CP
 by_cases hr : RecM.right n = true
 · have hfew := notePages_few f hr
   have hpos := notePages_pos n
   have h128 := notePages_page n
   obtain ⟨L, hL⟩ : ∃ L, L = notePages n := ⟨_, rfl⟩
   obtain ⟨m, hmm⟩ : ∃ m, m = L.length := ⟨_, rfl⟩
   simp only [hr, if_true] at CP
   rw [<- hL, <- hmm] at CP hfew hpos
   have hR1 : R = if σ.fs.pp < 1 + m then (σ, (zP, 4)) else if (readyL fr σ m).2 ≠ 0 then ((readyL fr σ m).1, (zP, (readyL fr σ m).2)) else putL fr (readyL fr σ m).1 L := by
    rw [HR.out, if_neg (by simp [hr]), <- hL, <- hmm]
   rw [<- hL] at h128
   have CP2 : Hid (Calls Tryz.prog 28 #[.agg cs.toArray] W2 fun e w' => ∃ al cl, e = .returned (.tuple #[.slice al (m : Nat) cl, .int .i64 0]) /\ Own.St W2.heap.size W2 w' [AGrid 37 113 byteV (.slice al m cl) L]) := CP
   have HR1 := Lib.hid hR1
   have HL128 := Lib.hid (fun x hx => (h128 x hx).2)
   have HMM := Lib.hid hmm
   have hmp : ((σ.fs.pp : Int) - 1) = ((σ.fs.pp - 1 : Nat) : Int) := by omega
   obtain ⟨pp, hpp0⟩ : ∃ x, x = σ.fs.pp := ⟨_, rfl⟩
   rw [<- hpp0] at hmp hpp hR1
   have HPP := Lib.hid hpp0
   clear H hm hcs hz hb3 hW1 h1 hb4 hW2 h2 G2 CP hR hR1 hr h128 hL hmm HR hg
   go_enter Tryz.func10, Tryz.ntmps10
   go_wp2_with (first
    | (refine Own.wpList_allocZ rfl 42 rfl z.toArray ZB.out ?_; rw [<- HW1.out, <- HB4.out, <- HW2.out, <- HB3.out])
    | (refine wpList_val rfl (Rec.load_note cs CSL.out rfl _ (b := b3) (k := 0) RN.out rfl) ?_))
   refine CP2.out.mono ?_
   clear CP2 RN
   rintro e w3 ⟨al, cl, rfl, h3⟩
   have H3 : Hid (LS B w0 w3 p pf pt fr σ ([AGrid 37 113 byteV (.slice al m cl) L, AVals b4 42 z, AVals b3 54 cs] ++ Ps)) := back1 (H2.out.adoptNew h3)
   clear h3 H2
   obtain ⟨q, nx, hl, h4⟩ := A_to H3.out
   have c0 := (h4.cellV 0 rfl 0 rfl).1
   have CG := Lib.hid (f_pages h4)
   clear hl h4
   go_wp2_with (fail)
   refine CG.out.mono ?_
   clear CG c0
   rintro e w4 ⟨rfl, hb4'⟩
   have H4 : Hid (LS B w0 w4 p pf pt fr σ ([AGrid 37 113 byteV (.slice al m cl) L, AVals b4 42 z, AVals b3 54 cs] ++ Ps)) := H3.out.later hb4'
   clear hb4' H3
   rw [<- HPP.out]
   by_cases hlong : (m : Int) > (pp : Int) - 1
   · have HE : Hid (R = (σ, (zP, 4))) := by show R = _; rw [HR1.out, if_pos (by rw [<- HPP.out]; omega)]
     clear HR1
     go_wp2_with (first
      | (refine Own.wpList_built rfl 42 #[] rfl z.toArray ?_ ?_; · (simp only [List.map_toArray, List.map_nil, List.toList_toArray]; exact BZ.out))
      | (refine wpList_fill boxy_plc rfl (.tmp 4) (.tmp 30) rfl rfl H4.out 4 rfl ZL.out z rfl rfl ZL.out Z1.out ?_; intro w7 h; simp only [List.set_cons_succ] at h; have H7 := Lib.hid h; clear h))
     refine bodyPost_ret (results_cell_two rfl _ _ b4 42 _ (0, 0) _ _ rfl rfl (H7.out.rowV 4 rfl) Tryz.underlying42 rfl (info_plc z ZL.out)) rfl ?_
     rw [HE.out, HZ.out]
     refine ⟨rfl, ?_⟩
     have h8 := H7.out
     exact dropMid [_, _, _] h8
   · have HR2 : Hid (R = if (readyL fr σ m).2 ≠ 0 then ((readyL fr σ m).1, (zP, (readyL fr σ m).2)) else putL fr (readyL fr σ m).1 L) := by show R = _; rw [HR1.out, if_neg (by rw [<- HPP.out]; omega)]
     obtain ⟨r1, r2, r3⟩ := ready_mid (m := m) HM.out (by rw [<- HPP.out]; omega)
     have CM := room_any H4.out HM.out (by omega) m (by omega) (by omega)
     obtain ⟨Z, hZ⟩ : ∃ Z, Z = readyL fr σ m := ⟨_, rfl⟩
     rw [<- hZ] at r1 r2 r3 CM
     have hR3 := HR2.out
     rw [<- hZ] at hR3
     obtain ⟨τ, er⟩ := Z
     simp only at r1 r2 r3 CM hR3
     have HR3 := Lib.hid hR3
     have CM1 := Lib.hid CM
     have M1 := Lib.hid r1
     have M2 := Lib.hid r2
     have M3 := Lib.hid r3
     clear HR1 HR2 r1 r2 r3 CM hR3 hZ H4
     go_wp2_with (fail)
     refine CM1.out.mono ?_
     clear CM1
     rintro e w5 ⟨rfl, h5⟩
     have H5 := Lib.hid h5
     clear h5
     by_cases he : er = 0
     · subst he
       obtain ⟨⟨g, hc⟩, ha1, ha2⟩ := M3.out rfl
       have HE : R = putL fr τ L := by rw [HR3.out, if_neg (by simp)]
       unfold putL at HE
       rw [hc, Option.getD_some] at HE
       obtain ⟨q, nx, hl, h6⟩ := A_to H5.out
       have haa : τ.a < τ.fs.pp := by rw [M2.out]; omega
       obtain ⟨_, hnx⟩ := hl.here hc haa
       subst hnx
       have ha3 : τ.a + m <= τ.fs.pp := by rw [M2.out]; exact ha2
       have CS := store_any L al cl τ.a h6 M1.out.fs M1.out.tb (by omega) hc HMM.out.symm HL128.out ha3 M1.out.room (fr + g) rfl
       obtain ⟨p1, p2, p3⟩ := progs_facts (fr + g) L τ.fs τ.a
       obtain ⟨Y, hY⟩ : ∃ Y, Y = progsL (fr + g) τ.fs τ.a L := ⟨_, rfl⟩
       rw [<- hY] at HE CS p1 p2 p3
       have hlm := hl.moved hc haa (a' := Y.1.2) (by rw [<- HMM.out] at p3; omega)
       rw [<- p1] at hlm
       obtain ⟨⟨s', a'⟩, er2⟩ := Y
       simp only at HE CS hlm
       obtain ⟨V, hV⟩ : ∃ V : List Value, V = if er2 = 0 then plcV (g : Int) (τ.a : Int) (m : Int) else plcV 0 0 0 := ⟨_, rfl⟩
       rw [<- hV] at CS
       have CS1 := Lib.hid CS
       have HLM := Lib.hid hlm
       have VL : Hid (V.length = 3) := by show _ = _; rw [hV]; split <;> rfl
       have V1 : Hid (∀ v ∈ V, v.oneCell' = true) := by
        rw [hV]
        split
        · intro v hv; simp at hv; rcases hv with rfl | rfl | rfl <;> rfl
        · intro v hv; simp at hv; rw [hv]; rfl
       have HRE : Hid (R.1 = ⟨s', τ.tb, a'⟩ /\ R.2.2 = er2 /\ plcV R.2.1.seg R.2.1.page R.2.1.pages = V) := by
        show _ /\ _ /\ _
        by_cases h : er2 = 0
        · rw [HE, if_neg (by simp [h]), hV, if_pos h, h]
          refine ⟨rfl, rfl, ?_⟩
          rw [<- HMM.out]
        · rw [HE, if_pos h, hV, if_neg h]
          exact ⟨rfl, rfl, rfl⟩
       clear HR3 M3 hc ha1 ha2 HE hl h6 haa ha3 CS p1 p2 p3 hY hlm hV H5
       go_wp2_with (fail)
       refine CS1.out.mono ?_
       clear CS1
       rintro e w6 ⟨rfl, h6⟩
       have H6 := Lib.hid h6
       clear h6
       go_wp2_with (refine wpList_fill boxy_plc rfl (.tmp 4) (.tmp 42) rfl rfl H6.out 3 rfl ZL.out V rfl rfl VL.out V1.out ?_; intro w7 h; simp only [List.set_cons_succ] at h; have H7 := Lib.hid h; clear h)
       refine bodyPost_ret (results_cell_two rfl _ _ b4 42 _ (0, 0) _ _ rfl rfl (H7.out.rowV 3 rfl) Tryz.underlying42 rfl (info_plc V VL.out)) rfl ?_
       obtain ⟨e1, e2, e3⟩ := HRE.out
       rw [e1, e2, e3]
       refine ⟨rfl, ?_⟩
       have h8 := A_of HLM.out H7.out
       exact dropMid [_, _] h8
     · have g1 : ((er : Int) != 0) = true := by simp; omega
       have HE : Hid (R = (τ, (zP, er))) := by show R = _; rw [HR3.out, if_pos he]
       clear HR3 M3
       go_wp2_with (first
        | (refine Own.wpList_built rfl 42 #[] rfl z.toArray ?_ ?_; · (simp only [List.map_toArray, List.map_nil, List.toList_toArray]; exact BZ.out))
        | (refine wpList_fill boxy_plc rfl (.tmp 4) (.tmp 37) rfl rfl H5.out 4 rfl ZL.out z rfl rfl ZL.out Z1.out ?_; intro w7 h; simp only [List.set_cons_succ] at h; have H7 := Lib.hid h; clear h))
       refine bodyPost_ret (results_cell_two rfl _ _ b4 42 _ (0, 0) _ _ rfl rfl (H7.out.rowV 4 rfl) Tryz.underlying42 rfl (info_plc z ZL.out)) rfl ?_
       rw [HE.out, HZ.out]
       refine ⟨rfl, ?_⟩
       have h8 := H7.out
       exact dropMid [_, _, _] h8
 · have hr' : RecM.right n = false := by simpa using hr
   simp only [hr', Bool.false_eq_true, if_false] at CP
   have CP2 : Hid (Calls Tryz.prog 28 #[.agg cs.toArray] W2 fun e w' => e = .returned (.tuple #[.slice none 0 0, .int .i64 1]) /\ Below W2.heap.size W2 w') := CP
   have HE : Hid (R = (σ, (zP, 1))) := by show R = _; rw [HR.out, if_pos hr']
   clear H hm hcs hz hb3 hW1 h1 hb4 hW2 h2 G2 CP hR hr hr' HR hg hpp HM
   go_enter Tryz.func10, Tryz.ntmps10
   go_wp2_with (first
    | (refine Own.wpList_allocZ rfl 42 rfl z.toArray ZB.out ?_; rw [<- HW1.out, <- HB4.out, <- HW2.out, <- HB3.out])
    | (refine wpList_val rfl (Rec.load_note cs CSL.out rfl _ (b := b3) (k := 0) RN.out rfl) ?_))
   refine CP2.out.mono ?_
   clear CP2 RN
   rintro e w3 ⟨rfl, hb3'⟩
   have H3 : Hid (LS B w0 w3 p pf pt fr σ ([AVals b4 42 z, AVals b3 54 cs] ++ Ps)) := H2.out.later hb3'
   clear hb3' H2
   go_wp2_with (first
    | (refine Own.wpList_built rfl 42 #[] rfl z.toArray ?_ ?_; · (simp only [List.map_toArray, List.map_nil, List.toList_toArray]; exact BZ.out))
    | (refine wpList_fill boxy_plc rfl (.tmp 4) (.tmp 19) rfl rfl H3.out 3 rfl ZL.out z rfl rfl ZL.out Z1.out ?_; intro w7 h; simp only [List.set_cons_succ] at h; have H7 := Lib.hid h; clear h))
   refine bodyPost_ret (results_cell_two rfl _ _ b4 42 _ (0, 0) _ _ rfl rfl (H7.out.rowV 3 rfl) Tryz.underlying42 rfl (info_plc z ZL.out)) rfl ?_
   rw [HE.out, HZ.out]
   refine ⟨rfl, ?_⟩
   have h8 := H7.out
   exact dropMid [_, _] h8
end
end Lga
end Go.Proofs.YtahjjcmeocibbaaGreatDoor
end
section
namespace Go.Own
open Go.RowKit
theorem St.weak {B : Nat} {w0 w : World} {P Q : Asn} {Ps : List Asn} (H : St B w0 w (P :: Ps)) (h : ∀ S, P.holds S w -> Q.holds S w) : St B w0 w (Q :: Ps) := by
 obtain ⟨hb, hs, S, ⟨S1, S2, h1, h2, h3, h4⟩, hB⟩ := H
 exact ⟨hb, hs, S, ⟨S1, S2, h S1 h1, h2, h3, h4⟩, hB⟩
end Go.Own
namespace Go.LogM
theorem nowR_len (i k : Nat) : ∀ (L : List FlaM.Act), (∀ a ∈ L, (0 <= a.page -> a.b.length = 128)) -> ∀ b, FlaM.nowR L i k = some b -> b.length = 128
 | [], _, b, h => by cases h
 | a :: L, ha, b, h => by
  unfold FlaM.nowR at h
  split at h
  · rename_i hc
    cases h
    exact ha a List.mem_cons_self (by rw [hc.2]; omega)
  · split at h
    · cases h
      exact FlaM.blank_len
    · exact nowR_len i k L (fun x hx => ha x (List.mem_cons_of_mem _ hx)) b h
theorem now_len {s : FlaM.FS} {N : Nat} (ok : FlaM.Ok s N) (i k : Nat) (hi : i < s.safe.length) (hk : k < s.pp) : (FlaM.now s i k).length = 128 := by
 unfold FlaM.now
 cases h : FlaM.nowR s.L.reverse i k with
 | none => exact ok.pages i k hi hk
 | some b =>
  refine nowR_len i k s.L.reverse (fun a ha h0 => ?_) b h
  rcases (ok.acts a (List.mem_reverse.1 ha)).2 with ⟨_, _, h1⟩ | ⟨h1, _⟩
  · exact h1
  · omega
theorem read_on {s : FlaM.FS} {seg page : Nat} (h1 : seg < s.safe.length) (h2 : page < s.pp) (ho : s.off = false) : FlaM.read s (seg : Int) (page : Int) = (FlaM.now s seg page, 0) := by
 unfold FlaM.read
 rw [if_neg (by unfold FlaM.there; simp; omega), if_neg (by rw [ho]; decide)]
 rfl
theorem read_off {s : FlaM.FS} {seg page : Nat} (h1 : seg < s.safe.length) (h2 : page < s.pp) (ho : s.off = true) : FlaM.read s (seg : Int) (page : Int) = ([], 6) := by
 unfold FlaM.read
 rw [if_neg (by unfold FlaM.there; simp; omega), if_pos ho]
end Go.LogM
namespace Go.Proofs.YtahjjcmeocibbaaGreatDoor
open Go.RowKit Go.Own
namespace Lga
open Go.LogM Byt
open Lg (gslV entC entsC)
def LoadD (off : Bool) (pp : Nat) (L : List PagM.Bs) (e : Ending) (w : World) : Prop := (off = true /\ e = .returned (.tuple #[.slice none 0 0, .int .i64 6])) \/ ∃ al, off = false /\ e = .returned (.tuple #[.slice al pp pp, .int .i64 0]) /\ GivenL w al pp pp L
abbrev nilS : Value := .slice none 0 0
def rowsV (gs : List GSl) (m : Nat) : List Value := gs.map gslV ++ List.replicate m nilS
theorem rowsV_set (gs : List GSl) (m : Nat) (g : GSl) : (rowsV gs (m + 1)).set gs.length (gslV g) = rowsV (gs ++ [g]) m := by
 unfold rowsV
 rw [List.set_append_right _ _ (by rw [List.length_map]; exact Nat.le_refl _), List.length_map, Nat.sub_self, List.replicate_succ, List.set_cons_zero, List.map_append, List.append_assoc]
 rfl
theorem given_ab {ao : Option Addr} {n cap : Nat} {l : List UInt8} {S : Nat -> Prop} {w : World} (h : (AB ao n cap l).holds S w) : (AGivens [(ao, cap, l)]).holds S w := by
 obtain ⟨h1, h2, h3, h4⟩ := AB.len h
 exact ⟨fun g hg => by
  rw [List.mem_singleton] at hg
  subst hg
  exact ⟨AB.view h, by rw [h1]; exact h2, h3, fun e => (h4 e).2⟩, (AB ao n cap l).lt h⟩
section
variable {B : Nat} {w0 w : World} {Ps Qs : List Asn} {X : Asn} {p pf pt fr q nx n : Nat} {s : FlaM.FS} {tb : TabM.T} {N : Nat}
theorem addGiven {a b c r : Asn} {ao : Option Addr} {m cap : Nat} {l : List UInt8} {gs : List GSl} (H : Own.St B w0 w (a :: b :: c :: AB ao m cap l :: r :: AGivens gs :: Ps)) : Own.St B w0 w (a :: b :: c :: r :: AGivens (gs ++ [(ao, cap, l)]) :: Ps) := by
 have h1 : Own.St B w0 w (AB ao m cap l :: AGivens gs :: a :: b :: c :: r :: Ps) := by
  have h := H.front 5 rfl
  simp only [List.eraseIdx_cons_succ, List.eraseIdx_cons_zero] at h
  have h2 := h.front 4 rfl
  simp only [List.eraseIdx_cons_succ, List.eraseIdx_cons_zero] at h2
  exact h2
 have h2 := (h1.weak (Q := AGivens [(ao, cap, l)]) (fun _ h => given_ab h)).swap2
 have h3 := Own.St.givensJoin h2
 exact Own.St.back (Ps := a :: b :: c :: r :: AGivens gs :: Ps) 4 (by simp) h3
theorem f_read (H : S3 B w0 w X pf pt s tb Qs) (ok : FlaM.Ok s N) (hN : N <= 10000) (seg page : Int) (hs : Fla.i64B seg) (hp : Fla.i64B page) :
 Calls Tryz.prog 81 #[ptr pf, .int .i64 seg, .int .i64 page] w fun e w' => ∃ ao cap, e = .returned (.tuple #[.slice ao (FlaM.read s seg page).1.length cap, errL (FlaM.read s seg page).2]) /\ S3 B w0 w' X pf pt s tb (AB ao (FlaM.read s seg page).1.length cap (FlaM.read s seg page).1 :: Qs) :=
 (Fla.read_any H.swap2 ok hN seg page hs hp).mono fun e w' ⟨ao, cap, h1, h2⟩ => ⟨ao, cap, h1, (back1 h2).swap2⟩
theorem loaded {g : Nat} {gs : List GSl} {L : List PagM.Bs} (H : S3 B w0 w X pf pt s tb (ARow 37 1 (.slice (some ⟨g, 0, none⟩) n n) n (rowsV gs 0) :: AGivens gs :: Ps)) (hL : gs.map (fun g => g.2.2) = L) (hn : L.length = n) : GivenL w (some ⟨g, 0, none⟩) n n L := by
 obtain ⟨_, _, h3, _⟩ := H.rowLen 3 rfl
 have hgl : gs.length = n := by rw [<- hn, <- hL, List.length_map]
 refine ⟨hn, ⟨Nat.le_refl _, h3⟩, fun h => by (cases h), fun j hj => ?_⟩
 obtain ⟨g', e, ⟨u, hu, hc⟩, _⟩ := H.rowAt 3 rfl j (by omega)
 cases e
 have hj2 : j < gs.length := by omega
 have hgj : gs[j]? = some gs[j] := List.getElem?_eq_getElem hj2
 have hlj : L.getD j [] = gs[j].2.2 := by rw [<- hL, List.getD_eq_getElem?_getD, List.getElem?_map, hgj]; rfl
 unfold rowsV at hu
 rw [List.getElem?_append_left (by rw [List.length_map]; exact hj2), List.getElem?_map, hgj] at hu
 have hu2 : gslV gs[j] = u := by simpa using hu
 subst hu2
 obtain ⟨k1, k2, k3, k4⟩ := H.givenAt 4 rfl gs[j] (List.getElem_mem hj2)
 refine ⟨g, 0, gs[j].1, gs[j].2.1, rfl, World.block_lt_of_cell? w _ hc, ?_, ?_⟩
 · rw [Nat.zero_add, hc, hlj]; rfl
 · rw [hlj]; exact ⟨k1, rfl, ⟨k2, k3⟩, k4⟩
set_option maxRecDepth 6000 in
set_option maxHeartbeats 16000000 in
theorem load_any (H : S3 B w0 w (AL p pf pt fr q nx) pf pt s tb Ps) (ok : FlaM.Ok s N) (hN : N <= 10000) (g k : Nat) (hk : k = fr + g) (hks : k < s.safe.length) :
 Calls Tryz.prog 43 #[ptr p, .int .i64 (g : Int)] w fun e w' => LoadD s.off s.pp (segPages s k) e w' /\ S3 B w0 w' (AL p pf pt fr q nx) pf pt s tb Ps := by
 have hpp := ok.pp
 have hss := ok.segs
 have hseg := seg_len s k
 have hsat : ∀ i, i < s.pp -> (segPages s k).getD i [] = FlaM.now s k i := fun i hi => seg_at hi
 obtain ⟨L, hL⟩ : ∃ L, L = segPages s k := ⟨_, rfl⟩
 rw [<- hL] at hseg hsat ⊢
 obtain ⟨pp, hpe⟩ : ∃ x, x = s.pp := ⟨_, rfl⟩
 have CG := f_pages H
 rw [<- hpe] at hpp hseg hsat CG ⊢
 have SUM : Hid ((fr : Int) + (g : Int) = (k : Int)) := by show _ = _; omega
 have WR : Hid (IntKind.i64.wrap (k : Int) = (k : Int)) := IntWalk.i64_in _ (by omega)
 have HI : Hid (Fla.i64B (k : Int)) := by show Fla.i64B _; unfold Fla.i64B; omega
 have c0 := (H.cellV 0 rfl 0 rfl).1
 have HH := Lib.hid H
 have HL := Lib.hid hseg
 obtain ⟨rd, hrd⟩ : ∃ f : Nat -> List UInt8 × Nat, f = fun (i : Nat) => FlaM.read s (k : Int) (i : Int) := ⟨_, rfl⟩
 have RD : Hid (∀ i, i < pp -> (s.off = true -> rd i = ([], 6)) /\ (s.off = false -> rd i = (L.getD i [], 0))) := fun i hi => ⟨fun ho => by rw [hrd]; exact read_off hks (by omega) ho, fun ho => by rw [hrd]; exact (read_on hks (by omega) ho).trans (by rw [hsat i hi])⟩
 have CR : Hid (∀ wx Qs i, i < pp -> S3 B w0 wx (AL p pf pt fr q nx) pf pt s tb Qs -> Calls Tryz.prog 81 #[ptr pf, .int .i64 (k : Int), .int .i64 (i : Int)] wx fun e w' => ∃ ao cap, e = .returned (.tuple #[.slice ao (rd i).1.length cap, errL (rd i).2]) /\ S3 B w0 w' (AL p pf pt fr q nx) pf pt s tb (AB ao (rd i).1.length cap (rd i).1 :: Qs)) := fun wx Qs i hi h => by
  rw [hrd]
  exact f_read h ok hN (k : Int) (i : Int) HI.out (by unfold Fla.i64B; omega)
 have CG1 := Lib.hid CG
 have TK : Hid (∀ i, i < pp -> L.take (i + 1) = L.take i ++ [L.getD i []]) := fun i hi => by
  rw [List.take_add_one, List.getD_eq_getElem?_getD, List.getElem?_eq_getElem (by omega)]
  rfl
 have HPE := Lib.hid hpe
 clear hk hss hL H CG ok hrd hsat hseg hpe
 go_enter Tryz.func43, Tryz.ntmps43
 go_wp2_with (fail)
 refine CG1.out.mono ?_
 clear CG1 c0
 rintro e w1 ⟨rfl, hb1⟩
 obtain ⟨w2, g6, hmk, hst⟩ := Own.St.oneMake Byt.oneBytes (HH.out.later hb1) .i64 .i64 pp (by omega) (by decide) rfl
 have H2 : Hid (S3 B w0 w2 (AL p pf pt fr q nx) pf pt s tb (ARow 37 1 (.slice (some ⟨g6, 0, none⟩) pp pp) pp (rowsV [] pp) :: AGivens [] :: Ps)) := by
  have h1 := back1 hst
  have h2 := back1 (Own.St.givensNil h1)
  have h3 := h2.front 4 rfl
  simp only [List.eraseIdx_cons_succ, List.eraseIdx_cons_zero] at h3
  exact back1 h3
 clear hst HH hb1
 go_wp2
 clear hmk
 go_loopw [18] (fun v18 wr => ∃ (i : Nat) (gs : List GSl), i <= pp /\ v18 = .int .i64 (i : Int) /\ (s.off = true -> i = 0) /\ gs.length = i /\ gs.map (fun g => g.2.2) = L.take i /\ S3 B w0 wr (AL p pf pt fr q nx) pf pt s tb (ARow 37 1 (.slice (some ⟨g6, 0, none⟩) pp pp) pp (rowsV gs (pp - i)) :: AGivens gs :: Ps)) (fun v18 _ => pp - (intOf v18).toNat)
 case atStart => exact ⟨0, [], Nat.zero_le _, rfl, fun _ => rfl, rfl, rfl, H2.out⟩
 case round =>
  obtain ⟨i, gs, hin, rfl, hof, hgl, hgm, hH⟩ := hrel
  have H5 := Lib.hid hH
  have HGM := Lib.hid hgm
  have HGL := Lib.hid hgl
  clear hH H2 hgm hgl
  by_cases hi : (i : Int) < (pp : Int)
  · have hin2 : i < pp := by omega
    obtain ⟨rd1, rd2⟩ := RD.out i hin2
    have c0 := (H5.out.cellV 0 rfl 0 rfl).1
    have c1 := (H5.out.cellV 0 rfl 1 rfl).1
    have CR2 := CR.out wr.drew _ i hin2 H5.out.drew
    have WS : IntKind.i64.wrap ((fr : Int) + (g : Int)) = (k : Int) := by rw [SUM.out, WR.out]
    obtain ⟨x, hx⟩ : ∃ x, x = rd i := ⟨_, rfl⟩
    rw [<- hx] at rd1 rd2 CR2
    obtain ⟨bs, er⟩ := x
    simp only at CR2
    obtain ⟨m, hm⟩ : ∃ m, m = bs.length := ⟨_, rfl⟩
    rw [<- hm] at CR2
    have RD1 := Lib.hid rd1
    have RD2 := Lib.hid rd2
    have HM := Lib.hid hm
    have CR3 := Lib.hid CR2
    clear rd1 rd2 hx hm H5 CR2
    go_wp2_with (fail)
    go_region_law (go_simp; go_at_call 81; refine CR3.out.mono ?_; rintro e w6 ⟨ao, cap, rfl, h6⟩; have H6 := Lib.hid h6; clear h6)
    all_goals
     clear CR3 c0 c1
     by_cases hoff : s.off = true
     · have hxe := RD1.out hoff
       simp only [Prod.mk.injEq] at hxe
       obtain ⟨rfl, rfl⟩ := hxe
       have HOF := Lib.hid hoff
       have H8 : Hid (S3 B w0 w6 (AL p pf pt fr q nx) pf pt s tb Ps) := dropMid [_, _, _] H6.out
       clear hoff RD1 RD2 H6
       go_wp2
       go_ret2
       exact ⟨.inl ⟨HOF.out, rfl⟩, H8.out⟩
     · have hoff' : s.off = false := by simpa using hoff
       have hxe := RD2.out hoff'
       simp only [Prod.mk.injEq] at hxe
       obtain ⟨hbs, rfl⟩ := hxe
       have h7 := addGiven H6.out
       have hmm := HM.out
       subst hmm
       obtain ⟨g', e', ⟨u, hu, hc⟩, fz, put⟩ := h7.rowAt 3 rfl i (by omega)
       cases e'
       have h8 := put (gslV (ao, cap, bs))
       simp only [List.set_cons_zero, List.set_cons_succ] at h8
       have hrs : (rowsV gs (pp - i)).set i (gslV (ao, cap, bs)) = rowsV (gs ++ [(ao, cap, bs)]) (pp - (i + 1)) := by
        have h := rowsV_set gs (pp - (i + 1)) (ao, cap, bs)
        rw [HGL.out] at h
        rw [<- h, show pp - (i + 1) + 1 = pp - i by omega]
       rw [hrs] at h8
       have H8 : Hid (S3 B w0 (w6.setCell ⟨g6, i, none⟩ (.slice ao bs.length cap)) (AL p pf pt fr q nx) pf pt s tb (ARow 37 1 (.slice (some ⟨g6, 0, none⟩) pp pp) pp (rowsV (gs ++ [(ao, cap, bs)]) (pp - (i + 1))) :: AGivens (gs ++ [(ao, cap, bs)]) :: Ps)) := h8
       have HG2 : Hid ((gs ++ [(ao, cap, bs)]).map (fun g => g.2.2) = L.take (i + 1)) := by
        show _ = _
        rw [List.map_append, HGM.out, TK.out i hin2, hbs]
        rfl
       have HG3 : Hid ((gs ++ [(ao, cap, bs)]).length = i + 1) := by show _ = _; rw [List.length_append, HGL.out]; rfl
       have HOF := Lib.hid hoff'
       clear hbs h7 h8 hrs hu hoff hoff' put H6 HM RD1 RD2 HGM HGL hof
       go_wp2
       go_roundw
       case rel => exact ⟨i + 1, gs ++ [(ao, cap, bs)], by omega, by go_num, fun h => (by rw [HOF.out] at h; cases h), HG3.out, HG2.out, H8.out⟩
       case measure => simp [intOf]; omega
  · have hie : i = pp := by omega
    have hoff : s.off = false := by
     cases h : s.off
     · rfl
     · have := hof h; omega
    have HOF := Lib.hid hoff
    have hH := H5.out
    rw [hie, Nat.sub_self] at hH
    have GV : Hid (GivenL wr (some ⟨g6, 0, none⟩) pp pp L) := loaded hH (by rw [HGM.out, hie, List.take_of_length_le (by rw [HL.out]; exact Nat.le_refl _)]) HL.out
    have H8 : Hid (S3 B w0 wr (AL p pf pt fr q nx) pf pt s tb Ps) := dropMid [_, _] hH
    clear hie hoff hH hof H5 HGM HGL
    go_wp2
    go_ret2
    exact ⟨.inr ⟨some ⟨g6, 0, none⟩, HOF.out, rfl, GV.out⟩, H8.out⟩
end
end Lga
end Go.Proofs.YtahjjcmeocibbaaGreatDoor
end
section
namespace Go.Proofs.YtahjjcmeocibbaaGreatDoor
open Go.RowKit Go.Own
namespace Lga
open Go.LogM Byt
open Lg (gslV entC entsC)
theorem slot_ent (f : Nat -> Value) : Tryz.prog.builtSlice 64 1 [(0, .agg ((List.range 40).map f).toArray)] = some ((List.range 40).map f).toArray := by kernel_rfl
theorem many_ent : Many Tryz.prog 60 64 40 104 := ⟨Tryz.underlying60, by kernel_rfl, by decide⟩
theorem built_ent0 (a b c : Value) (f : Nat -> Value) : Tryz.prog.built 64 [(0, .agg #[a, b, c]), (1, .agg ((List.range 37).map f).toArray)] = some (a :: b :: c :: (List.range 37).map f).toArray := by kernel_rfl
theorem built_ent (x y z : Int) (nn : List Value) (h : nn.length = 37) : Tryz.prog.built 64 [(0, .agg #[.int .i64 x, .int .i64 y, .int .i64 z]), (1, .agg nn.toArray)] = some (.int .i64 x :: .int .i64 y :: .int .i64 z :: nn).toArray := by
 have hrm : (List.range 37).map (fun i => nn.getD i undef) = nn := by
  apply List.ext_getElem
  · simp [h]
  · intro i h1 h2
    simp [List.getD, h2]
 have h := built_ent0 (.int .i64 x) (.int .i64 y) (.int .i64 z) (fun i => nn.getD i undef)
 rw [hrm] at h
 exact h
theorem entsC_snoc {E : List Ent} {gs : List GSl} (e : Ent) (g : GSl) (h : gs.length = E.length) : entsC (E ++ [e]) (gs ++ [g]) = entsC E gs ++ entC e (gslV g) := by
 unfold entsC
 rw [List.zipWith_append h.symm]
 simp
theorem entC_oneV {e : Ent} {g : GSl} : ∀ u ∈ entC e (gslV g), u.oneCell' = true := by
 intro u hu
 unfold entC at hu
 rcases List.mem_cons.1 hu with rfl | hu
 · rfl
 rcases List.mem_cons.1 hu with rfl | hu
 · rfl
 rcases List.mem_cons.1 hu with rfl | hu
 · rfl
 · exact Rec.ntC_one rfl u hu
theorem view_given {ao : Option Addr} {cap : Nat} {l : List UInt8} {S : Nat -> Prop} {w : World} (h : (AView ao l).holds S w) (h1 : l.length <= cap) (h2 : cap <= maxLen) (h3 : ao = none -> cap = 0) : (AGivens [(ao, cap, l)]).holds S w :=
 ⟨fun g hg => by
  rw [List.mem_singleton] at hg
  subst hg
  exact ⟨h.1, h1, h2, h3⟩, h.2⟩
theorem addGiven2 {B : Nat} {w0 w : World} {Ps : List Asn} {r : Asn} {ao : Option Addr} {cap : Nat} {l : List UInt8} {gs : List GSl} (H : Own.St B w0 w (AView ao l :: r :: AGivens gs :: Ps)) (h1 : l.length <= cap) (h2 : cap <= maxLen) (h3 : ao = none -> cap = 0) : Own.St B w0 w (r :: AGivens (gs ++ [(ao, cap, l)]) :: Ps) := by
 have h := H.weak (Q := AGivens [(ao, cap, l)]) (fun _ h => view_given h h1 h2 h3)
 have h4 : Own.St B w0 w (AGivens gs :: AGivens [(ao, cap, l)] :: r :: Ps) := by
  have h5 := h.front 2 rfl
  simp only [List.eraseIdx_cons_succ, List.eraseIdx_cons_zero] at h5
  exact h5
 exact (Own.St.givensJoin h4).swap2
set_option maxRecDepth 6000 in
set_option maxHeartbeats 16000000 in
theorem entries_any (seg : Int) (ao : Option Addr) (n cap : Nat) (L : List PagM.Bs) (a : Nat) (w : World) (hg : GivenL w ao n cap L) (hn : n <= 64) (hlen : ∀ p ∈ L, p.length <= 1000000) (ha : a <= n) :
 Calls Tryz.prog 45 #[.int .i64 seg, .slice ao n cap, .int .i64 (a : Int)] w fun e w' => ∃ (v : Value) (gs : List GSl), gs.map (fun g => g.2.2) = (scanF seg (n + 1) a (L.drop a)).map (fun e => e.note.data) /\ e = .returned v /\
  Own.St w.heap.size w w' [ARow 64 40 v (scanF seg (n + 1) a (L.drop a)).length (entsC (scanF seg (n + 1) a (L.drop a)) gs), AGivens gs] := by
 obtain ⟨E, hE⟩ : ∃ E, E = scanF seg (n + 1) a (L.drop a) := ⟨_, rfl⟩
 rw [<- hE]
 have HE0 : Hid (E = [] ++ scanF seg (n + 1) a (L.drop a)) := hE
 have HG := Lib.hid hg
 have HLN := Lib.hid hg.size
 have HLEN := Lib.hid hlen
 have hst : Own.St w.heap.size w w [ARow 64 40 nilS 0 [], AGivens []] := (Own.St.givensNil (Own.St.start w)).rowFresh
 have HST := Lib.hid hst
 clear hE hg hlen hst
 go_enter Tryz.func45, Tryz.ntmps45
 go_wp2
 go_loopw [2, 7] (fun v2 v7 wr => ∃ (i f : Nat) (E1 : List Ent) (gs : List GSl), i <= n /\ v2 = .int .i64 (i : Int) /\ n + 1 <= f + i /\ E1.length <= i /\ E = E1 ++ scanF seg f i (L.drop i) /\ gs.map (fun g => g.2.2) = E1.map (fun e => e.note.data) /\ Own.St w.heap.size w wr [ARow 64 40 v7 E1.length (entsC E1 gs), AGivens gs]) (fun v2 _ _ => n + 1 - (intOf v2).toNat)
 case atStart => exact ⟨a, n + 1, [], [], ha, rfl, by omega, Nat.zero_le _, HE0.out, rfl, HST.out⟩
 case round =>
  obtain ⟨i, f, E1, gs, hin, rfl, hf, hel, hEi, hgm, hH⟩ := hrel
  have HEI := Lib.hid hEi
  have HGM := Lib.hid hgm
  obtain ⟨k, hk⟩ : ∃ k, k = E1.length := ⟨_, rfl⟩
  rw [<- hk] at hH
  obtain ⟨a7, c7, rfl⟩ := hH.rowForm 0 rfl
  have hrl := hH.rowLen 0 rfl
  have H5 := Lib.hid hH
  obtain ⟨f', rfl⟩ : ∃ f', f = f' + 1 := ⟨f - 1, by omega⟩
  have CN := noteAt_any ao n cap L i n wr (HG.out.later H5.out.below) (by omega) HLEN.out hin (Nat.le_refl _)
  rw [List.take_of_length_le (by rw [HLN.out]; exact Nat.le_refl _)] at CN
  have hdl : (L.drop i).length = n - i := by rw [List.length_drop, HLN.out]
  have hsc : scanF seg (f' + 1) i (L.drop i) = match note1 (L.drop i) with | none => [] | some (n, k) => ⟨⟨seg, i, k⟩, n⟩ :: scanF seg f' (i + k) ((L.drop i).drop k) := by rw [scanF]; cases note1 (L.drop i) <;> rfl
  have HK := Lib.hid hk
  have hkn : k <= 64 := by omega
  clear hEi hgm hH HST HE0 hrl hk
  cases hc : note1 (L.drop i) with
  | none =>
   rw [hc] at CN hsc
   simp only at hsc
   have HEE : Hid (E = E1) := by show E = E1; rw [HEI.out, hsc, List.append_nil]
   unfold resN NoteDone at CN
   simp only [Option.getD_none] at CN
   obtain ⟨Z, hZ⟩ : ∃ Z, Z = RecM.zeroN := ⟨_, rfl⟩
   rw [<- hZ] at CN
   have ZS : Z.sum.length = 32 := by rw [hZ]; simp [RecM.zeroN, RecM.zsum]
   have CN2 : Hid (Calls Tryz.prog 82 #[.slice ao n cap, .int .i64 (i : Int), .int .i64 (n : Int)] wr fun e w' => ∃ cs : List Value, cs.length = 37 /\ (∀ v ∈ cs, v.oneCell' = true) /\ e = .returned (.tuple #[.agg cs.toArray, .int .i64 0]) /\ Below wr.heap.size wr w') := CN.mono fun e w' ⟨ad, cd, h1, h2, h3, h4⟩ => ⟨_, Rec.ntC_len _ _ ZS, Rec.ntC_one rfl, h1, h4⟩
   clear CN hsc hc hZ ZS HEI
   go_wp2_with (fail)
   refine CN2.out.mono ?_
   clear CN2
   rintro e w5 ⟨cs, hcl, hc1, rfl, hb5⟩
   have H6 := Lib.hid (H5.out.later hb5)
   have CSL := Lib.hid hcl
   have CS1 := Lib.hid hc1
   clear hcl hc1 hb5 H5
   go_wp2_with (refine wpList_box2 boxy_note rfl rfl rfl (.tmp 8) (.tmp 16) rfl rfl cs (fun _ => rfl) (fun _ => rfl) CSL.out CS1.out H6.out ?_; intro b8 w6 h; have H7 := Lib.hid (h.drop 1); clear h)
   go_ret
   rw [HEE.out, <- HK.out]
   exact ⟨_, gs, HGM.out, rfl, H7.out⟩
  | some x =>
   obtain ⟨nt, u⟩ := x
   rw [hc] at CN hsc
   simp only at hsc
   obtain ⟨hu1, hu2⟩ := note1_size hc
   obtain ⟨hft, hd3⟩ := note1_fits hc
   rw [hdl] at hu2
   have HS2 : Hid (E = (E1 ++ [⟨⟨seg, i, u⟩, nt⟩]) ++ scanF seg f' (i + u) (L.drop (i + u))) := by
    show E = _
    rw [HEI.out, hsc, List.drop_drop, List.append_assoc]
    rfl
   unfold resN NoteDone at CN
   simp only [Option.getD_some] at CN
   obtain ⟨m, hm⟩ : ∃ m, m = nt.data.length := ⟨_, rfl⟩
   rw [<- hm] at CN
   have CN2 : Hid (Calls Tryz.prog 82 #[.slice ao n cap, .int .i64 (i : Int), .int .i64 (n : Int)] wr fun e w' => ∃ (cs : List Value) (ad : Option Addr) (cd : Nat), cs = Rec.ntC nt (.slice ad m cd) /\ e = .returned (.tuple #[.agg cs.toArray, .int .i64 (u : Int)]) /\ Given w' ad m cd nt.data /\ View w' (fun k => wr.heap.size <= k) ad nt.data /\ Below wr.heap.size wr w') := CN.mono fun e w' ⟨ad, cd, h1, h2, h3, h4⟩ => ⟨_, ad, cd, rfl, h1, h2, h3, h4⟩
   have HM := Lib.hid hm
   have SUM := Lib.hid hft.sum
   have hne : ((u : Int) == 0) = false := by simp; omega
   have hiu : i + u <= n := by omega
   clear CN hsc hc HEI hft hdl hm
   go_wp2_with (fail)
   refine CN2.out.mono ?_
   clear CN2
   rintro e w5 ⟨cs, ad, cd, hcs, rfl, hg5, hv5, hb5⟩
   have h6 := H5.out.adoptView hb5 hv5
   have H6 : Hid (Own.St w.heap.size w w5 [ARow 64 40 (.slice a7 k c7) k (entsC E1 gs), AGivens (gs ++ [(ad, cd, nt.data)])]) := by
    exact addGiven2 h6 (by rw [hg5.size]; exact hg5.room.1) hg5.room.2 hg5.nil
   have CSL : Hid (cs.length = 37) := by show _ = 37; rw [hcs]; exact Rec.ntC_len _ _ SUM.out
   have CS1 : Hid (∀ v ∈ cs, v.oneCell' = true) := by rw [hcs]; exact Rec.ntC_one rfl
   obtain ⟨ee, hee⟩ : ∃ c, c = entC ⟨⟨seg, i, u⟩, nt⟩ (gslV (ad, cd, nt.data)) := ⟨_, rfl⟩
   have hee2 : ee = .int .i64 seg :: .int .i64 (i : Int) :: .int .i64 (u : Int) :: cs := by rw [hee, hcs, HM.out]; rfl
   have EL : Hid (ee.length = 40) := by show _ = _; rw [hee2]; simp [CSL.out]
   have EO : Hid (∀ u ∈ ee, u.oneCell' = true) := by rw [hee]; exact entC_oneV
   have BE : Hid (Tryz.prog.built 64 [(0, .agg #[.int .i64 seg, .int .i64 (i : Int), .int .i64 (u : Int)]), (1, .agg cs.toArray)] = some ee.toArray) := by rw [hee2]; exact built_ent seg i u cs CSL.out
   have HSN : Hid (∀ wx, (Instr.buildSlice 60 1 #[(0, .agg ee.toArray)]).run Tryz.prog wx = .ok (.slice (some ⟨wx.heap.size, 0, none⟩) 1 1) (wx.alloc (.cells ee.toArray 64))) := fun wx => run_slot_one Tryz.underlying60 slot_ent ee EL.out wx
   have EL1 : Hid (ee.length = 1 * 40) := EL.out
   have HEE := Lib.hid hee
   have HGL : Hid (gs.length = E1.length) := by
    have := congrArg List.length HGM.out
    rw [List.length_map, List.length_map] at this
    exact this
   have GD := Lib.hid hg5.size
   clear hcs hee hee2 hg5 hv5 hb5 h6 H5
   go_wp2_with (first
    | (refine wpList_box2 boxy_note rfl rfl rfl (.tmp 8) (.tmp 16) rfl rfl cs (fun _ => rfl) (fun _ => rfl) CSL.out CS1.out H6.out ?_; intro b8 w6 h; have H7 := Lib.hid h; obtain ⟨bn, hbn⟩ : ∃ b, b = w6.heap.size := ⟨_, rfl⟩; have HBN := Lib.hid hbn; have h8 := h.boxV 64 ee; rw [<- hbn] at h8; have HC : Hid (∀ a', some (⟨bn, 0, none⟩ : Addr) = some a' -> ∀ j u, ee[j]? = some u -> (w6.alloc (.cells ee.toArray 64)).cell? (a'.add j) = some u) := (by intro a' ha' j u hu; cases ha'; rw [add_of, Nat.zero_add]; exact (h8.cellV 0 rfl j hu).1); have H8 := Lib.hid h8; clear h h8 hbn)
    | (refine wpList_val rfl (Rec.load_note cs CSL.out rfl _ (b := b8) (k := 0) (H7.out.boxRange 0 rfl) rfl) ?_)
    | (refine Own.wpList_built rfl 64 #[(0, .tmp 25), (1, .tmp 26)] rfl ee.toArray ?_ ?_; · (simp only [List.map_toArray, List.map_cons, List.map_nil, List.toList_toArray]; exact BE.out))
    | (refine wpList_slot_one rfl 60 (.tmp 27) rfl ee 64 rfl (HSN.out _) ?_; rw [<- HBN.out])
    | (at_builtin; refine wpList_many_append many_ent rfl (.tmp 21) (.tmp 28) rfl H8.out 2 rfl rfl (some ⟨bn, 0, none⟩) 1 1 ee rfl (by intro h; cases h) EL1.out HC.out EO.out (by omega) (by decide) ?_; intro a9 c9 w9 h9; simp only [List.set_cons_zero, List.set_cons_succ] at h9; have H9 := Lib.hid (h9.drop 2); clear h9))
   go_roundw
   case rel =>
    refine ⟨i + u, f', E1 ++ [⟨⟨seg, i, u⟩, nt⟩], gs ++ [(ad, cd, nt.data)], hiu, by go_num, by omega, ?_, HS2.out, ?_, ?_⟩
    · rw [List.length_append, List.length_singleton]; omega
    · rw [List.map_append, List.map_append, HGM.out]; rfl
    · rw [entsC_snoc _ _ HGL.out, <- HEE.out, List.length_append, List.length_singleton, <- HK.out]
      exact H9.out
   case measure => simp [intOf]; omega
end Lga
end Go.Proofs.YtahjjcmeocibbaaGreatDoor
end
section
namespace Go.Proofs.YtahjjcmeocibbaaGreatDoor
open Go.RowKit Go.Own
namespace Lga
open Go.LogM Byt
open Lg (gslV entC entsC i64L)
section
variable {B : Nat} {w0 w : World} {Ps : List Asn} {p pf pt fr : Nat} {σ : LG} {N : Nat}
def ScanD (B : Nat) (w0 : World) (p pf pt fr : Nat) (σ : LG) (Ps : List Asn) (X : (Nat × List Ent) × Nat) (e : Ending) (w' : World) : Prop := ∃ (v : Value) (gs : List GSl), gs.map (fun g => g.2.2) = X.1.2.map (fun e => e.note.data) /\ e = .returned (.tuple #[.int .u64 (X.1.1 : Int), v, errL X.2]) /\
 Own.St B w0 w' (ARow 64 40 v X.1.2.length (entsC X.1.2 gs) :: AGivens gs :: A p pf pt fr σ.fs.pp σ.tb σ.a :: Fla.AFl pf σ.fs :: Tba.A pt σ.tb :: Ps)
theorem scan_none {X : (Nat × List Ent) × Nat} {q k : Nat} (hX : X = ((q, []), k)) {w' : World} (H : LS B w0 w' p pf pt fr σ Ps) : ScanD B w0 p pf pt fr σ Ps X (.returned (.tuple #[.int .u64 (q : Int), .slice none 0 0, errL k])) w' := by
 subst hX
 exact ⟨_, [], rfl, rfl, (Own.St.givensNil H).rowFresh⟩
set_option maxRecDepth 6000 in
set_option maxHeartbeats 16000000 in
theorem scan_any (H : LS B w0 w p pf pt fr σ Ps) (hm : LgOk fr σ N) (hN : N <= 9000) (seg page : Int) (hs : i64L seg) (hp : i64L page) :
 Calls Tryz.prog 17 #[ptr p, .int .i64 seg, .int .i64 page] w (ScanD B w0 p pf pt fr σ Ps (scanL fr σ seg page)) := by
 obtain ⟨X, hX⟩ : ∃ X, X = scanL fr σ seg page := ⟨_, rfl⟩
 rw [<- hX]
 unfold scanL at hX
 obtain ⟨q, nx, hl, H1⟩ := A_to H
 have HLR := Lib.hid hl
 have HH := Lib.hid H1
 have CH := Lib.hid (hasSeg_any H1 hm.tb (by omega) seg)
 have HX := Lib.hid hX
 have HM := Lib.hid hm
 obtain ⟨pp, hpe⟩ : ∃ x, x = σ.fs.pp := ⟨_, rfl⟩
 have HPE := Lib.hid hpe
 clear hX H H1 hm hl hpe
 by_cases hb : hasB σ.tb seg = true
 · rw [hb] at CH
   unfold hasB at hb
   simp only [Bool.and_eq_true, decide_eq_true_eq] at hb
   obtain ⟨g, rfl⟩ : ∃ g : Nat, seg = (g : Int) := ⟨seg.toNat, by omega⟩
   have hgl : g < σ.tb.rows.length := by omega
   have hks : fr + g < σ.fs.safe.length := by have := HM.out.room; omega
   by_cases hp1 : page < 1
   · have HE : Hid (X = ((0, []), 1)) := by show X = _; rw [HX.out, if_pos (.inr (.inr (.inl hp1)))]
     clear HX hb
     go_enter Tryz.func17, Tryz.ntmps17
     go_wp2_with (fail)
     refine CH.out.mono ?_
     clear CH
     rintro e w1 ⟨rfl, hb1⟩
     have H2 := Lib.hid (HH.out.later hb1)
     clear hb1 HH
     go_wp2
     go_ret3
     exact scan_none HE.out (A_of HLR.out H2.out)
   obtain ⟨a, rfl⟩ : ∃ a : Nat, page = (a : Int) := ⟨page.toNat, by omega⟩
   have CG : Hid (∀ wx, S3 B w0 wx (AL p pf pt fr q nx) pf pt σ.fs σ.tb Ps -> Calls Tryz.prog 27 #[ptr pf] wx fun e w' => e = .returned (.int .i64 (pp : Int)) /\ Below wx.heap.size wx w') := fun wx h => by rw [HPE.out]; exact f_pages h
   by_cases hp2 : (a : Int) > (pp : Int)
   · have HE : Hid (X = ((0, []), 1)) := by show X = _; rw [HX.out, if_pos (.inr (.inr (.inr (by rw [<- HPE.out]; exact hp2))))]
     clear HX hb
     go_enter Tryz.func17, Tryz.ntmps17
     go_wp2_with (fail)
     refine CH.out.mono ?_
     clear CH
     rintro e w1 ⟨rfl, hb1⟩
     have H2 := Lib.hid (HH.out.later hb1)
     have c0 := (H2.out.cellV 0 rfl 0 rfl).1
     clear hb1 HH
     go_wp2_with (fail)
     refine (CG.out _ H2.out).mono ?_
     clear CG c0
     rintro e w2 ⟨rfl, hb2⟩
     have H3 := Lib.hid (H2.out.later hb2)
     clear hb2 H2
     go_wp2
     go_ret3
     exact scan_none HE.out (A_of HLR.out H3.out)
   have hX2 := HX.out
   rw [if_neg (by rw [<- HPE.out]; omega)] at hX2
   simp only [Int.toNat_natCast] at hX2
   have hpp := HM.out.fs.pp
   rw [<- HPE.out] at hpp
   obtain ⟨L, hL⟩ : ∃ L, L = segPages σ.fs (fr + g) := ⟨_, rfl⟩
   have hLl : L.length = pp := by rw [hL, HPE.out]; exact seg_len _ _
   have hL128 : ∀ x ∈ L, x.length <= 1000000 := by
    rw [hL]
    intro x hx
    unfold segPages at hx
    obtain ⟨j, hj, rfl⟩ := List.mem_map.1 hx
    rw [List.mem_range] at hj
    exact Nat.le_trans (Nat.le_of_eq (now_len HM.out.fs (fr + g) j hks hj)) (by decide)
   rw [<- hL, <- HPE.out] at hX2
   have CL : Hid (∀ wx, S3 B w0 wx (AL p pf pt fr q nx) pf pt σ.fs σ.tb Ps -> Calls Tryz.prog 43 #[ptr p, .int .i64 (g : Int)] wx fun e w' => LoadD σ.fs.off pp L e w' /\ S3 B w0 w' (AL p pf pt fr q nx) pf pt σ.fs σ.tb Ps) := fun wx h => by
    rw [HPE.out, hL]
    exact load_any h HM.out.fs (by omega) g (fr + g) rfl hks
   have HX2 := Lib.hid hX2
   have HLL := Lib.hid hLl
   have HL128 := Lib.hid hL128
   clear HX hX2 hb hL hLl hL128 HM
   go_enter Tryz.func17, Tryz.ntmps17
   go_wp2_with (fail)
   refine CH.out.mono ?_
   clear CH
   rintro e w1 ⟨rfl, hb1⟩
   have H2 := Lib.hid (HH.out.later hb1)
   have c0 := (H2.out.cellV 0 rfl 0 rfl).1
   clear hb1 HH
   go_wp2_with (fail)
   refine (CG.out _ H2.out).mono ?_
   clear CG c0
   rintro e w2 ⟨rfl, hb2⟩
   have H3 := Lib.hid (H2.out.later hb2)
   clear hb2 H2
   go_wp2_with (fail)
   refine (CL.out _ H3.out).mono ?_
   clear CL H3
   rintro e w3 ⟨hld, h3⟩
   have H4 := Lib.hid h3
   clear h3
   rcases hld with ⟨hoff, rfl⟩ | ⟨al, hoff, rfl, hgl⟩
   · have HE : Hid (X = ((0, []), 6)) := by show X = _; rw [HX2.out, if_pos hoff]
     clear HX2 hoff
     go_wp2
     go_ret3
     exact scan_none HE.out (A_of HLR.out H4.out)
   · have hX3 := HX2.out
     rw [if_neg (by rw [hoff]; decide)] at hX3
     obtain ⟨b0, o0, aj, cj, rfl, hblt, hcell, hgj⟩ := hgl.rows 0 (by omega)
     rw [Nat.add_zero] at hcell
     obtain ⟨pg0, hpg0⟩ : ∃ x, x = L.getD 0 [] := ⟨_, rfl⟩
     rw [<- hpg0] at hcell hgj hX3
     obtain ⟨n0, hn0⟩ : ∃ x, x = pg0.length := ⟨_, rfl⟩
     have hn0b : n0 <= 1000000 := by
      rw [hn0, hpg0, List.getD_eq_getElem?_getD, List.getElem?_eq_getElem (by rw [HLL.out]; omega)]
      exact HL128.out _ (List.getElem_mem _)
     rw [<- hn0] at hcell hgj
     have CQ := seqOf_any aj n0 cj pg0 w3 hgj hn0b
     obtain ⟨sq, hsq⟩ : ∃ x, x = headSeq pg0 := ⟨_, rfl⟩
     rw [<- hsq] at CQ hX3
     have CQ1 := Lib.hid CQ
     have HX3 := Lib.hid hX3
     have GL := Lib.hid hgl
     have hpp1 : (0 : Int) < (pp : Int) := by omega
     have hpp2 : 0 < pp := by omega
     clear HX2 hX3 CQ hsq hgj hpg0 hn0 hgl hoff
     go_wp2_with (fail)
     refine CQ1.out.mono ?_
     clear CQ1 hcell
     rintro e w4 ⟨rfl, hb4⟩
     have H5 := Lib.hid (H4.out.later hb4)
     have GL2 := Lib.hid (GL.out.later hb4)
     clear hb4 H4 GL
     by_cases hq0 : sq = 0
     · subst hq0
       have HE : Hid (X = ((0, []), 0)) := by show X = _; rw [HX3.out, if_pos rfl]
       clear HX3
       go_wp2
       go_ret3
       exact scan_none HE.out (A_of HLR.out H5.out)
     · have g1 : ((sq : Int) == 0) = false := by simp; omega
       have HE : Hid (X = ((sq, scanF (g : Int) (pp + 1) a (L.drop a)), 0)) := by show X = _; rw [HX3.out, if_neg hq0]
       have CE := Lib.hid (entries_any (g : Int) _ pp pp L a w4 GL2.out (by omega) HL128.out (by omega))
       obtain ⟨Y, hY⟩ : ∃ Y, Y = scanF (g : Int) (pp + 1) a (L.drop a) := ⟨_, rfl⟩
       rw [<- hY] at CE HE
       clear HX3 hY hq0
       go_wp2_with (fail)
       refine CE.out.mono ?_
       clear CE
       rintro e w5 ⟨v, gs, hgs, rfl, h5⟩
       have h6 := H5.out.adoptNew (Own.St.closeJ (Qs := [_, _]) h5)
       have H6 := Lib.hid h6.openJ
       have HGS := Lib.hid hgs
       clear h5 h6 hgs H5
       go_wp2
       go_ret3
       rw [HE.out]
       refine ⟨v, gs, HGS.out, rfl, ?_⟩
       have h7 := H6.out
       have h8 := h7.front 2 rfl
       simp only [List.eraseIdx_cons_succ, List.eraseIdx_cons_zero, List.cons_append, List.nil_append] at h8
       exact rot3' (A_of HLR.out h8 |> fun h => h.perm (List.Perm.refl _))
 · have hb' : hasB σ.tb seg = false := by simpa using hb
   rw [hb'] at CH
   have HE : Hid (X = ((0, []), 1)) := by
    show X = _
    unfold hasB at hb
    rw [HX.out, if_pos]
    simp only [Bool.and_eq_true, decide_eq_true_eq] at hb
    omega
   clear HX hb hb'
   go_enter Tryz.func17, Tryz.ntmps17
   go_wp2_with (fail)
   refine CH.out.mono ?_
   clear CH
   rintro e w1 ⟨rfl, hb1⟩
   have H2 := Lib.hid (HH.out.later hb1)
   clear hb1 HH
   go_wp2
   go_ret3
   exact scan_none HE.out (A_of HLR.out H2.out)
end
end Lga
end Go.Proofs.YtahjjcmeocibbaaGreatDoor
end
section
namespace Go.Proofs.YtahjjcmeocibbaaGreatDoor
open Go.RowKit Go.Own
namespace Lga
open Go.LogM Byt
open Lg (gslV entC entsC i64L mayL plcA)
section
variable {B : Nat} {w0 w : World} {Ps : List Asn} {p pf pt fr : Nat} {σ : LG} {N : Nat}
set_option maxHeartbeats 8000000 in
theorem new_any {fs : FlaM.FS} {tb : TabM.T} (H : Own.St B w0 w (Fla.AFl pf fs :: Tba.A pt tb :: Ps)) (okf : FlaM.Ok fs N) (okt : TabM.Ok tb N) (hN : N <= 9000) (f : Int) (hf : i64L f) :
 Calls Tryz.prog 7 #[ptr pf, .int .i64 f, ptr pt] w fun e w' => if mayL fs tb f = true then ∃ p, e = .returned (.tuple #[ptr p, errL 0]) /\ Own.St B w0 w' (A p pf pt f.toNat fs.pp tb fs.pp :: Fla.AFl pf fs :: Tba.A pt tb :: Ps) else e = .returned (.tuple #[.pointer none, errL 1]) /\ Own.St B w0 w' (Fla.AFl pf fs :: Tba.A pt tb :: Ps) := by
 have hss := okf.segs
 have hpp := okf.pp
 have hrl := okt.len
 obtain ⟨sl, hsl⟩ : ∃ x, x = fs.safe.length := ⟨_, rfl⟩
 obtain ⟨rl, hrl2⟩ : ∃ x, x = tb.rows.length := ⟨_, rfl⟩
 obtain ⟨pp, hpe⟩ : ∃ x, x = fs.pp := ⟨_, rfl⟩
 have HH := Lib.hid H
 have hm : mayL fs tb f = (decide (0 <= f) && decide (f + (rl : Int) <= (sl : Int)) && decide (2 <= pp)) := by rw [hsl, hrl2, hpe]; rfl
 have CS : Hid (∀ wx, Own.St B w0 wx (Fla.AFl pf fs :: Tba.A pt tb :: Ps) -> Calls Tryz.prog 25 #[ptr pf] wx fun e w' => e = .returned (.int .i64 (sl : Int)) /\ Below wx.heap.size wx w') := fun wx h => by rw [hsl]; exact Fla.segs_any h okf
 have CP : Hid (∀ wx, Own.St B w0 wx (Fla.AFl pf fs :: Tba.A pt tb :: Ps) -> Calls Tryz.prog 27 #[ptr pf] wx fun e w' => e = .returned (.int .i64 (pp : Int)) /\ Below wx.heap.size wx w') := fun wx h => by rw [hpe]; exact Fla.pages_any h
 have CR : Hid (∀ wx, Own.St B w0 wx (Fla.AFl pf fs :: Tba.A pt tb :: Ps) -> Calls Tryz.prog 26 #[ptr pt] wx fun e w' => ∃ ao c, e = .returned (.slice ao rl c) /\ Below wx.heap.size wx w') := fun wx h => by
  rw [hrl2]
  exact ((Tab.kept wx).rows (Below.refl _ _) h.swap2 okt (by omega)).mono fun e w' ⟨ao, c, h1, _, h3⟩ => ⟨ao, c, h1, h3⟩
 have HOT := Lib.hid okt
 rw [<- hsl] at hss
 rw [<- hpe] at hpp
 rw [<- hrl2] at hrl
 have HPE := Lib.hid hpe
 unfold i64L at hf
 by_cases h0 : f < 0
 · have hmf : mayL fs tb f = false := by rw [hm, decide_eq_false (by omega)]; rfl
   simp only [hmf, Bool.false_eq_true, if_false]
   clear H okf okt hsl hrl2 hpe hm hmf CS CP CR
   go_enter Tryz.func7, Tryz.ntmps7
   go_wp2
   go_ret2
   exact ⟨rfl, HH.out⟩
 by_cases h1 : f > (sl : Int) - (rl : Int)
 · have hmf : mayL fs tb f = false := by rw [hm, decide_eq_false (show ¬ f + (rl : Int) <= (sl : Int) by omega)]; simp
   simp only [hmf, Bool.false_eq_true, if_false]
   clear H okf okt hsl hrl2 hpe hm hmf CP
   go_enter Tryz.func7, Tryz.ntmps7
   go_wp2_with (fail)
   refine (CS.out _ HH.out).mono ?_
   rintro e w1 ⟨rfl, hb1⟩
   have H1 := Lib.hid (HH.out.later hb1)
   clear hb1 HH CS
   go_wp2_with (fail)
   refine (CR.out _ H1.out).mono ?_
   rintro e w2 ⟨ao, c, rfl, hb2⟩
   have H2 := Lib.hid (H1.out.later hb2)
   clear hb2 H1 CR
   go_wp2
   go_ret2
   exact ⟨rfl, H2.out⟩
 by_cases h2 : (pp : Int) < 2
 · have hmf : mayL fs tb f = false := by rw [hm, decide_eq_false (show ¬ 2 <= pp by omega)]; simp
   simp only [hmf, Bool.false_eq_true, if_false]
   clear H okf okt hsl hrl2 hpe hm hmf
   go_enter Tryz.func7, Tryz.ntmps7
   go_wp2_with (fail)
   refine (CS.out _ HH.out).mono ?_
   rintro e w1 ⟨rfl, hb1⟩
   have H1 := Lib.hid (HH.out.later hb1)
   clear hb1 HH CS
   go_wp2_with (fail)
   refine (CR.out _ H1.out).mono ?_
   rintro e w2 ⟨ao, c, rfl, hb2⟩
   have H2 := Lib.hid (H1.out.later hb2)
   clear hb2 H1 CR
   go_wp2_with (fail)
   refine (CP.out _ H2.out).mono ?_
   rintro e w3 ⟨rfl, hb3⟩
   have H3 := Lib.hid (H2.out.later hb3)
   clear hb3 H2 CP
   go_wp2
   go_ret2
   exact ⟨rfl, H3.out⟩
 · have hmt : mayL fs tb f = true := by rw [hm, decide_eq_true (show 0 <= f by omega), decide_eq_true (show f + (rl : Int) <= (sl : Int) by omega), decide_eq_true (show 2 <= pp by omega)]; rfl
   simp only [hmt, if_true]
   obtain ⟨k, rfl⟩ : ∃ k : Nat, f = (k : Int) := ⟨f.toNat, by omega⟩
   have hkk : Hid ((k : Int).toNat = k) := by show _ = _; omega
   clear H okf okt hsl hrl2 hpe hm hmt
   go_enter Tryz.func7, Tryz.ntmps7
   go_wp2_with (fail)
   refine (CS.out _ HH.out).mono ?_
   rintro e w1 ⟨rfl, hb1⟩
   have H1 := Lib.hid (HH.out.later hb1)
   clear hb1 HH CS
   go_wp2_with (fail)
   refine (CR.out _ H1.out).mono ?_
   rintro e w2 ⟨ao, c, rfl, hb2⟩
   have H2 := Lib.hid (H1.out.later hb2)
   clear hb2 H1 CR
   go_wp2_with (fail)
   refine (CP.out _ H2.out).mono ?_
   rintro e w3 ⟨rfl, hb3⟩
   have H3 := Lib.hid (H2.out.later hb3)
   clear hb3 H2
   go_wp2_with (fail)
   refine (CP.out _ H3.out).mono ?_
   rintro e w4 ⟨rfl, hb4⟩
   have h4 := H3.out.later hb4
   have h5 := h4.boxV 89 (lgC pf k pt 0 pp)
   have H5 := Lib.hid h5
   clear hb4 H3 CP h4 h5
   go_wp2
   go_ret2
   refine ⟨w4.heap.size, rfl, ?_⟩
   rw [hkk.out, <- HPE.out]
   exact A_of (lr_new HOT.out) H5.out
end
end Lga
namespace Lg
open Go.LogM Byt Lga
noncomputable def kept (W : World) : Kept W (Fla.kept W) (Tab.kept W) where
 A := Lga.A
 new fr _ H h1 h2 hN hf := new_any H h1 h2 hN fr hf
 append n ao len cap _ H hm hN f hl hb := append_any H hm hN n f ao len cap hl.given hb
 scan seg page _ H hm hN h1 h2 := scan_any H hm hN seg page h1 h2
end Lg
end Go.Proofs.YtahjjcmeocibbaaGreatDoor
end
section
namespace Go.Proofs.YtahjjcmeocibbaaGreatDoor
open Go.RowKit Go.Own
namespace Top
theorem in_chunks (a0 : Option Addr) (len0 cap0 : Nat) (l : List WrD) (cut : Int) (hcut : (Lit.int .i64 cut).wf = true) (a2 : Option Addr) (len2 cap2 : Nat) (fates : List Int) {w : World} (w0 : inSlice 3 inWr l w.heap.size w [.slice a0 len0 cap0]) (w2 : inSlice 1 (inInt .i64) fates w.heap.size w [.slice a2 len2 cap2]) (T : Kec.Tab w) : Calls Tryz.prog 3 #[.slice a0 len0 cap0, .int .i64 cut, .slice a2 len2 cap2] w (RetYes w) :=
 walk_chunks T (Lg.kept _) a0 len0 cap0 l cut (Fla.wf64 hcut) a2 len2 cap2 fates w0 w2
end Top
end Go.Proofs.YtahjjcmeocibbaaGreatDoor
end
