/- Merged: RedC RedD Bx PagW LgaB TabRd TabQ LgaC MatM MatR -/
import Derived.Deep.MidRow
import Derived.Lib.SlBytesConst
import Derived.BigQuiet
import Derived.BigRegion
import Derived.Deep.QuietTactic
import Derived.Lib.Hide
import Derived.OwnWalk
import Derived.Laws.StructEq
import Derived.Laws.BitsAllLaws
import Derived.WalkLawsBesides
import Derived.Test.YtllmogicmimjlaaDoorQ1
import Derived.Test.YtllmogicmimjlaaDoorQ2
import Derived.Test.YtllmogicmimjlaaDoorQ3
import Derived.Test.YtllmogicmimjlaaDoorQ4
set_option linter.unusedVariables false
section
namespace Go.Proofs.YtllmogicmimjlaaDoor
open Go.RowKit Go.Own
namespace Rec
open Go.RecM Byt
section
variable {B : Nat} {w0 w : World} {Ps : List Asn} {p : Nat} {xs : RecM.Bs}
theorem w_new (H : Own.St B w0 w Ps) : Calls Tryd.prog 19 #[.int .i64 400] w fun e w' => ∃ p, e = .returned (.pointer (some ⟨p, 0, none⟩)) ∧ Own.St B w0 w' (Cod.AW p ⟨400, [], 0⟩ :: Ps) :=
  Cod.newWriter_st H 400 (by decide)
theorem w_num (H : Own.St B w0 w (Cod.AW p ⟨400, xs, 0⟩ :: Ps)) (n k : Nat) (hk : k ≤ 8) {ys : RecM.Bs} (hy : ys = xs ++ RecM.le n k) (hl : ys.length ≤ 400) :
    Calls Tryd.prog 20 #[.pointer (some ⟨p, 0, none⟩), .int .u64 (n : Int), .int .i64 (k : Int)] w fun e w' => e = .returned (.tuple #[]) ∧ Own.St B w0 w' (Cod.AW p ⟨400, ys, 0⟩ :: Ps) := by
  have hlen : ys.length = xs.length + k := by rw [hy, List.length_append, RecM.le_len]
  have h := Cod.num_st H 0 rfl n (k : Int) (by show xs.length ≤ _; omega)
  rw [Cod.num_fits _ _ _ rfl hk (by show (k : Int) ≤ 400 - (xs.length : Int); omega), cod_le, ← hy] at h
  exact h
theorem w_raw (H : Own.St B w0 w (Cod.AW p ⟨400, xs, 0⟩ :: Ps)) {ao : Option Addr} {bs : RecM.Bs} {m : Nat} (cap : Nat) (hV : View w (fun k => k < B) ao bs) (hm : bs.length = m) {ys : RecM.Bs} (hy : ys = xs ++ bs) (hl : ys.length ≤ 400) :
    Calls Tryd.prog 22 #[.pointer (some ⟨p, 0, none⟩), .slice ao m cap] w fun e w' => e = .returned (.tuple #[]) ∧ Own.St B w0 w' (Cod.AW p ⟨400, ys, 0⟩ :: Ps) := by
  subst hm
  have hlen : ys.length = xs.length + bs.length := by rw [hy, List.length_append]
  have h := Cod.raw_st H 0 rfl cap hV (by omega) (by show xs.length ≤ _; omega)
  rw [Cod.lay_fits _ _ rfl (by show (bs.length : Int) ≤ 400 - (xs.length : Int); omega), ← hy] at h
  exact h
theorem w_blob (H : Own.St B w0 w (Cod.AW p ⟨400, xs, 0⟩ :: Ps)) {ao : Option Addr} {bs : RecM.Bs} {m : Nat} (cap : Nat) (hV : View w (fun k => k < B) ao bs) (hm : bs.length = m) {ys : RecM.Bs} (hy : ys = xs ++ (RecM.le m 2 ++ bs)) (hl : ys.length ≤ 400) :
    Calls Tryd.prog 23 #[.pointer (some ⟨p, 0, none⟩), .slice ao m cap] w fun e w' => e = .returned (.tuple #[]) ∧ Own.St B w0 w' (Cod.AW p ⟨400, ys, 0⟩ :: Ps) := by
  subst hm
  have hlen : ys.length = xs.length + (2 + bs.length) := by rw [hy, List.length_append, List.length_append, RecM.le_len]
  have h := Cod.blob_st H 0 rfl cap hV (by omega) (by show xs.length ≤ _; omega)
  rw [Cod.blob_fits _ _ rfl (by omega) (by show ((2 + bs.length : Nat) : Int) ≤ 400 - (xs.length : Int); omega), cod_le, ← hy] at h
  exact h
theorem w_out (H : Own.St B w0 w (Cod.AW p ⟨400, xs, 0⟩ :: Ps)) {m : Nat} (hm : xs.length = m) (hl : m ≤ 400) :
    Calls Tryd.prog 24 #[.pointer (some ⟨p, 0, none⟩)] w fun e w' => ∃ ao cap, e = .returned (.tuple #[.slice ao m cap, .int .i64 0]) ∧ Own.St B w0 w' (AB ao m cap xs :: Cod.AW p ⟨400, xs, 0⟩ :: Ps) :=
  Cod.out_st H 0 rfl hm (by omega)
end
theorem layDone_ok {x : RecM.Bs × Nat} {l : RecM.Bs} {m : Nat} (hx : x = (l, 0)) {w w1 w' : World} {ao : Option Addr} {cap : Nat} {Ps : List Asn} (hb : Below w.heap.size w w1) (h : Own.St w1.heap.size w1 w' (AB ao m cap l :: Ps)) : LayDone x w (.returned (.tuple #[.slice ao m cap, errN 0])) w' := by
  subst hx
  obtain rfl := (ab_len h 0 rfl).1
  exact ⟨ao, cap, rfl, given_own h 0 rfl, hb.trans (h.below.mono hb.size)⟩
theorem layDone_err {x : RecM.Bs × Nat} {k : Nat} (hx : x = ([], k)) {w w' : World} (h : Below w.heap.size w w') : LayDone x w (.returned (.tuple #[.slice none 0 0, errN k])) w' := by
  subst hx
  exact ⟨none, 0, rfl, ⟨.inl rfl, rfl, ⟨Nat.le_refl _, Nat.zero_le _⟩, fun _ => rfl⟩, h⟩

set_option maxRecDepth 6000 in
set_option maxHeartbeats 8000000 in
theorem lLay_any (n : Nte) (f : Fits n) (ao : Option Addr) (len cap : Nat) (w : World) (hg : Given w ao len cap n.data) (hb : len ≤ 1000000) :
    Calls Tryd.prog 8 #[.agg (ntC n (.slice ao len cap)).toArray] w (LayDone (lay n) w) := by
  obtain ⟨cs, hcs⟩ : ∃ cs, cs = ntC n (.slice ao len cap) := ⟨_, rfl⟩
  have hbox := (Own.St.start w).boxV 34 cs
  obtain ⟨w1, hw1⟩ : ∃ w1, w1 = w.alloc (.cells cs.toArray 34) := ⟨_, rfl⟩
  rw [← hw1] at hbox
  have NL : Hid (cs.length = 37) := by show cs.length = 37; rw [hcs]; exact ntC_len n _ f.sum
  have RN : Hid (w1.rangeAt w.heap.size 0 cs) := fun j v hv => by rw [Nat.zero_add]; exact (hbox.cellV 0 rfl j hv).1
  have NTO : Hid (∀ wx, Below w1.heap.size w1 wx → _) := fun wx hwx => nt_cells (hbox.later hwx) 0 rfl hcs f.sum
  have CR : Hid (Calls Tryd.prog 18 #[.agg cs.toArray] w1 fun e w' => e = .returned (.bool (right n)) ∧ Below w1.heap.size w1 w') := by
    rw [hcs]
    exact lRight_any n f.sum ao len cap hg.size hb w1
  have HB1 := Lib.hid hbox.below
  have GV : Hid (∀ wx, Below w1.heap.size w1 wx → View wx (fun k => k < w1.heap.size) ao n.data) := fun wx hwx => View.below ((hg.later hbox.below).view) hwx
  have KV : Hid (∀ wx, Below w1.heap.size w1 wx → View wx (fun k => k < w1.heap.size) (some ⟨w.heap.size, 3, none⟩) n.sum) := by
    intro wx hwx
    have hlt := (hbox.ltV 0 rfl).2
    refine .inr ⟨w.heap.size, 3, rfl, hlt, Nat.lt_of_lt_of_le hlt hwx.size, fun j hj => ?_⟩
    have hc := (hbox.later hwx).cellV 0 rfl (3 + j) (ntC_sum_at hcs f.sum j hj)
    exact hc.1
  have HS := Lib.hid f.sum
  have HDL := Lib.hid hg.size
  have b1 := f.addr
  have b2 := f.seq
  have b3 := f.kn
  have HW1 := Lib.hid hw1
  obtain ⟨X, hX⟩ : ∃ X, X = lay n := ⟨_, rfl⟩
  rw [← hX, ← hcs]
  have HX := Lib.hid hX
  obtain ⟨r, hr⟩ : ∃ r, r = right n := ⟨_, rfl⟩
  rw [← hr] at CR
  have HR := Lib.hid hr.symm
  clear hcs hbox hg hX hr hw1
  cases r
  · have HE : Hid (X = ([], 1)) := by
      show X = _
      rw [HX.out]; unfold lay; rw [HR.out]; rfl
    clear NTO GV KV
    go_enter Tryd.func8, Tryd.ntmps8
    go_wp2_with (refine wpList_val rfl (load_note cs NL.out rfl _ (b := w.heap.size) (k := 0) (by rw [← HW1.out]; exact RN.out) rfl) ?_)
    rw [← HW1.out]
    refine CR.out.mono ?_
    clear CR
    rintro e w2 ⟨rfl, h2⟩
    have H2 := Lib.hid (HB1.out.trans (h2.mono HB1.out.size))
    clear h2
    go_wp2_with (fail)
    go_ret2
    exact layDone_err HE.out H2.out
  have HL : Hid (X = (laid n, 0)) := by show X = _; rw [HX.out]; exact lay_of HR.out
  have hk := right_kind HR.out
  have hd3 := right_data HR.out
  rw [HDL.out] at hd3
  obtain ⟨ad, had⟩ : ∃ a, a = n.addr := ⟨_, rfl⟩
  obtain ⟨sq, hsq⟩ : ∃ a, a = n.seq := ⟨_, rfl⟩
  obtain ⟨kn, hkn⟩ : ∃ a, a = n.kn := ⟨_, rfl⟩
  rw [← had] at b1
  rw [← hsq] at b2
  rw [← hkn] at b3
  have HAD := Lib.hid had
  have HSQ := Lib.hid hsq
  have HKN := Lib.hid hkn
  clear had hsq hkn HX
  rcases hk with k0 | k0 | k0 | k0
  · have HKK : Hid ((n.kind.toNat : Int) = 1) := by show (n.kind.toNat : Int) = 1; rw [k0]; rfl
    have HF : Hid (∀ w, Calls Tryd.prog 21 #[.int .u8 1] w fun e w' => e = .returned (.int .u8 15) ∧ w = w') := fun w => fields_any 1 (by decide) w
    obtain ⟨x0, hx0⟩ : ∃ x, x = ([] : RecM.Bs) ++ RecM.le 1 1 := ⟨_, rfl⟩
    have hxl0 : x0.length = 1 := by rw [hx0]; simp only [List.length_append, RecM.le_len, List.length_nil]
    have HY0 := Lib.hid hx0
    have HZ0 : Hid (x0.length ≤ 400) := by show _ ≤ _; omega
    obtain ⟨x1, hx1⟩ : ∃ x, x = x0 ++ RecM.le ad 4 := ⟨_, rfl⟩
    have hxl1 : x1.length = 5 := by rw [hx1]; simp only [List.length_append, RecM.le_len, hxl0]
    have HY1 := Lib.hid hx1
    have HZ1 : Hid (x1.length ≤ 400) := by show _ ≤ _; omega
    obtain ⟨x2, hx2⟩ : ∃ x, x = x1 ++ RecM.le sq 8 := ⟨_, rfl⟩
    have hxl2 : x2.length = 13 := by rw [hx2]; simp only [List.length_append, RecM.le_len, hxl1]
    have HY2 := Lib.hid hx2
    have HZ2 : Hid (x2.length ≤ 400) := by show _ ≤ _; omega
    obtain ⟨x3, hx3⟩ : ∃ x, x = x2 ++ n.sum := ⟨_, rfl⟩
    have hxl3 : x3.length = 45 := by rw [hx3]; simp only [List.length_append, HS.out, hxl2]
    have HY3 := Lib.hid hx3
    have HZ3 : Hid (x3.length ≤ 400) := by show _ ≤ _; omega
    obtain ⟨x4, hx4⟩ : ∃ x, x = x3 ++ RecM.le kn 4 := ⟨_, rfl⟩
    have hxl4 : x4.length = 49 := by rw [hx4]; simp only [List.length_append, RecM.le_len, hxl3]
    have HY4 := Lib.hid hx4
    have HZ4 : Hid (x4.length ≤ 400) := by show _ ≤ _; omega
    obtain ⟨x5, hx5⟩ : ∃ x, x = x4 ++ (RecM.le len 2 ++ n.data) := ⟨_, rfl⟩
    have hxl5 : x5.length = 51 + len := by rw [hx5]; simp only [List.length_append, RecM.le_len, HDL.out, hxl4]; omega
    have HY5 := Lib.hid hx5
    have HZ5 : Hid (x5.length ≤ 400) := by show _ ≤ _; omega
    have HLD : Hid (laid n = x5) := by
      show laid n = x5
      rw [hx5, hx4, hx3, hx2, hx1, hx0]
      try rw [HAD.out]
      try rw [HSQ.out]
      try rw [← HDL.out]
      try rw [HKN.out]
      unfold laid
      rw [k0]
      simp [RecM.tail, RecM.le]
    have HXL := Lib.hid hxl5
    have HTOT : Hid (51 + len ≤ 400) := by show _ ≤ _; omega
    clear k0 hx0 hxl0 hx1 hxl1 hx2 hxl2 hx3 hxl3 hx4 hxl4 hx5 hxl5
    go_enter Tryd.func8, Tryd.ntmps8
    go_wp2_with (refine wpList_val rfl (load_note cs NL.out rfl _ (b := w.heap.size) (k := 0) (by rw [← HW1.out]; exact RN.out) rfl) ?_)
    rw [← HW1.out]
    refine CR.out.mono ?_
    clear CR
    rintro e w2 ⟨rfl, h2⟩
    have H2 := Lib.hid ((Own.St.start w1).later h2)
    clear h2
    go_wp2_with (fail)
    refine (w_new H2.out).mono ?_
    rintro e w3 ⟨p, rfl, h3⟩
    have nc := NTO.out _ h3.below
    rw [HKK.out, ← HAD.out, ← HSQ.out, ← HKN.out] at nc
    have d0 := nc.1
    have d1 := nc.2.1
    have d2 := nc.2.2.1
    have d35 := nc.2.2.2.1
    have d36 := nc.2.2.2.2.1
    clear nc
    have GW := Lib.hid (GV.out _ h3.below)
    have KW := Lib.hid (KV.out _ h3.below)
    have HH0 := Lib.hid h3
    clear h3
    go_wp2_with (fail)
    refine (w_num HH0.out 1 1 (by decide) HY0.out HZ0.out).mono ?_
    clear d0 d1 d2 d35 d36 GW KW
    rintro e w4 ⟨rfl, h4⟩
    have nc := NTO.out _ h4.below
    rw [HKK.out, ← HAD.out, ← HSQ.out, ← HKN.out] at nc
    have d0 := nc.1
    have d1 := nc.2.1
    have d2 := nc.2.2.1
    have d35 := nc.2.2.2.1
    have d36 := nc.2.2.2.2.1
    clear nc
    have GW := Lib.hid (GV.out _ h4.below)
    have KW := Lib.hid (KV.out _ h4.below)
    have HH1 := Lib.hid h4
    clear h4
    clear HH0
    go_wp2_with (fail)
    refine (HF.out _).mono ?_
    rintro e wf ⟨rfl, rfl⟩
    go_wp2_with (fail)
    refine (w_num HH1.out ad 4 (by decide) HY1.out HZ1.out).mono ?_
    clear d0 d1 d2 d35 d36 GW KW
    rintro e w5 ⟨rfl, h5⟩
    have nc := NTO.out _ h5.below
    rw [HKK.out, ← HAD.out, ← HSQ.out, ← HKN.out] at nc
    have d0 := nc.1
    have d1 := nc.2.1
    have d2 := nc.2.2.1
    have d35 := nc.2.2.2.1
    have d36 := nc.2.2.2.2.1
    clear nc
    have GW := Lib.hid (GV.out _ h5.below)
    have KW := Lib.hid (KV.out _ h5.below)
    have HH2 := Lib.hid h5
    clear h5
    clear HH1
    go_wp2_with (fail)
    refine (w_num HH2.out sq 8 (by decide) HY2.out HZ2.out).mono ?_
    clear d0 d1 d2 d35 d36 GW KW
    rintro e w6 ⟨rfl, h6⟩
    have nc := NTO.out _ h6.below
    rw [HKK.out, ← HAD.out, ← HSQ.out, ← HKN.out] at nc
    have d0 := nc.1
    have d1 := nc.2.1
    have d2 := nc.2.2.1
    have d35 := nc.2.2.2.1
    have d36 := nc.2.2.2.2.1
    clear nc
    have GW := Lib.hid (GV.out _ h6.below)
    have KW := Lib.hid (KV.out _ h6.below)
    have HH3 := Lib.hid h6
    clear h6
    clear HH2
    go_wp2_with (fail)
    refine (w_raw HH3.out 32 KW.out HS.out HY3.out HZ3.out).mono ?_
    clear d0 d1 d2 d35 d36 GW KW
    rintro e w7 ⟨rfl, h7⟩
    have nc := NTO.out _ h7.below
    rw [HKK.out, ← HAD.out, ← HSQ.out, ← HKN.out] at nc
    have d0 := nc.1
    have d1 := nc.2.1
    have d2 := nc.2.2.1
    have d35 := nc.2.2.2.1
    have d36 := nc.2.2.2.2.1
    clear nc
    have GW := Lib.hid (GV.out _ h7.below)
    have KW := Lib.hid (KV.out _ h7.below)
    have HH4 := Lib.hid h7
    clear h7
    clear HH3
    go_wp2_with (fail)
    refine (w_num HH4.out kn 4 (by decide) HY4.out HZ4.out).mono ?_
    clear d0 d1 d2 d35 d36 GW KW
    rintro e w8 ⟨rfl, h8⟩
    have nc := NTO.out _ h8.below
    rw [HKK.out, ← HAD.out, ← HSQ.out, ← HKN.out] at nc
    have d0 := nc.1
    have d1 := nc.2.1
    have d2 := nc.2.2.1
    have d35 := nc.2.2.2.1
    have d36 := nc.2.2.2.2.1
    clear nc
    have GW := Lib.hid (GV.out _ h8.below)
    have KW := Lib.hid (KV.out _ h8.below)
    have HH5 := Lib.hid h8
    clear h8
    clear HH4
    go_wp2_with (fail)
    refine (w_blob HH5.out cap GW.out HDL.out HY5.out HZ5.out).mono ?_
    clear d0 d1 d2 d35 d36 GW KW
    rintro e w9 ⟨rfl, h9⟩
    have nc := NTO.out _ h9.below
    rw [HKK.out, ← HAD.out, ← HSQ.out, ← HKN.out] at nc
    have d0 := nc.1
    have d1 := nc.2.1
    have d2 := nc.2.2.1
    have d35 := nc.2.2.2.1
    have d36 := nc.2.2.2.2.1
    clear nc
    have GW := Lib.hid (GV.out _ h9.below)
    have KW := Lib.hid (KV.out _ h9.below)
    have HH6 := Lib.hid h9
    clear h9
    clear HH5
    go_wp2_with (fail)
    refine (w_out HH6.out HXL.out HTOT.out).mono ?_
    clear d0 d1 d2 d35 d36 GW KW
    rintro e w30 ⟨a2, c2, rfl, h30⟩
    have H30 := Lib.hid h30
    clear h30
    go_wp2_with (fail)
    go_ret2
    refine layDone_ok (by rw [HL.out, HLD.out]) HB1.out H30.out
  · have HKK : Hid ((n.kind.toNat : Int) = 2) := by show (n.kind.toNat : Int) = 2; rw [k0]; rfl
    have HF : Hid (∀ w, Calls Tryd.prog 21 #[.int .u8 2] w fun e w' => e = .returned (.int .u8 3) ∧ w = w') := fun w => fields_any 2 (by decide) w
    obtain ⟨x0, hx0⟩ : ∃ x, x = ([] : RecM.Bs) ++ RecM.le 2 1 := ⟨_, rfl⟩
    have hxl0 : x0.length = 1 := by rw [hx0]; simp only [List.length_append, RecM.le_len, List.length_nil]
    have HY0 := Lib.hid hx0
    have HZ0 : Hid (x0.length ≤ 400) := by show _ ≤ _; omega
    obtain ⟨x1, hx1⟩ : ∃ x, x = x0 ++ RecM.le ad 4 := ⟨_, rfl⟩
    have hxl1 : x1.length = 5 := by rw [hx1]; simp only [List.length_append, RecM.le_len, hxl0]
    have HY1 := Lib.hid hx1
    have HZ1 : Hid (x1.length ≤ 400) := by show _ ≤ _; omega
    obtain ⟨x2, hx2⟩ : ∃ x, x = x1 ++ RecM.le sq 8 := ⟨_, rfl⟩
    have hxl2 : x2.length = 13 := by rw [hx2]; simp only [List.length_append, RecM.le_len, hxl1]
    have HY2 := Lib.hid hx2
    have HZ2 : Hid (x2.length ≤ 400) := by show _ ≤ _; omega
    have HLD : Hid (laid n = x2) := by
      show laid n = x2
      rw [hx2, hx1, hx0]
      try rw [HAD.out]
      try rw [HSQ.out]
      try rw [← HDL.out]
      try rw [HKN.out]
      unfold laid
      rw [k0]
      simp [RecM.le]
    have HXL := Lib.hid hxl2
    have HTOT : Hid (13 ≤ 400) := by show _ ≤ _; omega
    clear k0 hx0 hxl0 hx1 hxl1 hx2 hxl2
    go_enter Tryd.func8, Tryd.ntmps8
    go_wp2_with (refine wpList_val rfl (load_note cs NL.out rfl _ (b := w.heap.size) (k := 0) (by rw [← HW1.out]; exact RN.out) rfl) ?_)
    rw [← HW1.out]
    refine CR.out.mono ?_
    clear CR
    rintro e w2 ⟨rfl, h2⟩
    have H2 := Lib.hid ((Own.St.start w1).later h2)
    clear h2
    go_wp2_with (fail)
    refine (w_new H2.out).mono ?_
    rintro e w3 ⟨p, rfl, h3⟩
    have nc := NTO.out _ h3.below
    rw [HKK.out, ← HAD.out, ← HSQ.out, ← HKN.out] at nc
    have d0 := nc.1
    have d1 := nc.2.1
    have d2 := nc.2.2.1
    have d35 := nc.2.2.2.1
    have d36 := nc.2.2.2.2.1
    clear nc
    have GW := Lib.hid (GV.out _ h3.below)
    have KW := Lib.hid (KV.out _ h3.below)
    have HH0 := Lib.hid h3
    clear h3
    go_wp2_with (fail)
    refine (w_num HH0.out 2 1 (by decide) HY0.out HZ0.out).mono ?_
    clear d0 d1 d2 d35 d36 GW KW
    rintro e w4 ⟨rfl, h4⟩
    have nc := NTO.out _ h4.below
    rw [HKK.out, ← HAD.out, ← HSQ.out, ← HKN.out] at nc
    have d0 := nc.1
    have d1 := nc.2.1
    have d2 := nc.2.2.1
    have d35 := nc.2.2.2.1
    have d36 := nc.2.2.2.2.1
    clear nc
    have GW := Lib.hid (GV.out _ h4.below)
    have KW := Lib.hid (KV.out _ h4.below)
    have HH1 := Lib.hid h4
    clear h4
    clear HH0
    go_wp2_with (fail)
    refine (HF.out _).mono ?_
    rintro e wf ⟨rfl, rfl⟩
    go_wp2_with (fail)
    refine (w_num HH1.out ad 4 (by decide) HY1.out HZ1.out).mono ?_
    clear d0 d1 d2 d35 d36 GW KW
    rintro e w5 ⟨rfl, h5⟩
    have nc := NTO.out _ h5.below
    rw [HKK.out, ← HAD.out, ← HSQ.out, ← HKN.out] at nc
    have d0 := nc.1
    have d1 := nc.2.1
    have d2 := nc.2.2.1
    have d35 := nc.2.2.2.1
    have d36 := nc.2.2.2.2.1
    clear nc
    have GW := Lib.hid (GV.out _ h5.below)
    have KW := Lib.hid (KV.out _ h5.below)
    have HH2 := Lib.hid h5
    clear h5
    clear HH1
    go_wp2_with (fail)
    refine (w_num HH2.out sq 8 (by decide) HY2.out HZ2.out).mono ?_
    clear d0 d1 d2 d35 d36 GW KW
    rintro e w6 ⟨rfl, h6⟩
    have nc := NTO.out _ h6.below
    rw [HKK.out, ← HAD.out, ← HSQ.out, ← HKN.out] at nc
    have d0 := nc.1
    have d1 := nc.2.1
    have d2 := nc.2.2.1
    have d35 := nc.2.2.2.1
    have d36 := nc.2.2.2.2.1
    clear nc
    have GW := Lib.hid (GV.out _ h6.below)
    have KW := Lib.hid (KV.out _ h6.below)
    have HH3 := Lib.hid h6
    clear h6
    clear HH2
    go_wp2_with (fail)
    refine (w_out HH3.out HXL.out HTOT.out).mono ?_
    clear d0 d1 d2 d35 d36 GW KW
    rintro e w30 ⟨a2, c2, rfl, h30⟩
    have H30 := Lib.hid h30
    clear h30
    go_wp2_with (fail)
    go_ret2
    refine layDone_ok (by rw [HL.out, HLD.out]) HB1.out H30.out
  · have HKK : Hid ((n.kind.toNat : Int) = 3) := by show (n.kind.toNat : Int) = 3; rw [k0]; rfl
    have HF : Hid (∀ w, Calls Tryd.prog 21 #[.int .u8 3] w fun e w' => e = .returned (.int .u8 2) ∧ w = w') := fun w => fields_any 3 (by decide) w
    obtain ⟨x0, hx0⟩ : ∃ x, x = ([] : RecM.Bs) ++ RecM.le 3 1 := ⟨_, rfl⟩
    have hxl0 : x0.length = 1 := by rw [hx0]; simp only [List.length_append, RecM.le_len, List.length_nil]
    have HY0 := Lib.hid hx0
    have HZ0 : Hid (x0.length ≤ 400) := by show _ ≤ _; omega
    obtain ⟨x1, hx1⟩ : ∃ x, x = x0 ++ RecM.le sq 8 := ⟨_, rfl⟩
    have hxl1 : x1.length = 9 := by rw [hx1]; simp only [List.length_append, RecM.le_len, hxl0]
    have HY1 := Lib.hid hx1
    have HZ1 : Hid (x1.length ≤ 400) := by show _ ≤ _; omega
    have HLD : Hid (laid n = x1) := by
      show laid n = x1
      rw [hx1, hx0]
      try rw [HAD.out]
      try rw [HSQ.out]
      try rw [← HDL.out]
      try rw [HKN.out]
      unfold laid
      rw [k0]
      simp [RecM.le]
    have HXL := Lib.hid hxl1
    have HTOT : Hid (9 ≤ 400) := by show _ ≤ _; omega
    clear k0 hx0 hxl0 hx1 hxl1
    go_enter Tryd.func8, Tryd.ntmps8
    go_wp2_with (refine wpList_val rfl (load_note cs NL.out rfl _ (b := w.heap.size) (k := 0) (by rw [← HW1.out]; exact RN.out) rfl) ?_)
    rw [← HW1.out]
    refine CR.out.mono ?_
    clear CR
    rintro e w2 ⟨rfl, h2⟩
    have H2 := Lib.hid ((Own.St.start w1).later h2)
    clear h2
    go_wp2_with (fail)
    refine (w_new H2.out).mono ?_
    rintro e w3 ⟨p, rfl, h3⟩
    have nc := NTO.out _ h3.below
    rw [HKK.out, ← HAD.out, ← HSQ.out, ← HKN.out] at nc
    have d0 := nc.1
    have d1 := nc.2.1
    have d2 := nc.2.2.1
    have d35 := nc.2.2.2.1
    have d36 := nc.2.2.2.2.1
    clear nc
    have GW := Lib.hid (GV.out _ h3.below)
    have KW := Lib.hid (KV.out _ h3.below)
    have HH0 := Lib.hid h3
    clear h3
    go_wp2_with (fail)
    refine (w_num HH0.out 3 1 (by decide) HY0.out HZ0.out).mono ?_
    clear d0 d1 d2 d35 d36 GW KW
    rintro e w4 ⟨rfl, h4⟩
    have nc := NTO.out _ h4.below
    rw [HKK.out, ← HAD.out, ← HSQ.out, ← HKN.out] at nc
    have d0 := nc.1
    have d1 := nc.2.1
    have d2 := nc.2.2.1
    have d35 := nc.2.2.2.1
    have d36 := nc.2.2.2.2.1
    clear nc
    have GW := Lib.hid (GV.out _ h4.below)
    have KW := Lib.hid (KV.out _ h4.below)
    have HH1 := Lib.hid h4
    clear h4
    clear HH0
    go_wp2_with (fail)
    refine (HF.out _).mono ?_
    rintro e wf ⟨rfl, rfl⟩
    go_wp2_with (fail)
    refine (w_num HH1.out sq 8 (by decide) HY1.out HZ1.out).mono ?_
    clear d0 d1 d2 d35 d36 GW KW
    rintro e w5 ⟨rfl, h5⟩
    have nc := NTO.out _ h5.below
    rw [HKK.out, ← HAD.out, ← HSQ.out, ← HKN.out] at nc
    have d0 := nc.1
    have d1 := nc.2.1
    have d2 := nc.2.2.1
    have d35 := nc.2.2.2.1
    have d36 := nc.2.2.2.2.1
    clear nc
    have GW := Lib.hid (GV.out _ h5.below)
    have KW := Lib.hid (KV.out _ h5.below)
    have HH2 := Lib.hid h5
    clear h5
    clear HH1
    go_wp2_with (fail)
    refine (w_out HH2.out HXL.out HTOT.out).mono ?_
    clear d0 d1 d2 d35 d36 GW KW
    rintro e w30 ⟨a2, c2, rfl, h30⟩
    have H30 := Lib.hid h30
    clear h30
    go_wp2_with (fail)
    go_ret2
    refine layDone_ok (by rw [HL.out, HLD.out]) HB1.out H30.out
  · have HKK : Hid ((n.kind.toNat : Int) = 4) := by show (n.kind.toNat : Int) = 4; rw [k0]; rfl
    have HF : Hid (∀ w, Calls Tryd.prog 21 #[.int .u8 4] w fun e w' => e = .returned (.int .u8 12) ∧ w = w') := fun w => fields_any 4 (by decide) w
    obtain ⟨x0, hx0⟩ : ∃ x, x = ([] : RecM.Bs) ++ RecM.le 4 1 := ⟨_, rfl⟩
    have hxl0 : x0.length = 1 := by rw [hx0]; simp only [List.length_append, RecM.le_len, List.length_nil]
    have HY0 := Lib.hid hx0
    have HZ0 : Hid (x0.length ≤ 400) := by show _ ≤ _; omega
    obtain ⟨x1, hx1⟩ : ∃ x, x = x0 ++ n.sum := ⟨_, rfl⟩
    have hxl1 : x1.length = 33 := by rw [hx1]; simp only [List.length_append, HS.out, hxl0]
    have HY1 := Lib.hid hx1
    have HZ1 : Hid (x1.length ≤ 400) := by show _ ≤ _; omega
    obtain ⟨x2, hx2⟩ : ∃ x, x = x1 ++ RecM.le kn 4 := ⟨_, rfl⟩
    have hxl2 : x2.length = 37 := by rw [hx2]; simp only [List.length_append, RecM.le_len, hxl1]
    have HY2 := Lib.hid hx2
    have HZ2 : Hid (x2.length ≤ 400) := by show _ ≤ _; omega
    obtain ⟨x3, hx3⟩ : ∃ x, x = x2 ++ (RecM.le len 2 ++ n.data) := ⟨_, rfl⟩
    have hxl3 : x3.length = 39 + len := by rw [hx3]; simp only [List.length_append, RecM.le_len, HDL.out, hxl2]; omega
    have HY3 := Lib.hid hx3
    have HZ3 : Hid (x3.length ≤ 400) := by show _ ≤ _; omega
    have HLD : Hid (laid n = x3) := by
      show laid n = x3
      rw [hx3, hx2, hx1, hx0]
      try rw [HAD.out]
      try rw [HSQ.out]
      try rw [← HDL.out]
      try rw [HKN.out]
      unfold laid
      rw [k0]
      simp [RecM.tail, RecM.le]
    have HXL := Lib.hid hxl3
    have HTOT : Hid (39 + len ≤ 400) := by show _ ≤ _; omega
    clear k0 hx0 hxl0 hx1 hxl1 hx2 hxl2 hx3 hxl3
    go_enter Tryd.func8, Tryd.ntmps8
    go_wp2_with (refine wpList_val rfl (load_note cs NL.out rfl _ (b := w.heap.size) (k := 0) (by rw [← HW1.out]; exact RN.out) rfl) ?_)
    rw [← HW1.out]
    refine CR.out.mono ?_
    clear CR
    rintro e w2 ⟨rfl, h2⟩
    have H2 := Lib.hid ((Own.St.start w1).later h2)
    clear h2
    go_wp2_with (fail)
    refine (w_new H2.out).mono ?_
    rintro e w3 ⟨p, rfl, h3⟩
    have nc := NTO.out _ h3.below
    rw [HKK.out, ← HAD.out, ← HSQ.out, ← HKN.out] at nc
    have d0 := nc.1
    have d1 := nc.2.1
    have d2 := nc.2.2.1
    have d35 := nc.2.2.2.1
    have d36 := nc.2.2.2.2.1
    clear nc
    have GW := Lib.hid (GV.out _ h3.below)
    have KW := Lib.hid (KV.out _ h3.below)
    have HH0 := Lib.hid h3
    clear h3
    go_wp2_with (fail)
    refine (w_num HH0.out 4 1 (by decide) HY0.out HZ0.out).mono ?_
    clear d0 d1 d2 d35 d36 GW KW
    rintro e w4 ⟨rfl, h4⟩
    have nc := NTO.out _ h4.below
    rw [HKK.out, ← HAD.out, ← HSQ.out, ← HKN.out] at nc
    have d0 := nc.1
    have d1 := nc.2.1
    have d2 := nc.2.2.1
    have d35 := nc.2.2.2.1
    have d36 := nc.2.2.2.2.1
    clear nc
    have GW := Lib.hid (GV.out _ h4.below)
    have KW := Lib.hid (KV.out _ h4.below)
    have HH1 := Lib.hid h4
    clear h4
    clear HH0
    go_wp2_with (fail)
    refine (HF.out _).mono ?_
    rintro e wf ⟨rfl, rfl⟩
    go_wp2_with (fail)
    refine (w_raw HH1.out 32 KW.out HS.out HY1.out HZ1.out).mono ?_
    clear d0 d1 d2 d35 d36 GW KW
    rintro e w5 ⟨rfl, h5⟩
    have nc := NTO.out _ h5.below
    rw [HKK.out, ← HAD.out, ← HSQ.out, ← HKN.out] at nc
    have d0 := nc.1
    have d1 := nc.2.1
    have d2 := nc.2.2.1
    have d35 := nc.2.2.2.1
    have d36 := nc.2.2.2.2.1
    clear nc
    have GW := Lib.hid (GV.out _ h5.below)
    have KW := Lib.hid (KV.out _ h5.below)
    have HH2 := Lib.hid h5
    clear h5
    clear HH1
    go_wp2_with (fail)
    refine (w_num HH2.out kn 4 (by decide) HY2.out HZ2.out).mono ?_
    clear d0 d1 d2 d35 d36 GW KW
    rintro e w6 ⟨rfl, h6⟩
    have nc := NTO.out _ h6.below
    rw [HKK.out, ← HAD.out, ← HSQ.out, ← HKN.out] at nc
    have d0 := nc.1
    have d1 := nc.2.1
    have d2 := nc.2.2.1
    have d35 := nc.2.2.2.1
    have d36 := nc.2.2.2.2.1
    clear nc
    have GW := Lib.hid (GV.out _ h6.below)
    have KW := Lib.hid (KV.out _ h6.below)
    have HH3 := Lib.hid h6
    clear h6
    clear HH2
    go_wp2_with (fail)
    refine (w_blob HH3.out cap GW.out HDL.out HY3.out HZ3.out).mono ?_
    clear d0 d1 d2 d35 d36 GW KW
    rintro e w7 ⟨rfl, h7⟩
    have nc := NTO.out _ h7.below
    rw [HKK.out, ← HAD.out, ← HSQ.out, ← HKN.out] at nc
    have d0 := nc.1
    have d1 := nc.2.1
    have d2 := nc.2.2.1
    have d35 := nc.2.2.2.1
    have d36 := nc.2.2.2.2.1
    clear nc
    have GW := Lib.hid (GV.out _ h7.below)
    have KW := Lib.hid (KV.out _ h7.below)
    have HH4 := Lib.hid h7
    clear h7
    clear HH3
    go_wp2_with (fail)
    refine (w_out HH4.out HXL.out HTOT.out).mono ?_
    clear d0 d1 d2 d35 d36 GW KW
    rintro e w30 ⟨a2, c2, rfl, h30⟩
    have H30 := Lib.hid h30
    clear h30
    go_wp2_with (fail)
    go_ret2
    refine layDone_ok (by rw [HL.out, HLD.out]) HB1.out H30.out

set_option maxHeartbeats 1600000 in
theorem lPages_any (n : Nte) (f : Fits n) (ao : Option Addr) (len cap : Nat) (w : World) (hg : Given w ao len cap n.data) (hb : len ≤ 1000000) :
    Calls Tryd.prog 10 #[ntV n (.slice ao len cap)] w fun e w' => e = .returned (.int .i64 (pagesN n : Int)) ∧ Below w.heap.size w w' := by
  obtain ⟨cs, hcs⟩ : ∃ cs, cs = ntC n (.slice ao len cap) := ⟨_, rfl⟩
  show Calls Tryd.prog _ #[.agg (ntC n (.slice ao len cap)).toArray] w _
  rw [← hcs]
  obtain ⟨w1, hw1⟩ : ∃ w1, w1 = w.alloc (.cells cs.toArray 34) := ⟨_, rfl⟩
  have hbox := (Own.St.start w).boxV 34 cs
  rw [← hw1] at hbox
  have NL : Hid (cs.length = 37) := by show cs.length = 37; rw [hcs]; exact ntC_len n _ f.sum
  have RN : Hid (w1.rangeAt w.heap.size 0 cs) := fun j v hv => by rw [Nat.zero_add]; exact (hbox.cellV 0 rfl j hv).1
  have CL : Hid (Calls Tryd.prog 8 #[.agg cs.toArray] w1 (LayDone (lay n) w1)) := by
    rw [hcs]
    exact lLay_any n f ao len cap w1 (hg.later hbox.below) hb
  have HB1 := Lib.hid hbox.below
  have HW1 := Lib.hid hw1
  obtain ⟨L, hL⟩ : ∃ L, L = (lay n).1.length := ⟨_, rfl⟩
  obtain ⟨E, hE⟩ : ∃ E, E = (lay n).2 := ⟨_, rfl⟩
  have hP : pagesN n = (L + 124) / 125 := by
    rw [hL]
    unfold pagesN lay
    cases hr : right n
    · simp
    · simp
  have hs : L ≤ 351 := by
    rw [hL]
    unfold lay
    cases hr : right n
    · exact Nat.zero_le _
    · exact (laid_small f hr).1
  obtain ⟨P, hPP⟩ : ∃ P, P = pagesN n := ⟨_, rfl⟩
  rw [← hPP] at hP ⊢
  have HL := Lib.hid hL
  have HE := Lib.hid hE
  clear hcs hw1 hbox hg hL hPP hE
  go_enter Tryd.func10, Tryd.ntmps10
  go_wp2_with (refine wpList_val rfl (load_note cs NL.out rfl _ (b := w.heap.size) (k := 0) (by rw [← HW1.out]; exact RN.out) rfl) ?_)
  rw [← HW1.out]
  refine CL.out.mono ?_
  clear CL
  rintro e w2 ⟨a2, c2, rfl, h2, h3⟩
  rw [← HL.out, ← HE.out]
  have HB := Lib.hid (HB1.out.trans (h3.mono HB1.out.size))
  clear h2 h3
  have e1 : IntKind.i64.wrap ((L : Int) + 125) = (L : Int) + 125 := IntWalk.i64_in _ (by omega)
  have e2 : IntKind.i64.wrap ((L : Int) + 125 - 1) = (L : Int) + 125 - 1 := IntWalk.i64_in _ (by omega)
  have e3 : ((L : Int) + 125 - 1).tdiv 125 = (P : Int) := by rw [hP, Int.tdiv_eq_ediv_of_nonneg (by omega)]; omega
  have e4 : IntKind.i64.wrap (P : Int) = (P : Int) := IntWalk.i64_in _ (by omega)
  go_wp2_with (fail)
  go_ret
  refine ⟨?_, HB.out⟩
  show Ending.returned (.int .i64 (((L : Int) + 124) / 125)) = _
  rw [show ((L : Int) + 124) / 125 = (P : Int) by omega]
end Rec
end Go.Proofs.YtllmogicmimjlaaDoor

end
section
namespace Go.Proofs.YtllmogicmimjlaaDoor
open Go.RowKit Go.Own
namespace Rec
open Go.RecM Byt
open Cod (RS)
theorem num_less (r : RS) (k : Int) : (r.num k).2.l.length ≤ r.l.length := by
  obtain ⟨l, e⟩ := r
  unfold RS.num
  (repeat' split) <;> simp
theorem raw_less (r : RS) (k : Int) : (r.raw k).2.l.length ≤ r.l.length := by
  obtain ⟨l, e⟩ := r
  unfold RS.raw
  (repeat' split) <;> simp
theorem blob_less (r : RS) (k : Int) : (r.blob k).2.l.length ≤ r.l.length := by
  obtain ⟨l, e⟩ := r
  unfold RS.blob
  (repeat' split) <;> simp <;> omega
/-- the objects of Take: the reader, the note, the answer -/
abbrev TR (q : Nat) (r : RS) (b5 : Nat) (n : Nte) (v : Value) (b2 : Nat) (z : List Value) (Ps : List Asn) : List Asn := Cod.AR q r :: AVals b5 34 (ntC n v) :: AVals b2 34 z :: Ps
/-- copy onto a part of cells of one's own, as one step of a region that draws -/
theorem step_vals_copy {ops : Array Oper} {o : Oper} {a : Act} {w : World} {K : Act → World → Prop} {Q : Exit → Act → World → Prop} {E : Prop} {B : Nat} {w0 : World} {Ps : List Asn} (hgd : o.guard = none) (d s : Operand)
    (ho : o.op = .call { callee := .builtin .copy, args := #[d, s], argTypes := #[22, 22] }) (H : Own.St B w0 w Ps) (i : Nat) {b : Nat} {t : TypeId} {vs : List Value} (hi : Ps[i]? = some (AVals b t vs)) (k nn cc : Nat) (hd : a.eval d = .slice (some ⟨b, k, none⟩) nn cc)
    (bo : Option Addr) (m c : Nat) (news : List UInt8) (hx : a.eval s = .slice bo m c) (hl : news.length = m) (hmn : m ≤ nn) (hkl : k + nn ≤ vs.length) (hno : bo = none → m = 0)
    (hc : ∀ a, bo = some a → ∀ j u, (news.map byteV)[j]? = some u → w.cell? (a.add j) = some u)
    (h : ∀ w', Own.St B w0 w' (Ps.set i (AVals b t (vs.take k ++ news.map byteV ++ vs.drop (k + m)))) → K (a.put o.dst (goInt m)) w') :
    if Region.wanted o (yielded ops a.tmps) = true then Oper.wp Tryd.prog o a w K Q else E := by
  have hw : Region.wanted o (yielded ops a.tmps) = true := by simp [Region.wanted, hgd]
  rw [if_pos hw]
  have hset := Own.St.setMid i (news.map byteV) k w Ps vs H hi (by simp; omega)
  rw [List.length_map, hl] at hset
  have hcells : ∀ j, j < (news.map byteV).length → (w.cell? ⟨b, k + j, none⟩).isSome = true ∧ w.frozen? ⟨b, k + j, none⟩ = false := by
    intro j hj
    rw [List.length_map] at hj
    obtain ⟨h1, h2⟩ := H.cellV i hi (k + j) (v := vs[k + j]'(by omega)) (List.getElem?_eq_getElem (by omega))
    exact ⟨by rw [h1]; rfl, h2⟩
  have hrun : (Builtin.copy_ #[22, 22] o.type #[.slice (some ⟨b, k, none⟩) nn cc, .slice bo m c]).run Tryd.prog w = .ok (goInt m) (w.setCells b k (news.map byteV)) := by
    cases bo with
    | none =>
      have hm := hno rfl
      subst hm
      obtain rfl : news = [] := List.eq_nil_of_length_eq_zero hl
      exact run_copy_none (P := Tryd.prog) w 22 22 o.type 5 _ none nn cc 0 c Tryd.underlying22 info8 (Nat.min_eq_left (Nat.zero_le _))
    | some ad =>
      have := run_copy_cells (P := Tryd.prog) w 22 22 o.type 5 b k nn cc ad m c (news.map byteV) Tryd.underlying22 info8 (by rw [List.length_map, hl]; exact (Nat.min_eq_left hmn).symm) (hc ad rfl) (fun j hj => (hcells j hj).1) (fun j hj => (hcells j hj).2) (byteV_one _)
      rw [List.length_map, hl] at this
      exact this
  unfold Oper.wp
  simp [execOp, ho, resolve, invoke, builtin, hd, hx, hrun, Result.andThen]
  exact h _ hset
/-- a fingerprint, or nothing, is copied into a note -/
theorem ntC_copy (n : Nte) (v : Value) (hz : n.sum = zsum) (xs : RecM.Bs) (m : Nat) (hm : xs.length = m) (h : m = 0 ∨ m = 32) : (ntC n v).take 3 ++ xs.map byteV ++ (ntC n v).drop (3 + m) = ntC { n with sum := pad xs } v := by
  rcases h with rfl | rfl
  · obtain rfl : xs = [] := List.eq_nil_of_length_eq_zero hm
    have e : pad [] = n.sum := by rw [hz]; rfl
    rw [e, List.map_nil, List.append_nil, Nat.add_zero, List.take_append_drop]
  · rw [pad_id hm]
    unfold ntC keyC
    rw [Nat.add_comm 3]
    show _ :: _ :: _ :: (xs.map byteV ++ ((n.sum.map byteV ++ [Value.int .u32 (n.kn : Int)]) ++ [v]).drop 32) = _
    rw [List.append_assoc (n.sum.map byteV), List.drop_append_of_le_length (by rw [hz]; simp [zsum]), List.drop_of_length_le (by rw [hz]; simp [zsum]), List.nil_append, List.append_assoc]
theorem takeNew_err {X : Nte × Nat} (hX : X = (zeroN, 100)) {w w' : World} (h : Below w.heap.size w w') {z : List Value} (hz : z = ntC zeroN nilV) : TakeNew X w (.returned (.tuple #[.agg z.toArray, .int .i64 100])) w' := by
  subst hX hz
  exact ⟨none, 0, rfl, ⟨.inl rfl, rfl, ⟨Nat.le_refl _, Nat.zero_le _⟩, fun _ => rfl⟩, .inl rfl, h⟩
theorem takeNew_none {X : Nte × Nat} {N : Nte} (hX : X = (N, 0)) (hd : N.data = []) {w w' : World} (h : Below w.heap.size w w') {c : List Value} (hc : c = ntC N nilV) : TakeNew X w (.returned (.tuple #[.agg c.toArray, .int .i64 0])) w' := by
  subst hX hc
  refine ⟨none, 0, ?_, ⟨by rw [hd]; exact .inl rfl, rfl, ⟨by rw [hd]; exact Nat.le_refl _, Nat.zero_le _⟩, fun _ => rfl⟩, by rw [hd]; exact .inl rfl, h⟩
  rw [hd]
  rfl
theorem takeNew_some {X : Nte × Nat} {N : Nte} (hX : X = (N, 0)) {ys : RecM.Bs} (hd : N.data = ys) {w w' : World} {ao : Option Addr} {l cap : Nat} (hl : ys.length = l) {Ps : List Asn} (h : Own.St w.heap.size w w' Ps) (i : Nat) (hi : Ps[i]? = some (AB ao l cap ys)) {c : List Value} (hc : c = ntC N (.slice ao l cap)) : TakeNew X w (.returned (.tuple #[.agg c.toArray, .int .i64 0])) w' := by
  subst hX hc hd hl
  exact ⟨ao, cap, rfl, given_own h i hi, ab_view h i hi, h.below⟩

set_option maxRecDepth 6000 in
set_option maxHeartbeats 16000000 in
theorem lTake_any (ao : Option Addr) (n cap : Nat) (p : RecM.Bs) (w : World) (hg : Given w ao n cap p) (hb : n ≤ 1000000) :
    Calls Tryd.prog 12 #[.slice ao n cap] w (TakeNew (RecM.take p) w) := by
  have H := Own.St.start w
  have hn := hg.size
  have hv := hg.view
  obtain ⟨X, hX⟩ : ∃ X, X = RecM.take p := ⟨_, rfl⟩
  rw [← hX]
  rw [take_parse] at hX
  have HX := Lib.hid hX
  obtain ⟨z, hz⟩ : ∃ z, z = ntC zeroN nilV := ⟨_, rfl⟩
  have HZ2 : Hid ((Tryd.prog.info? 34).bind (·.zero) = some (.agg z.toArray)) := by rw [hz]; exact zero_note
  have HZ0 : Hid (Tryd.prog.built 34 [] = some z.toArray) := by rw [hz]; exact built_note0
  have HZL : Hid (z.length = 37) := by show z.length = 37; rw [hz]; rfl
  have HZ := Lib.hid hz
  obtain ⟨b2, hb2⟩ : ∃ b, b = w.heap.size := ⟨_, rfl⟩
  obtain ⟨W1, hW1⟩ : ∃ W, W = w.alloc (.cells z.toArray 34) := ⟨_, rfl⟩
  have h1 : Own.St w.heap.size w W1 [AVals b2 34 z] := by rw [hb2, hW1]; exact H.boxV _ _
  have NR : Hid (Calls Tryd.prog 27 #[.slice ao n cap] W1 fun e w' => ∃ q, e = .returned (.pointer (some ⟨q, 0, none⟩)) ∧ Own.St w.heap.size w w' (Cod.AR q ⟨p, 0⟩ :: [AVals b2 34 z])) := by
    have h := Cod.newReader_old h1 (ao := ao) (l := p) cap (hv.below h1.below) (by omega)
    rw [hn] at h
    exact h
  obtain ⟨x1, r1, hr1⟩ : ∃ x y, RS.num ⟨p, 0⟩ 1 = (x, y) := ⟨_, _, rfl⟩
  have HR1 := Lib.hid hr1
  have hl0 : (⟨p, 0⟩ : RS).l.length ≤ 1000000 := by show p.length ≤ _; omega
  have hl1 : r1.l.length ≤ 1000000 := by have := num_less ⟨p, 0⟩ 1; rw [hr1] at this; exact Nat.le_trans this hl0
  have HL0 : Hid (p.length ≤ 1000000000) := by show _ ≤ _; omega
  have HL1 : Hid (r1.l.length ≤ 1000000000) := by show _ ≤ _; omega
  have hx1 : x1 < 256 := by
    have := num_bound ⟨p, 0⟩ 1 (by decide)
    rw [show ((1 : Nat) : Int) = 1 from rfl, hr1] at this
    exact this
  obtain ⟨c, hcc⟩ : ∃ c : UInt8, x1 = c.toNat := ⟨UInt8.ofNat x1, by simp; omega⟩
  subst hcc
  obtain ⟨cs, hcs⟩ : ∃ cs, cs = ntC { zeroN with kind := c } nilV := ⟨_, rfl⟩
  have BE : Hid (Tryd.prog.built 34 [(0, .int .u8 (c.toNat : Int))] = some cs.toArray) := by rw [hcs]; exact built_note c.toNat
  have HCS := Lib.hid hcs
  have HB2 := Lib.hid hb2
  have HW1 := Lib.hid hW1
  have HSZ : Hid (zsum.length = 32) := by show _ = _; simp [zsum]
  clear hX hz hb2 hW1 h1 hr1 hcs H hv hl0
  go_enter Tryd.func12, Tryd.ntmps12
  go_wp2_with (refine Own.wpList_allocZ rfl 34 rfl z.toArray HZ2.out ?_; rw [← HB2.out, ← HW1.out])
  refine NR.out.mono ?_
  clear NR
  rintro e w2 ⟨q, rfl, h2⟩
  have H2 := Lib.hid h2
  clear h2
  go_wp2_with (fail)
  refine (Cod.rnum_st H2.out 0 rfl 1 HR1.out HL0.out).mono ?_
  rintro e w3 ⟨rfl, h3⟩
  simp only [List.set_cons_zero] at h3
  obtain ⟨b5, hb5⟩ : ∃ b, b = w3.heap.size := ⟨_, rfl⟩
  obtain ⟨W4, hW4⟩ : ∃ W, W = w3.alloc (.cells z.toArray 34) := ⟨_, rfl⟩
  have h4 : Own.St w.heap.size w W4 (AVals b5 34 z :: Cod.AR q r1 :: AVals b2 34 z :: []) := by rw [hb5, hW4]; exact h3.boxV _ _
  have TH : Hid (W4.there b5 0 cs.toArray.size) := h4.thereV 0 rfl (by rw [List.size_toArray, HCS.out, HZL.out]; exact Nat.le_of_eq rfl)
  have hset := Own.St.setAll 0 cs 0 W4 _ z h4 rfl (by rw [HCS.out, HZL.out]; rfl)
  simp only [List.set_cons_zero, List.take_zero, List.nil_append] at hset
  obtain ⟨W5, hW5⟩ : ∃ W, W = W4.setCells b5 0 cs.toArray.toList := ⟨_, rfl⟩
  have H5 : Hid (Own.St w.heap.size w W5 (TR q r1 b5 { zeroN with kind := c } nilV b2 z [])) := by
    rw [hW5, List.toList_toArray]
    rw [HCS.out] at hset ⊢
    exact hset.swap2
  have IO : Hid ((Tryd.prog.info? 34).map (·.size) = some cs.toArray.size) := info_noteA cs (by rw [HCS.out]; rfl)
  have OO : Hid (cs.toArray.all (·.oneCell') = true) := by show _ = true; rw [HCS.out]; exact all_oneCell_toArray (ntC_one rfl)
  have HB5 := Lib.hid hb5
  have HW4 := Lib.hid hW4
  have HW5 := Lib.hid hW5
  clear h3 h4 hset hb5 hW4 hW5 H2
  by_cases hk : c.toNat = 1
  · skip
    have KK : Hid ((c.toNat : Int) = 1) := by show _ = _; omega
    have HC : Hid (c = 1) := UInt8.toNat_inj.1 (by rw [hk]; rfl)
    have HF : Hid (∀ w, Calls Tryd.prog 21 #[.int .u8 1] w fun e w' => e = .returned (.int .u8 15) ∧ w = w') := fun w => fields_any 1 (by decide) w
    obtain ⟨ad, r2, hr2⟩ : ∃ x y, RS.num r1 4 = (x, y) := ⟨_, _, rfl⟩
    have bad : ad < 4294967296 := by
      have := num_bound r1 4 (by decide)
      rw [show ((4 : Nat) : Int) = 4 from rfl, hr2] at this
      exact this
    have hl2 : r2.l.length ≤ 1000000 := by have := num_less r1 4; rw [hr2] at this; exact Nat.le_trans this hl1
    obtain ⟨sq, r3, hr3⟩ : ∃ x y, RS.num r2 8 = (x, y) := ⟨_, _, rfl⟩
    have bsq : sq < 18446744073709551616 := by
      have := num_bound r2 8 (by decide)
      rw [show ((8 : Nat) : Int) = 8 from rfl, hr3] at this
      exact this
    have hl3 : r3.l.length ≤ 1000000 := by have := num_less r2 8; rw [hr3] at this; exact Nat.le_trans this hl2
    obtain ⟨xs, r4, hr4⟩ : ∃ x y, RS.raw r3 32 = (x, y) := ⟨_, _, rfl⟩
    obtain ⟨m, hmx⟩ : ∃ m, xs.length = m := ⟨_, rfl⟩
    have hm32 : m = 0 ∨ m = 32 := by have := raw_size r3; rw [hr4] at this; rw [← hmx]; exact this
    have HM32 := Lib.hid hm32
    have HMX := Lib.hid hmx
    have hl4 : r4.l.length ≤ 1000000 := by have := raw_less r3 32; rw [hr4] at this; exact Nat.le_trans this hl3
    obtain ⟨kn, r5, hr5⟩ : ∃ x y, RS.num r4 4 = (x, y) := ⟨_, _, rfl⟩
    have bkn : kn < 4294967296 := by
      have := num_bound r4 4 (by decide)
      rw [show ((4 : Nat) : Int) = 4 from rfl, hr5] at this
      exact this
    have hl5 : r5.l.length ≤ 1000000 := by have := num_less r4 4; rw [hr5] at this; exact Nat.le_trans this hl4
    obtain ⟨ys, r6, hr6⟩ : ∃ x y, RS.blob r5 300 = (x, y) := ⟨_, _, rfl⟩
    obtain ⟨l, hly⟩ : ∃ m, ys.length = m := ⟨_, rfl⟩
    have hl300 : l ≤ 300 := by have := blob_size r5; rw [hr6] at this; rw [← hly]; exact this
    have HLY := Lib.hid hly
    have hl6 : r6.l.length ≤ 1000000 := by have := blob_less r5 300; rw [hr6] at this; exact Nat.le_trans this hl5
    have hp : parse p = (⟨1, ad, sq, pad xs, kn, ys⟩, r6) := by
      rw [parse_1 (by rw [HR1.out]; simp only; rw [HC.out]; rfl)]
      simp only [HR1.out, hr2, hr3, hr4, hr5, hr6]
    rw [← HC.out] at hp
    have HP : Hid (X = if r6.fin = 0 ∧ right ⟨c, ad, sq, pad xs, kn, ys⟩ = true then (⟨c, ad, sq, pad xs, kn, ys⟩, 0) else (zeroN, 100)) := by show X = _; rw [HX.out, hp]
    have HR2 := Lib.hid hr2
    have HL2 : Hid (r2.l.length ≤ 1000000000) := by show _ ≤ _; omega
    have HR3 := Lib.hid hr3
    have HL3 : Hid (r3.l.length ≤ 1000000000) := by show _ ≤ _; omega
    have HR4 := Lib.hid hr4
    have HL4 : Hid (r4.l.length ≤ 1000000000) := by show _ ≤ _; omega
    have HR5 := Lib.hid hr5
    have HL5 : Hid (r5.l.length ≤ 1000000000) := by show _ ≤ _; omega
    have HR6 := Lib.hid hr6
    have HL6 : Hid (r6.l.length ≤ 1000000000) := by show _ ≤ _; omega
    clear hp hr2 hr3 hm32 hmx hr4 hr5 hly hr6 hk hl1 hl2 hl3 hl4 hl5 hl6
    have d0 : W5.cell? ⟨b5, 0, none⟩ = some (.int .u8 1) := by
      have h := (H5.out.cellV 1 rfl 0 rfl).1
      rw [← KK.out]
      exact h
    go_wp2_with (first
      | (refine Own.wpList_built rfl 34 #[(0, .tmp 11)] rfl cs.toArray ?_ ?_; · (simp only [List.map_toArray, List.map_cons, List.map_nil, List.toList_toArray]; exact BE.out))
      | (refine Own.wpList_allocZ rfl 34 rfl z.toArray HZ2.out ?_; rw [← HB5.out, ← HW4.out])
      | (refine wpList_store_mid rfl 34 (.tmp 5) (.tmp 12) rfl b5 0 cs.toArray rfl rfl TH.out IO.out OO.out ?_; rw [← HW5.out]))
    clear HB5 HW4 HW5 TH IO OO BE HCS
    refine (HF.out _).mono ?_
    clear d0
    rintro e wf ⟨rfl, rfl⟩
    go_wp2_with (fail)
    refine (Cod.rnum_st H5.out 0 rfl 4 HR2.out HL1.out).mono ?_
    rintro e w6 ⟨rfl, h6⟩
    simp only [List.set_cons_zero] at h6
    have HA6 : Hid (Own.St w.heap.size w w6 (TR q r2 b5 (⟨c, 0, 0, zsum, 0, []⟩ : Nte) nilV b2 z [])) := h6
    have qc := HA6.out.cellV 1 rfl 1 rfl
    have H6 : Hid (Own.St w.heap.size w (w6.setCell ⟨b5, 1, none⟩ (.int .u32 (ad : Int))) (TR q r2 b5 (⟨c, ad, 0, zsum, 0, []⟩ : Nte) nilV b2 z [])) := by
      have h := HA6.out.storeV 1 rfl 1 (.int .u32 (ad : Int))
      exact h
    clear h6 HA6 HR2 H5
    go_wp2_with (fail)
    clear qc
    refine (Cod.rnum_st H6.out 0 rfl 8 HR3.out HL2.out).mono ?_
    rintro e w7 ⟨rfl, h7⟩
    simp only [List.set_cons_zero] at h7
    have HA7 : Hid (Own.St w.heap.size w w7 (TR q r3 b5 (⟨c, ad, 0, zsum, 0, []⟩ : Nte) nilV b2 z [])) := h7
    have qc := HA7.out.cellV 1 rfl 2 rfl
    have H7 : Hid (Own.St w.heap.size w (w7.setCell ⟨b5, 2, none⟩ (.int .u64 (sq : Int))) (TR q r3 b5 (⟨c, ad, sq, zsum, 0, []⟩ : Nte) nilV b2 z [])) := by
      have h := HA7.out.storeV 1 rfl 2 (.int .u64 (sq : Int))
      exact h
    clear h7 HA7 HR3 H6
    go_wp2_with (fail)
    clear qc
    have HLc : Hid (3 + 32 ≤ (ntC (⟨c, ad, sq, zsum, 0, []⟩ : Nte) nilV).length) := by show _ ≤ _; rw [ntC_len _ _ HSZ.out]; decide
    go_region_law (first
      | (go_simp; go_at_call 29; refine (Cod.rraw_st (H7.out.drew) 0 rfl 32 HR4.out HMX.out HL3.out).mono ?_; rintro e w8 ⟨ax, cx, rfl, h8⟩; simp only [List.set_cons_zero] at h8; have HX8 := Lib.hid h8; have HV8 := Lib.hid (own_news h8 0 rfl); clear h8)
      | (refine step_vals_copy rfl (.tmp 34) (.tmp 36) rfl HX8.out 2 rfl 3 32 32 (by simp [Act.eval]) ax m cx xs (by simp [Act.eval]) HMX.out (by have := HM32.out; omega) HLc.out (fun h => (HV8.out.1 h).1) HV8.out.2 ?_; intro wx h; simp only [List.set_cons_zero, List.set_cons_succ] at h; rw [ntC_copy (⟨c, ad, sq, zsum, 0, []⟩ : Nte) nilV rfl xs m HMX.out HM32.out] at h; have h := h.drop 1; simp only [List.drop_succ_cons, List.drop_zero] at h; have HC8 : Hid (Own.St w.heap.size w wx (TR q r4 b5 (⟨c, ad, sq, pad xs, 0, []⟩ : Nte) nilV b2 z [])) := h; clear h))
    have HSP : Hid ((pad xs).length = 32) := by
      show _ = 32
      have h1 := HMX.out
      unfold pad
      rw [List.length_append, List.length_replicate]
      have := HM32.out
      omega
    clear HX8 HV8 HLc HR4 H7
    go_wp2_with (fail)
    refine (Cod.rnum_st HC8.out 0 rfl 4 HR5.out HL4.out).mono ?_
    rintro e w9 ⟨rfl, h9⟩
    simp only [List.set_cons_zero] at h9
    have HA9 : Hid (Own.St w.heap.size w w9 (TR q r5 b5 (⟨c, ad, sq, pad xs, 0, []⟩ : Nte) nilV b2 z [])) := h9
    have qc := HA9.out.cellV 1 rfl 35 (ntC_kn _ _ HSP.out)
    have H9 : Hid (Own.St w.heap.size w (w9.setCell ⟨b5, 35, none⟩ (.int .u32 (kn : Int))) (TR q r5 b5 (⟨c, ad, sq, pad xs, kn, []⟩ : Nte) nilV b2 z [])) := by
      have h := HA9.out.storeV 1 rfl 35 (.int .u32 (kn : Int))
      rw [ntC_setN _ _ HSP.out] at h
      exact h
    clear h9 HA9 HR5 HC8
    go_wp2_with (fail)
    clear qc
    refine (Cod.rblob_st H9.out 0 rfl 300 (by decide) HR6.out HLY.out HL5.out).mono ?_
    rintro e w10 ⟨ay, cy, rfl, h10⟩
    simp only [List.set_cons_zero] at h10
    have hq10 := h10.perm (List.perm_append_comm (l₁ := [Cod.AB ay l cy ys]) (l₂ := TR q r6 b5 (⟨c, ad, sq, pad xs, kn, []⟩ : Nte) nilV b2 z []))
    have HA10 : Hid (Own.St w.heap.size w w10 (TR q r6 b5 (⟨c, ad, sq, pad xs, kn, []⟩ : Nte) nilV b2 z [AB ay l cy ys])) := hq10
    have qc := HA10.out.cellV 1 rfl 36 (ntC_data _ _ HSP.out)
    have H10 : Hid (Own.St w.heap.size w (w10.setCell ⟨b5, 36, none⟩ (.slice ay l cy)) (TR q r6 b5 (⟨c, ad, sq, pad xs, kn, ys⟩ : Nte) (.slice ay l cy) b2 z [AB ay l cy ys])) := by
      have h := HA10.out.storeV 1 rfl 36 (.slice ay l cy)
      rw [ntC_setD _ _ _ HSP.out] at h
      exact h
    clear h10 hq10 HA10 HR6 H9
    go_wp2_with (fail)
    clear qc
    obtain ⟨fn, hfn⟩ : ∃ f, f = r6.fin := ⟨_, rfl⟩
    have CE := Cod.end_st H10.out 0 rfl
    rw [← hfn] at CE
    refine CE.mono ?_
    clear CE
    rintro e w20 ⟨rfl, rfl⟩
    have HFN := Lib.hid hfn
    clear hfn
    obtain ⟨W20, hW20⟩ : ∃ W, W = (w10.setCell ⟨b5, 36, none⟩ (.slice ay l cy)) := ⟨_, rfl⟩
    have H20 := H10.out
    clear H10
    rw [← hW20] at H20 ⊢
    have H20 := Lib.hid H20
    clear hW20
    by_cases hf : fn = 0
    · subst hf
      obtain ⟨c9, hc9⟩ : ∃ x, x = ntC (⟨c, ad, sq, pad xs, kn, ys⟩ : Nte) (.slice ay l cy) := ⟨_, rfl⟩
      have H21 : Hid (Own.St w.heap.size w W20 (Cod.AR q r6 :: AVals b5 34 c9 :: AVals b2 34 z :: [AB ay l cy ys])) := by rw [hc9]; exact H20.out
      have NL : Hid (c9.length = 37) := by show _ = 37; rw [hc9]; exact ntC_len _ _ HSP.out
      have RN : Hid (W20.rangeAt b5 0 c9) := fun j v hv => by rw [Nat.zero_add]; exact (H21.out.cellV 1 rfl j hv).1
      obtain ⟨rt, hrt⟩ : ∃ b, b = right (⟨c, ad, sq, pad xs, kn, ys⟩ : Nte) := ⟨_, rfl⟩
      have CR : Hid (Calls Tryd.prog 18 #[.agg c9.toArray] W20 fun e w' => e = .returned (.bool rt) ∧ Below W20.heap.size W20 w') := by
        rw [hc9, hrt]
        exact lRight_any (⟨c, ad, sq, pad xs, kn, ys⟩ : Nte) HSP.out ay l cy HLY.out (by omega) W20
      have HRT := Lib.hid hrt
      have HC9 := Lib.hid hc9
      clear hc9 hrt H20
      go_wp2_with (refine wpList_val rfl (load_note c9 NL.out rfl _ (b := b5) (k := 0) RN.out rfl) ?_)
      refine CR.out.mono ?_
      clear CR
      rintro e w22 ⟨rfl, h22⟩
      have H22 := Lib.hid (H21.out.later h22)
      clear h22 H21 RN
      cases rt
      · have HE : Hid (X = (zeroN, 100)) := by show X = _; rw [HP.out, if_neg]; rintro ⟨_, h⟩; rw [← HRT.out] at h; cases h
        have IOz : Hid ((Tryd.prog.info? 34).map (·.size) = some z.toArray.size) := info_noteA z HZL.out
        have OOz : Hid (z.toArray.all (·.oneCell') = true) := by show _ = true; rw [HZ.out]; exact all_oneCell_toArray (ntC_one rfl)
        have THz : Hid (w22.there b2 0 z.toArray.size) := H22.out.thereV 2 rfl (by simp)
        have hset := Own.St.setAll 2 z 0 w22 _ z H22.out rfl (by simp)
        obtain ⟨W30, hW30⟩ : ∃ W, W = w22.setCells b2 0 z.toArray.toList := ⟨_, rfl⟩
        have HW30 := Lib.hid hW30
        have e30 : W30 = w22.setCells b2 0 z := by rw [hW30, List.toList_toArray]
        rw [← e30] at hset
        simp only [List.set_cons_zero, List.set_cons_succ, List.take_zero, List.nil_append] at hset
        have H30 := Lib.hid hset
        clear hset hW30 e30
        go_wp2_with (first
          | (refine Own.wpList_built rfl 34 #[] rfl z.toArray ?_ ?_; · (simp only [List.map_toArray, List.map_nil, List.toList_toArray]; exact HZ0.out))
          | (refine wpList_store_mid rfl 34 (.tmp 2) (.tmp 57) rfl b2 0 z.toArray rfl rfl THz.out IOz.out OOz.out ?_; rw [← HW30.out]))
        refine bodyPost_ret (results_cell_two rfl _ _ b2 34 _ (0, 0) _ _ rfl rfl (H30.out.rowV 2 rfl) Tryd.underlying34 rfl (info_note z HZL.out)) rfl ?_
        exact takeNew_err HE.out H30.out.below HZ.out
      · have HE : Hid (X = ((⟨c, ad, sq, pad xs, kn, ys⟩ : Nte), 0)) := by show X = _; rw [HP.out, if_pos ⟨HFN.out.symm, HRT.out.symm⟩]
        have RN : Hid (w22.rangeAt b5 0 c9) := fun j v hv => by rw [Nat.zero_add]; exact (H22.out.cellV 1 rfl j hv).1
        have IO9 : Hid ((Tryd.prog.info? 34).map (·.size) = some c9.toArray.size) := info_noteA c9 NL.out
        have OO9 : Hid (c9.toArray.all (·.oneCell') = true) := by show _ = true; rw [HC9.out]; exact all_oneCell_toArray (ntC_one rfl)
        have TH9 : Hid (w22.there b2 0 c9.toArray.size) := H22.out.thereV 2 rfl (by rw [List.size_toArray, NL.out, HZL.out]; exact Nat.le_refl _)
        have hset := Own.St.setAll 2 c9 0 w22 _ z H22.out rfl (by rw [NL.out, HZL.out])
        simp only [List.set_cons_zero, List.set_cons_succ, List.take_zero, List.nil_append] at hset
        obtain ⟨W30, hW30⟩ : ∃ W, W = w22.setCells b2 0 c9.toArray.toList := ⟨_, rfl⟩
        have HW30 := Lib.hid hW30
        have H30 : Hid (Own.St w.heap.size w W30 (Cod.AR q r6 :: AVals b5 34 c9 :: AVals b2 34 c9 :: [AB ay l cy ys])) := by rw [hW30, List.toList_toArray]; exact hset
        clear hset hW30
        go_wp2_with (first
          | (refine wpList_val rfl (load_note c9 NL.out rfl _ (b := b5) (k := 0) RN.out rfl) ?_)
          | (refine wpList_store_mid rfl 34 (.tmp 2) (.tmp 58) rfl b2 0 c9.toArray rfl rfl TH9.out IO9.out OO9.out ?_; rw [← HW30.out]))
        refine bodyPost_ret (results_cell_two rfl _ _ b2 34 _ (0, 0) _ _ rfl rfl (H30.out.rowV 2 rfl) Tryd.underlying34 rfl (info_note c9 NL.out)) rfl ?_
        exact takeNew_some HE.out rfl HLY.out H30.out 3 rfl HC9.out
    · have g : (fn != 0) = true := by simpa using hf
      have HE : Hid (X = (zeroN, 100)) := by show X = _; rw [HP.out, if_neg]; rintro ⟨h, _⟩; rw [← HFN.out] at h; exact hf h
      have IOz : Hid ((Tryd.prog.info? 34).map (·.size) = some z.toArray.size) := info_noteA z HZL.out
      have OOz : Hid (z.toArray.all (·.oneCell') = true) := by show _ = true; rw [HZ.out]; exact all_oneCell_toArray (ntC_one rfl)
      have THz : Hid (W20.there b2 0 z.toArray.size) := H20.out.thereV 2 rfl (by simp)
      have hset := Own.St.setAll 2 z 0 W20 _ z H20.out rfl (by simp)
      obtain ⟨W30, hW30⟩ : ∃ W, W = W20.setCells b2 0 z.toArray.toList := ⟨_, rfl⟩
      have HW30 := Lib.hid hW30
      have e30 : W30 = W20.setCells b2 0 z := by rw [hW30, List.toList_toArray]
      rw [← e30] at hset
      simp only [List.set_cons_zero, List.set_cons_succ, List.take_zero, List.nil_append] at hset
      have H30 := Lib.hid hset
      clear hset hW30 e30
      go_wp2_with (first
        | (refine Own.wpList_built rfl 34 #[] rfl z.toArray ?_ ?_; · (simp only [List.map_toArray, List.map_nil, List.toList_toArray]; exact HZ0.out))
        | (refine wpList_store_mid rfl 34 (.tmp 2) (.tmp 57) rfl b2 0 z.toArray rfl rfl THz.out IOz.out OOz.out ?_; rw [← HW30.out]))
      refine bodyPost_ret (results_cell_two rfl _ _ b2 34 _ (0, 0) _ _ rfl rfl (H30.out.rowV 2 rfl) Tryd.underlying34 rfl (info_note z HZL.out)) rfl ?_
      exact takeNew_err HE.out H30.out.below HZ.out
  have hk1 := hk
  clear hk
  by_cases hk : c.toNat = 2
  · skip
    have KK : Hid ((c.toNat : Int) = 2) := by show _ = _; omega
    have HC : Hid (c = 2) := UInt8.toNat_inj.1 (by rw [hk]; rfl)
    have HF : Hid (∀ w, Calls Tryd.prog 21 #[.int .u8 2] w fun e w' => e = .returned (.int .u8 3) ∧ w = w') := fun w => fields_any 2 (by decide) w
    obtain ⟨ad, r2, hr2⟩ : ∃ x y, RS.num r1 4 = (x, y) := ⟨_, _, rfl⟩
    have bad : ad < 4294967296 := by
      have := num_bound r1 4 (by decide)
      rw [show ((4 : Nat) : Int) = 4 from rfl, hr2] at this
      exact this
    have hl2 : r2.l.length ≤ 1000000 := by have := num_less r1 4; rw [hr2] at this; exact Nat.le_trans this hl1
    obtain ⟨sq, r3, hr3⟩ : ∃ x y, RS.num r2 8 = (x, y) := ⟨_, _, rfl⟩
    have bsq : sq < 18446744073709551616 := by
      have := num_bound r2 8 (by decide)
      rw [show ((8 : Nat) : Int) = 8 from rfl, hr3] at this
      exact this
    have hl3 : r3.l.length ≤ 1000000 := by have := num_less r2 8; rw [hr3] at this; exact Nat.le_trans this hl2
    have hp : parse p = (⟨2, ad, sq, zsum, 0, []⟩, r3) := by
      rw [parse_2 (by rw [HR1.out]; simp only; rw [HC.out]; rfl)]
      simp only [HR1.out, hr2, hr3]
    rw [← HC.out] at hp
    have HP : Hid (X = if r3.fin = 0 ∧ right ⟨c, ad, sq, zsum, 0, []⟩ = true then (⟨c, ad, sq, zsum, 0, []⟩, 0) else (zeroN, 100)) := by show X = _; rw [HX.out, hp]
    have HR2 := Lib.hid hr2
    have HL2 : Hid (r2.l.length ≤ 1000000000) := by show _ ≤ _; omega
    have HR3 := Lib.hid hr3
    have HL3 : Hid (r3.l.length ≤ 1000000000) := by show _ ≤ _; omega
    clear hp hr2 hr3 hk hl1 hl2 hl3
    have d0 : W5.cell? ⟨b5, 0, none⟩ = some (.int .u8 2) := by
      have h := (H5.out.cellV 1 rfl 0 rfl).1
      rw [← KK.out]
      exact h
    go_wp2_with (first
      | (refine Own.wpList_built rfl 34 #[(0, .tmp 11)] rfl cs.toArray ?_ ?_; · (simp only [List.map_toArray, List.map_cons, List.map_nil, List.toList_toArray]; exact BE.out))
      | (refine Own.wpList_allocZ rfl 34 rfl z.toArray HZ2.out ?_; rw [← HB5.out, ← HW4.out])
      | (refine wpList_store_mid rfl 34 (.tmp 5) (.tmp 12) rfl b5 0 cs.toArray rfl rfl TH.out IO.out OO.out ?_; rw [← HW5.out]))
    clear HB5 HW4 HW5 TH IO OO BE HCS
    refine (HF.out _).mono ?_
    clear d0
    rintro e wf ⟨rfl, rfl⟩
    go_wp2_with (fail)
    refine (Cod.rnum_st H5.out 0 rfl 4 HR2.out HL1.out).mono ?_
    rintro e w6 ⟨rfl, h6⟩
    simp only [List.set_cons_zero] at h6
    have HA6 : Hid (Own.St w.heap.size w w6 (TR q r2 b5 (⟨c, 0, 0, zsum, 0, []⟩ : Nte) nilV b2 z [])) := h6
    have qc := HA6.out.cellV 1 rfl 1 rfl
    have H6 : Hid (Own.St w.heap.size w (w6.setCell ⟨b5, 1, none⟩ (.int .u32 (ad : Int))) (TR q r2 b5 (⟨c, ad, 0, zsum, 0, []⟩ : Nte) nilV b2 z [])) := by
      have h := HA6.out.storeV 1 rfl 1 (.int .u32 (ad : Int))
      exact h
    clear h6 HA6 HR2 H5
    go_wp2_with (fail)
    clear qc
    refine (Cod.rnum_st H6.out 0 rfl 8 HR3.out HL2.out).mono ?_
    rintro e w7 ⟨rfl, h7⟩
    simp only [List.set_cons_zero] at h7
    have HA7 : Hid (Own.St w.heap.size w w7 (TR q r3 b5 (⟨c, ad, 0, zsum, 0, []⟩ : Nte) nilV b2 z [])) := h7
    have qc := HA7.out.cellV 1 rfl 2 rfl
    have H7 : Hid (Own.St w.heap.size w (w7.setCell ⟨b5, 2, none⟩ (.int .u64 (sq : Int))) (TR q r3 b5 (⟨c, ad, sq, zsum, 0, []⟩ : Nte) nilV b2 z [])) := by
      have h := HA7.out.storeV 1 rfl 2 (.int .u64 (sq : Int))
      exact h
    clear h7 HA7 HR3 H6
    go_wp2_with (fail)
    clear qc
    obtain ⟨fn, hfn⟩ : ∃ f, f = r3.fin := ⟨_, rfl⟩
    have CE := Cod.end_st H7.out 0 rfl
    rw [← hfn] at CE
    refine CE.mono ?_
    clear CE
    rintro e w20 ⟨rfl, rfl⟩
    have HFN := Lib.hid hfn
    clear hfn
    obtain ⟨W20, hW20⟩ : ∃ W, W = (w7.setCell ⟨b5, 2, none⟩ (.int .u64 (sq : Int))) := ⟨_, rfl⟩
    have H20 := H7.out
    clear H7
    rw [← hW20] at H20 ⊢
    have H20 := Lib.hid H20
    clear hW20
    by_cases hf : fn = 0
    · subst hf
      obtain ⟨c9, hc9⟩ : ∃ x, x = ntC (⟨c, ad, sq, zsum, 0, []⟩ : Nte) nilV := ⟨_, rfl⟩
      have H21 : Hid (Own.St w.heap.size w W20 (Cod.AR q r3 :: AVals b5 34 c9 :: AVals b2 34 z :: [])) := by rw [hc9]; exact H20.out
      have NL : Hid (c9.length = 37) := by show _ = 37; rw [hc9]; exact ntC_len _ _ HSZ.out
      have RN : Hid (W20.rangeAt b5 0 c9) := fun j v hv => by rw [Nat.zero_add]; exact (H21.out.cellV 1 rfl j hv).1
      obtain ⟨rt, hrt⟩ : ∃ b, b = right (⟨c, ad, sq, zsum, 0, []⟩ : Nte) := ⟨_, rfl⟩
      have CR : Hid (Calls Tryd.prog 18 #[.agg c9.toArray] W20 fun e w' => e = .returned (.bool rt) ∧ Below W20.heap.size W20 w') := by
        rw [hc9, hrt]
        exact lRight_any (⟨c, ad, sq, zsum, 0, []⟩ : Nte) HSZ.out none 0 0 rfl (by omega) W20
      have HRT := Lib.hid hrt
      have HC9 := Lib.hid hc9
      clear hc9 hrt H20
      go_wp2_with (refine wpList_val rfl (load_note c9 NL.out rfl _ (b := b5) (k := 0) RN.out rfl) ?_)
      refine CR.out.mono ?_
      clear CR
      rintro e w22 ⟨rfl, h22⟩
      have H22 := Lib.hid (H21.out.later h22)
      clear h22 H21 RN
      cases rt
      · have HE : Hid (X = (zeroN, 100)) := by show X = _; rw [HP.out, if_neg]; rintro ⟨_, h⟩; rw [← HRT.out] at h; cases h
        have IOz : Hid ((Tryd.prog.info? 34).map (·.size) = some z.toArray.size) := info_noteA z HZL.out
        have OOz : Hid (z.toArray.all (·.oneCell') = true) := by show _ = true; rw [HZ.out]; exact all_oneCell_toArray (ntC_one rfl)
        have THz : Hid (w22.there b2 0 z.toArray.size) := H22.out.thereV 2 rfl (by simp)
        have hset := Own.St.setAll 2 z 0 w22 _ z H22.out rfl (by simp)
        obtain ⟨W30, hW30⟩ : ∃ W, W = w22.setCells b2 0 z.toArray.toList := ⟨_, rfl⟩
        have HW30 := Lib.hid hW30
        have e30 : W30 = w22.setCells b2 0 z := by rw [hW30, List.toList_toArray]
        rw [← e30] at hset
        simp only [List.set_cons_zero, List.set_cons_succ, List.take_zero, List.nil_append] at hset
        have H30 := Lib.hid hset
        clear hset hW30 e30
        go_wp2_with (first
          | (refine Own.wpList_built rfl 34 #[] rfl z.toArray ?_ ?_; · (simp only [List.map_toArray, List.map_nil, List.toList_toArray]; exact HZ0.out))
          | (refine wpList_store_mid rfl 34 (.tmp 2) (.tmp 57) rfl b2 0 z.toArray rfl rfl THz.out IOz.out OOz.out ?_; rw [← HW30.out]))
        refine bodyPost_ret (results_cell_two rfl _ _ b2 34 _ (0, 0) _ _ rfl rfl (H30.out.rowV 2 rfl) Tryd.underlying34 rfl (info_note z HZL.out)) rfl ?_
        exact takeNew_err HE.out H30.out.below HZ.out
      · have HE : Hid (X = ((⟨c, ad, sq, zsum, 0, []⟩ : Nte), 0)) := by show X = _; rw [HP.out, if_pos ⟨HFN.out.symm, HRT.out.symm⟩]
        have RN : Hid (w22.rangeAt b5 0 c9) := fun j v hv => by rw [Nat.zero_add]; exact (H22.out.cellV 1 rfl j hv).1
        have IO9 : Hid ((Tryd.prog.info? 34).map (·.size) = some c9.toArray.size) := info_noteA c9 NL.out
        have OO9 : Hid (c9.toArray.all (·.oneCell') = true) := by show _ = true; rw [HC9.out]; exact all_oneCell_toArray (ntC_one rfl)
        have TH9 : Hid (w22.there b2 0 c9.toArray.size) := H22.out.thereV 2 rfl (by rw [List.size_toArray, NL.out, HZL.out]; exact Nat.le_refl _)
        have hset := Own.St.setAll 2 c9 0 w22 _ z H22.out rfl (by rw [NL.out, HZL.out])
        simp only [List.set_cons_zero, List.set_cons_succ, List.take_zero, List.nil_append] at hset
        obtain ⟨W30, hW30⟩ : ∃ W, W = w22.setCells b2 0 c9.toArray.toList := ⟨_, rfl⟩
        have HW30 := Lib.hid hW30
        have H30 : Hid (Own.St w.heap.size w W30 (Cod.AR q r3 :: AVals b5 34 c9 :: AVals b2 34 c9 :: [])) := by rw [hW30, List.toList_toArray]; exact hset
        clear hset hW30
        go_wp2_with (first
          | (refine wpList_val rfl (load_note c9 NL.out rfl _ (b := b5) (k := 0) RN.out rfl) ?_)
          | (refine wpList_store_mid rfl 34 (.tmp 2) (.tmp 58) rfl b2 0 c9.toArray rfl rfl TH9.out IO9.out OO9.out ?_; rw [← HW30.out]))
        refine bodyPost_ret (results_cell_two rfl _ _ b2 34 _ (0, 0) _ _ rfl rfl (H30.out.rowV 2 rfl) Tryd.underlying34 rfl (info_note c9 NL.out)) rfl ?_
        exact takeNew_none HE.out rfl H30.out.below HC9.out
    · have g : (fn != 0) = true := by simpa using hf
      have HE : Hid (X = (zeroN, 100)) := by show X = _; rw [HP.out, if_neg]; rintro ⟨h, _⟩; rw [← HFN.out] at h; exact hf h
      have IOz : Hid ((Tryd.prog.info? 34).map (·.size) = some z.toArray.size) := info_noteA z HZL.out
      have OOz : Hid (z.toArray.all (·.oneCell') = true) := by show _ = true; rw [HZ.out]; exact all_oneCell_toArray (ntC_one rfl)
      have THz : Hid (W20.there b2 0 z.toArray.size) := H20.out.thereV 2 rfl (by simp)
      have hset := Own.St.setAll 2 z 0 W20 _ z H20.out rfl (by simp)
      obtain ⟨W30, hW30⟩ : ∃ W, W = W20.setCells b2 0 z.toArray.toList := ⟨_, rfl⟩
      have HW30 := Lib.hid hW30
      have e30 : W30 = W20.setCells b2 0 z := by rw [hW30, List.toList_toArray]
      rw [← e30] at hset
      simp only [List.set_cons_zero, List.set_cons_succ, List.take_zero, List.nil_append] at hset
      have H30 := Lib.hid hset
      clear hset hW30 e30
      go_wp2_with (first
        | (refine Own.wpList_built rfl 34 #[] rfl z.toArray ?_ ?_; · (simp only [List.map_toArray, List.map_nil, List.toList_toArray]; exact HZ0.out))
        | (refine wpList_store_mid rfl 34 (.tmp 2) (.tmp 57) rfl b2 0 z.toArray rfl rfl THz.out IOz.out OOz.out ?_; rw [← HW30.out]))
      refine bodyPost_ret (results_cell_two rfl _ _ b2 34 _ (0, 0) _ _ rfl rfl (H30.out.rowV 2 rfl) Tryd.underlying34 rfl (info_note z HZL.out)) rfl ?_
      exact takeNew_err HE.out H30.out.below HZ.out
  have hk2 := hk
  clear hk
  by_cases hk : c.toNat = 3
  · skip
    have KK : Hid ((c.toNat : Int) = 3) := by show _ = _; omega
    have HC : Hid (c = 3) := UInt8.toNat_inj.1 (by rw [hk]; rfl)
    have HF : Hid (∀ w, Calls Tryd.prog 21 #[.int .u8 3] w fun e w' => e = .returned (.int .u8 2) ∧ w = w') := fun w => fields_any 3 (by decide) w
    obtain ⟨sq, r2, hr2⟩ : ∃ x y, RS.num r1 8 = (x, y) := ⟨_, _, rfl⟩
    have bsq : sq < 18446744073709551616 := by
      have := num_bound r1 8 (by decide)
      rw [show ((8 : Nat) : Int) = 8 from rfl, hr2] at this
      exact this
    have hl2 : r2.l.length ≤ 1000000 := by have := num_less r1 8; rw [hr2] at this; exact Nat.le_trans this hl1
    have hp : parse p = (⟨3, 0, sq, zsum, 0, []⟩, r2) := by
      rw [parse_3 (by rw [HR1.out]; simp only; rw [HC.out]; rfl)]
      simp only [HR1.out, hr2]
    rw [← HC.out] at hp
    have HP : Hid (X = if r2.fin = 0 ∧ right ⟨c, 0, sq, zsum, 0, []⟩ = true then (⟨c, 0, sq, zsum, 0, []⟩, 0) else (zeroN, 100)) := by show X = _; rw [HX.out, hp]
    have HR2 := Lib.hid hr2
    have HL2 : Hid (r2.l.length ≤ 1000000000) := by show _ ≤ _; omega
    clear hp hr2 hk hl1 hl2
    have d0 : W5.cell? ⟨b5, 0, none⟩ = some (.int .u8 3) := by
      have h := (H5.out.cellV 1 rfl 0 rfl).1
      rw [← KK.out]
      exact h
    go_wp2_with (first
      | (refine Own.wpList_built rfl 34 #[(0, .tmp 11)] rfl cs.toArray ?_ ?_; · (simp only [List.map_toArray, List.map_cons, List.map_nil, List.toList_toArray]; exact BE.out))
      | (refine Own.wpList_allocZ rfl 34 rfl z.toArray HZ2.out ?_; rw [← HB5.out, ← HW4.out])
      | (refine wpList_store_mid rfl 34 (.tmp 5) (.tmp 12) rfl b5 0 cs.toArray rfl rfl TH.out IO.out OO.out ?_; rw [← HW5.out]))
    clear HB5 HW4 HW5 TH IO OO BE HCS
    refine (HF.out _).mono ?_
    clear d0
    rintro e wf ⟨rfl, rfl⟩
    go_wp2_with (fail)
    refine (Cod.rnum_st H5.out 0 rfl 8 HR2.out HL1.out).mono ?_
    rintro e w6 ⟨rfl, h6⟩
    simp only [List.set_cons_zero] at h6
    have HA6 : Hid (Own.St w.heap.size w w6 (TR q r2 b5 (⟨c, 0, 0, zsum, 0, []⟩ : Nte) nilV b2 z [])) := h6
    have qc := HA6.out.cellV 1 rfl 2 rfl
    have H6 : Hid (Own.St w.heap.size w (w6.setCell ⟨b5, 2, none⟩ (.int .u64 (sq : Int))) (TR q r2 b5 (⟨c, 0, sq, zsum, 0, []⟩ : Nte) nilV b2 z [])) := by
      have h := HA6.out.storeV 1 rfl 2 (.int .u64 (sq : Int))
      exact h
    clear h6 HA6 HR2 H5
    go_wp2_with (fail)
    clear qc
    obtain ⟨fn, hfn⟩ : ∃ f, f = r2.fin := ⟨_, rfl⟩
    have CE := Cod.end_st H6.out 0 rfl
    rw [← hfn] at CE
    refine CE.mono ?_
    clear CE
    rintro e w20 ⟨rfl, rfl⟩
    have HFN := Lib.hid hfn
    clear hfn
    obtain ⟨W20, hW20⟩ : ∃ W, W = (w6.setCell ⟨b5, 2, none⟩ (.int .u64 (sq : Int))) := ⟨_, rfl⟩
    have H20 := H6.out
    clear H6
    rw [← hW20] at H20 ⊢
    have H20 := Lib.hid H20
    clear hW20
    by_cases hf : fn = 0
    · subst hf
      obtain ⟨c9, hc9⟩ : ∃ x, x = ntC (⟨c, 0, sq, zsum, 0, []⟩ : Nte) nilV := ⟨_, rfl⟩
      have H21 : Hid (Own.St w.heap.size w W20 (Cod.AR q r2 :: AVals b5 34 c9 :: AVals b2 34 z :: [])) := by rw [hc9]; exact H20.out
      have NL : Hid (c9.length = 37) := by show _ = 37; rw [hc9]; exact ntC_len _ _ HSZ.out
      have RN : Hid (W20.rangeAt b5 0 c9) := fun j v hv => by rw [Nat.zero_add]; exact (H21.out.cellV 1 rfl j hv).1
      obtain ⟨rt, hrt⟩ : ∃ b, b = right (⟨c, 0, sq, zsum, 0, []⟩ : Nte) := ⟨_, rfl⟩
      have CR : Hid (Calls Tryd.prog 18 #[.agg c9.toArray] W20 fun e w' => e = .returned (.bool rt) ∧ Below W20.heap.size W20 w') := by
        rw [hc9, hrt]
        exact lRight_any (⟨c, 0, sq, zsum, 0, []⟩ : Nte) HSZ.out none 0 0 rfl (by omega) W20
      have HRT := Lib.hid hrt
      have HC9 := Lib.hid hc9
      clear hc9 hrt H20
      go_wp2_with (refine wpList_val rfl (load_note c9 NL.out rfl _ (b := b5) (k := 0) RN.out rfl) ?_)
      refine CR.out.mono ?_
      clear CR
      rintro e w22 ⟨rfl, h22⟩
      have H22 := Lib.hid (H21.out.later h22)
      clear h22 H21 RN
      cases rt
      · have HE : Hid (X = (zeroN, 100)) := by show X = _; rw [HP.out, if_neg]; rintro ⟨_, h⟩; rw [← HRT.out] at h; cases h
        have IOz : Hid ((Tryd.prog.info? 34).map (·.size) = some z.toArray.size) := info_noteA z HZL.out
        have OOz : Hid (z.toArray.all (·.oneCell') = true) := by show _ = true; rw [HZ.out]; exact all_oneCell_toArray (ntC_one rfl)
        have THz : Hid (w22.there b2 0 z.toArray.size) := H22.out.thereV 2 rfl (by simp)
        have hset := Own.St.setAll 2 z 0 w22 _ z H22.out rfl (by simp)
        obtain ⟨W30, hW30⟩ : ∃ W, W = w22.setCells b2 0 z.toArray.toList := ⟨_, rfl⟩
        have HW30 := Lib.hid hW30
        have e30 : W30 = w22.setCells b2 0 z := by rw [hW30, List.toList_toArray]
        rw [← e30] at hset
        simp only [List.set_cons_zero, List.set_cons_succ, List.take_zero, List.nil_append] at hset
        have H30 := Lib.hid hset
        clear hset hW30 e30
        go_wp2_with (first
          | (refine Own.wpList_built rfl 34 #[] rfl z.toArray ?_ ?_; · (simp only [List.map_toArray, List.map_nil, List.toList_toArray]; exact HZ0.out))
          | (refine wpList_store_mid rfl 34 (.tmp 2) (.tmp 57) rfl b2 0 z.toArray rfl rfl THz.out IOz.out OOz.out ?_; rw [← HW30.out]))
        refine bodyPost_ret (results_cell_two rfl _ _ b2 34 _ (0, 0) _ _ rfl rfl (H30.out.rowV 2 rfl) Tryd.underlying34 rfl (info_note z HZL.out)) rfl ?_
        exact takeNew_err HE.out H30.out.below HZ.out
      · have HE : Hid (X = ((⟨c, 0, sq, zsum, 0, []⟩ : Nte), 0)) := by show X = _; rw [HP.out, if_pos ⟨HFN.out.symm, HRT.out.symm⟩]
        have RN : Hid (w22.rangeAt b5 0 c9) := fun j v hv => by rw [Nat.zero_add]; exact (H22.out.cellV 1 rfl j hv).1
        have IO9 : Hid ((Tryd.prog.info? 34).map (·.size) = some c9.toArray.size) := info_noteA c9 NL.out
        have OO9 : Hid (c9.toArray.all (·.oneCell') = true) := by show _ = true; rw [HC9.out]; exact all_oneCell_toArray (ntC_one rfl)
        have TH9 : Hid (w22.there b2 0 c9.toArray.size) := H22.out.thereV 2 rfl (by rw [List.size_toArray, NL.out, HZL.out]; exact Nat.le_refl _)
        have hset := Own.St.setAll 2 c9 0 w22 _ z H22.out rfl (by rw [NL.out, HZL.out])
        simp only [List.set_cons_zero, List.set_cons_succ, List.take_zero, List.nil_append] at hset
        obtain ⟨W30, hW30⟩ : ∃ W, W = w22.setCells b2 0 c9.toArray.toList := ⟨_, rfl⟩
        have HW30 := Lib.hid hW30
        have H30 : Hid (Own.St w.heap.size w W30 (Cod.AR q r2 :: AVals b5 34 c9 :: AVals b2 34 c9 :: [])) := by rw [hW30, List.toList_toArray]; exact hset
        clear hset hW30
        go_wp2_with (first
          | (refine wpList_val rfl (load_note c9 NL.out rfl _ (b := b5) (k := 0) RN.out rfl) ?_)
          | (refine wpList_store_mid rfl 34 (.tmp 2) (.tmp 58) rfl b2 0 c9.toArray rfl rfl TH9.out IO9.out OO9.out ?_; rw [← HW30.out]))
        refine bodyPost_ret (results_cell_two rfl _ _ b2 34 _ (0, 0) _ _ rfl rfl (H30.out.rowV 2 rfl) Tryd.underlying34 rfl (info_note c9 NL.out)) rfl ?_
        exact takeNew_none HE.out rfl H30.out.below HC9.out
    · have g : (fn != 0) = true := by simpa using hf
      have HE : Hid (X = (zeroN, 100)) := by show X = _; rw [HP.out, if_neg]; rintro ⟨h, _⟩; rw [← HFN.out] at h; exact hf h
      have IOz : Hid ((Tryd.prog.info? 34).map (·.size) = some z.toArray.size) := info_noteA z HZL.out
      have OOz : Hid (z.toArray.all (·.oneCell') = true) := by show _ = true; rw [HZ.out]; exact all_oneCell_toArray (ntC_one rfl)
      have THz : Hid (W20.there b2 0 z.toArray.size) := H20.out.thereV 2 rfl (by simp)
      have hset := Own.St.setAll 2 z 0 W20 _ z H20.out rfl (by simp)
      obtain ⟨W30, hW30⟩ : ∃ W, W = W20.setCells b2 0 z.toArray.toList := ⟨_, rfl⟩
      have HW30 := Lib.hid hW30
      have e30 : W30 = W20.setCells b2 0 z := by rw [hW30, List.toList_toArray]
      rw [← e30] at hset
      simp only [List.set_cons_zero, List.set_cons_succ, List.take_zero, List.nil_append] at hset
      have H30 := Lib.hid hset
      clear hset hW30 e30
      go_wp2_with (first
        | (refine Own.wpList_built rfl 34 #[] rfl z.toArray ?_ ?_; · (simp only [List.map_toArray, List.map_nil, List.toList_toArray]; exact HZ0.out))
        | (refine wpList_store_mid rfl 34 (.tmp 2) (.tmp 57) rfl b2 0 z.toArray rfl rfl THz.out IOz.out OOz.out ?_; rw [← HW30.out]))
      refine bodyPost_ret (results_cell_two rfl _ _ b2 34 _ (0, 0) _ _ rfl rfl (H30.out.rowV 2 rfl) Tryd.underlying34 rfl (info_note z HZL.out)) rfl ?_
      exact takeNew_err HE.out H30.out.below HZ.out
  have hk3 := hk
  clear hk
  by_cases hk : c.toNat = 4
  · skip
    have KK : Hid ((c.toNat : Int) = 4) := by show _ = _; omega
    have HC : Hid (c = 4) := UInt8.toNat_inj.1 (by rw [hk]; rfl)
    have HF : Hid (∀ w, Calls Tryd.prog 21 #[.int .u8 4] w fun e w' => e = .returned (.int .u8 12) ∧ w = w') := fun w => fields_any 4 (by decide) w
    obtain ⟨xs, r2, hr2⟩ : ∃ x y, RS.raw r1 32 = (x, y) := ⟨_, _, rfl⟩
    obtain ⟨m, hmx⟩ : ∃ m, xs.length = m := ⟨_, rfl⟩
    have hm32 : m = 0 ∨ m = 32 := by have := raw_size r1; rw [hr2] at this; rw [← hmx]; exact this
    have HM32 := Lib.hid hm32
    have HMX := Lib.hid hmx
    have hl2 : r2.l.length ≤ 1000000 := by have := raw_less r1 32; rw [hr2] at this; exact Nat.le_trans this hl1
    obtain ⟨kn, r3, hr3⟩ : ∃ x y, RS.num r2 4 = (x, y) := ⟨_, _, rfl⟩
    have bkn : kn < 4294967296 := by
      have := num_bound r2 4 (by decide)
      rw [show ((4 : Nat) : Int) = 4 from rfl, hr3] at this
      exact this
    have hl3 : r3.l.length ≤ 1000000 := by have := num_less r2 4; rw [hr3] at this; exact Nat.le_trans this hl2
    obtain ⟨ys, r4, hr4⟩ : ∃ x y, RS.blob r3 300 = (x, y) := ⟨_, _, rfl⟩
    obtain ⟨l, hly⟩ : ∃ m, ys.length = m := ⟨_, rfl⟩
    have hl300 : l ≤ 300 := by have := blob_size r3; rw [hr4] at this; rw [← hly]; exact this
    have HLY := Lib.hid hly
    have hl4 : r4.l.length ≤ 1000000 := by have := blob_less r3 300; rw [hr4] at this; exact Nat.le_trans this hl3
    have hp : parse p = (⟨4, 0, 0, pad xs, kn, ys⟩, r4) := by
      rw [parse_4 (by rw [HR1.out]; simp only; rw [HC.out]; rfl)]
      simp only [HR1.out, hr2, hr3, hr4]
    rw [← HC.out] at hp
    have HP : Hid (X = if r4.fin = 0 ∧ right ⟨c, 0, 0, pad xs, kn, ys⟩ = true then (⟨c, 0, 0, pad xs, kn, ys⟩, 0) else (zeroN, 100)) := by show X = _; rw [HX.out, hp]
    have HR2 := Lib.hid hr2
    have HL2 : Hid (r2.l.length ≤ 1000000000) := by show _ ≤ _; omega
    have HR3 := Lib.hid hr3
    have HL3 : Hid (r3.l.length ≤ 1000000000) := by show _ ≤ _; omega
    have HR4 := Lib.hid hr4
    have HL4 : Hid (r4.l.length ≤ 1000000000) := by show _ ≤ _; omega
    clear hp hm32 hmx hr2 hr3 hly hr4 hk hl1 hl2 hl3 hl4
    have d0 : W5.cell? ⟨b5, 0, none⟩ = some (.int .u8 4) := by
      have h := (H5.out.cellV 1 rfl 0 rfl).1
      rw [← KK.out]
      exact h
    go_wp2_with (first
      | (refine Own.wpList_built rfl 34 #[(0, .tmp 11)] rfl cs.toArray ?_ ?_; · (simp only [List.map_toArray, List.map_cons, List.map_nil, List.toList_toArray]; exact BE.out))
      | (refine Own.wpList_allocZ rfl 34 rfl z.toArray HZ2.out ?_; rw [← HB5.out, ← HW4.out])
      | (refine wpList_store_mid rfl 34 (.tmp 5) (.tmp 12) rfl b5 0 cs.toArray rfl rfl TH.out IO.out OO.out ?_; rw [← HW5.out]))
    clear HB5 HW4 HW5 TH IO OO BE HCS
    refine (HF.out _).mono ?_
    clear d0
    rintro e wf ⟨rfl, rfl⟩
    go_wp2_with (fail)
    have H5b : Hid (Own.St w.heap.size w W5 (TR q r1 b5 (⟨c, 0, 0, zsum, 0, []⟩ : Nte) nilV b2 z [])) := H5.out
    clear H5
    have HLc : Hid (3 + 32 ≤ (ntC (⟨c, 0, 0, zsum, 0, []⟩ : Nte) nilV).length) := by show _ ≤ _; rw [ntC_len _ _ HSZ.out]; decide
    go_region_law (first
      | (go_simp; go_at_call 29; refine (Cod.rraw_st (H5b.out.drew) 0 rfl 32 HR2.out HMX.out HL1.out).mono ?_; rintro e w6 ⟨ax, cx, rfl, h6⟩; simp only [List.set_cons_zero] at h6; have HX6 := Lib.hid h6; have HV6 := Lib.hid (own_news h6 0 rfl); clear h6)
      | (refine step_vals_copy rfl (.tmp 34) (.tmp 36) rfl HX6.out 2 rfl 3 32 32 (by simp [Act.eval]) ax m cx xs (by simp [Act.eval]) HMX.out (by have := HM32.out; omega) HLc.out (fun h => (HV6.out.1 h).1) HV6.out.2 ?_; intro wx h; simp only [List.set_cons_zero, List.set_cons_succ] at h; rw [ntC_copy (⟨c, 0, 0, zsum, 0, []⟩ : Nte) nilV rfl xs m HMX.out HM32.out] at h; have h := h.drop 1; simp only [List.drop_succ_cons, List.drop_zero] at h; have HC6 : Hid (Own.St w.heap.size w wx (TR q r2 b5 (⟨c, 0, 0, pad xs, 0, []⟩ : Nte) nilV b2 z [])) := h; clear h))
    have HSP : Hid ((pad xs).length = 32) := by
      show _ = 32
      have h1 := HMX.out
      unfold pad
      rw [List.length_append, List.length_replicate]
      have := HM32.out
      omega
    clear HX6 HV6 HLc HR2 H5b
    go_wp2_with (fail)
    refine (Cod.rnum_st HC6.out 0 rfl 4 HR3.out HL2.out).mono ?_
    rintro e w7 ⟨rfl, h7⟩
    simp only [List.set_cons_zero] at h7
    have HA7 : Hid (Own.St w.heap.size w w7 (TR q r3 b5 (⟨c, 0, 0, pad xs, 0, []⟩ : Nte) nilV b2 z [])) := h7
    have qc := HA7.out.cellV 1 rfl 35 (ntC_kn _ _ HSP.out)
    have H7 : Hid (Own.St w.heap.size w (w7.setCell ⟨b5, 35, none⟩ (.int .u32 (kn : Int))) (TR q r3 b5 (⟨c, 0, 0, pad xs, kn, []⟩ : Nte) nilV b2 z [])) := by
      have h := HA7.out.storeV 1 rfl 35 (.int .u32 (kn : Int))
      rw [ntC_setN _ _ HSP.out] at h
      exact h
    clear h7 HA7 HR3 HC6
    go_wp2_with (fail)
    clear qc
    refine (Cod.rblob_st H7.out 0 rfl 300 (by decide) HR4.out HLY.out HL3.out).mono ?_
    rintro e w8 ⟨ay, cy, rfl, h8⟩
    simp only [List.set_cons_zero] at h8
    have hq8 := h8.perm (List.perm_append_comm (l₁ := [Cod.AB ay l cy ys]) (l₂ := TR q r4 b5 (⟨c, 0, 0, pad xs, kn, []⟩ : Nte) nilV b2 z []))
    have HA8 : Hid (Own.St w.heap.size w w8 (TR q r4 b5 (⟨c, 0, 0, pad xs, kn, []⟩ : Nte) nilV b2 z [AB ay l cy ys])) := hq8
    have qc := HA8.out.cellV 1 rfl 36 (ntC_data _ _ HSP.out)
    have H8 : Hid (Own.St w.heap.size w (w8.setCell ⟨b5, 36, none⟩ (.slice ay l cy)) (TR q r4 b5 (⟨c, 0, 0, pad xs, kn, ys⟩ : Nte) (.slice ay l cy) b2 z [AB ay l cy ys])) := by
      have h := HA8.out.storeV 1 rfl 36 (.slice ay l cy)
      rw [ntC_setD _ _ _ HSP.out] at h
      exact h
    clear h8 hq8 HA8 HR4 H7
    go_wp2_with (fail)
    clear qc
    obtain ⟨fn, hfn⟩ : ∃ f, f = r4.fin := ⟨_, rfl⟩
    have CE := Cod.end_st H8.out 0 rfl
    rw [← hfn] at CE
    refine CE.mono ?_
    clear CE
    rintro e w20 ⟨rfl, rfl⟩
    have HFN := Lib.hid hfn
    clear hfn
    obtain ⟨W20, hW20⟩ : ∃ W, W = (w8.setCell ⟨b5, 36, none⟩ (.slice ay l cy)) := ⟨_, rfl⟩
    have H20 := H8.out
    clear H8
    rw [← hW20] at H20 ⊢
    have H20 := Lib.hid H20
    clear hW20
    by_cases hf : fn = 0
    · subst hf
      obtain ⟨c9, hc9⟩ : ∃ x, x = ntC (⟨c, 0, 0, pad xs, kn, ys⟩ : Nte) (.slice ay l cy) := ⟨_, rfl⟩
      have H21 : Hid (Own.St w.heap.size w W20 (Cod.AR q r4 :: AVals b5 34 c9 :: AVals b2 34 z :: [AB ay l cy ys])) := by rw [hc9]; exact H20.out
      have NL : Hid (c9.length = 37) := by show _ = 37; rw [hc9]; exact ntC_len _ _ HSP.out
      have RN : Hid (W20.rangeAt b5 0 c9) := fun j v hv => by rw [Nat.zero_add]; exact (H21.out.cellV 1 rfl j hv).1
      obtain ⟨rt, hrt⟩ : ∃ b, b = right (⟨c, 0, 0, pad xs, kn, ys⟩ : Nte) := ⟨_, rfl⟩
      have CR : Hid (Calls Tryd.prog 18 #[.agg c9.toArray] W20 fun e w' => e = .returned (.bool rt) ∧ Below W20.heap.size W20 w') := by
        rw [hc9, hrt]
        exact lRight_any (⟨c, 0, 0, pad xs, kn, ys⟩ : Nte) HSP.out ay l cy HLY.out (by omega) W20
      have HRT := Lib.hid hrt
      have HC9 := Lib.hid hc9
      clear hc9 hrt H20
      go_wp2_with (refine wpList_val rfl (load_note c9 NL.out rfl _ (b := b5) (k := 0) RN.out rfl) ?_)
      refine CR.out.mono ?_
      clear CR
      rintro e w22 ⟨rfl, h22⟩
      have H22 := Lib.hid (H21.out.later h22)
      clear h22 H21 RN
      cases rt
      · have HE : Hid (X = (zeroN, 100)) := by show X = _; rw [HP.out, if_neg]; rintro ⟨_, h⟩; rw [← HRT.out] at h; cases h
        have IOz : Hid ((Tryd.prog.info? 34).map (·.size) = some z.toArray.size) := info_noteA z HZL.out
        have OOz : Hid (z.toArray.all (·.oneCell') = true) := by show _ = true; rw [HZ.out]; exact all_oneCell_toArray (ntC_one rfl)
        have THz : Hid (w22.there b2 0 z.toArray.size) := H22.out.thereV 2 rfl (by simp)
        have hset := Own.St.setAll 2 z 0 w22 _ z H22.out rfl (by simp)
        obtain ⟨W30, hW30⟩ : ∃ W, W = w22.setCells b2 0 z.toArray.toList := ⟨_, rfl⟩
        have HW30 := Lib.hid hW30
        have e30 : W30 = w22.setCells b2 0 z := by rw [hW30, List.toList_toArray]
        rw [← e30] at hset
        simp only [List.set_cons_zero, List.set_cons_succ, List.take_zero, List.nil_append] at hset
        have H30 := Lib.hid hset
        clear hset hW30 e30
        go_wp2_with (first
          | (refine Own.wpList_built rfl 34 #[] rfl z.toArray ?_ ?_; · (simp only [List.map_toArray, List.map_nil, List.toList_toArray]; exact HZ0.out))
          | (refine wpList_store_mid rfl 34 (.tmp 2) (.tmp 57) rfl b2 0 z.toArray rfl rfl THz.out IOz.out OOz.out ?_; rw [← HW30.out]))
        refine bodyPost_ret (results_cell_two rfl _ _ b2 34 _ (0, 0) _ _ rfl rfl (H30.out.rowV 2 rfl) Tryd.underlying34 rfl (info_note z HZL.out)) rfl ?_
        exact takeNew_err HE.out H30.out.below HZ.out
      · have HE : Hid (X = ((⟨c, 0, 0, pad xs, kn, ys⟩ : Nte), 0)) := by show X = _; rw [HP.out, if_pos ⟨HFN.out.symm, HRT.out.symm⟩]
        have RN : Hid (w22.rangeAt b5 0 c9) := fun j v hv => by rw [Nat.zero_add]; exact (H22.out.cellV 1 rfl j hv).1
        have IO9 : Hid ((Tryd.prog.info? 34).map (·.size) = some c9.toArray.size) := info_noteA c9 NL.out
        have OO9 : Hid (c9.toArray.all (·.oneCell') = true) := by show _ = true; rw [HC9.out]; exact all_oneCell_toArray (ntC_one rfl)
        have TH9 : Hid (w22.there b2 0 c9.toArray.size) := H22.out.thereV 2 rfl (by rw [List.size_toArray, NL.out, HZL.out]; exact Nat.le_refl _)
        have hset := Own.St.setAll 2 c9 0 w22 _ z H22.out rfl (by rw [NL.out, HZL.out])
        simp only [List.set_cons_zero, List.set_cons_succ, List.take_zero, List.nil_append] at hset
        obtain ⟨W30, hW30⟩ : ∃ W, W = w22.setCells b2 0 c9.toArray.toList := ⟨_, rfl⟩
        have HW30 := Lib.hid hW30
        have H30 : Hid (Own.St w.heap.size w W30 (Cod.AR q r4 :: AVals b5 34 c9 :: AVals b2 34 c9 :: [AB ay l cy ys])) := by rw [hW30, List.toList_toArray]; exact hset
        clear hset hW30
        go_wp2_with (first
          | (refine wpList_val rfl (load_note c9 NL.out rfl _ (b := b5) (k := 0) RN.out rfl) ?_)
          | (refine wpList_store_mid rfl 34 (.tmp 2) (.tmp 58) rfl b2 0 c9.toArray rfl rfl TH9.out IO9.out OO9.out ?_; rw [← HW30.out]))
        refine bodyPost_ret (results_cell_two rfl _ _ b2 34 _ (0, 0) _ _ rfl rfl (H30.out.rowV 2 rfl) Tryd.underlying34 rfl (info_note c9 NL.out)) rfl ?_
        exact takeNew_some HE.out rfl HLY.out H30.out 3 rfl HC9.out
    · have g : (fn != 0) = true := by simpa using hf
      have HE : Hid (X = (zeroN, 100)) := by show X = _; rw [HP.out, if_neg]; rintro ⟨h, _⟩; rw [← HFN.out] at h; exact hf h
      have IOz : Hid ((Tryd.prog.info? 34).map (·.size) = some z.toArray.size) := info_noteA z HZL.out
      have OOz : Hid (z.toArray.all (·.oneCell') = true) := by show _ = true; rw [HZ.out]; exact all_oneCell_toArray (ntC_one rfl)
      have THz : Hid (W20.there b2 0 z.toArray.size) := H20.out.thereV 2 rfl (by simp)
      have hset := Own.St.setAll 2 z 0 W20 _ z H20.out rfl (by simp)
      obtain ⟨W30, hW30⟩ : ∃ W, W = W20.setCells b2 0 z.toArray.toList := ⟨_, rfl⟩
      have HW30 := Lib.hid hW30
      have e30 : W30 = W20.setCells b2 0 z := by rw [hW30, List.toList_toArray]
      rw [← e30] at hset
      simp only [List.set_cons_zero, List.set_cons_succ, List.take_zero, List.nil_append] at hset
      have H30 := Lib.hid hset
      clear hset hW30 e30
      go_wp2_with (first
        | (refine Own.wpList_built rfl 34 #[] rfl z.toArray ?_ ?_; · (simp only [List.map_toArray, List.map_nil, List.toList_toArray]; exact HZ0.out))
        | (refine wpList_store_mid rfl 34 (.tmp 2) (.tmp 57) rfl b2 0 z.toArray rfl rfl THz.out IOz.out OOz.out ?_; rw [← HW30.out]))
      refine bodyPost_ret (results_cell_two rfl _ _ b2 34 _ (0, 0) _ _ rfl rfl (H30.out.rowV 2 rfl) Tryd.underlying34 rfl (info_note z HZL.out)) rfl ?_
      exact takeNew_err HE.out H30.out.below HZ.out
  have hk4 := hk
  clear hk
  · skip
    have HF : Hid (∀ w, Calls Tryd.prog 21 #[.int .u8 (c.toNat : Int)] w fun e w' => e = .returned (.int .u8 0) ∧ w = w') := by
      intro w
      have h := fields_any c.toNat hx1 w
      have e : fieldsN c.toNat = 0 := by unfold fieldsN; rw [if_neg hk1, if_neg hk2, if_neg hk3, if_neg hk4]
      rw [e] at h
      exact h
    have HRF : Hid (right ({ zeroN with kind := c } : Nte) = false) := by
      show _ = false
      rw [right_by]
      unfold fieldsN
      rw [if_neg hk1, if_neg hk2, if_neg hk3, if_neg hk4]
      simp
    have HE : Hid (X = (zeroN, 100)) := by
      show X = _
      rw [HX.out, if_neg]
      rintro ⟨_, h⟩
      have hkk := right_kind h
      rw [parse_kind, HR1.out] at hkk
      simp only [UInt8.ofNat_toNat] at hkk
      obtain ⟨i1, i2, i3, i4⟩ := kind_is c
      rcases hkk with h | h | h | h
      · exact hk1 (i1.1 h)
      · exact hk2 (i2.1 h)
      · exact hk3 (i3.1 h)
      · exact hk4 (i4.1 h)
    clear hk1 hk2 hk3 hk4 hl1
    have d0 : W5.cell? ⟨b5, 0, none⟩ = some (.int .u8 (c.toNat : Int)) := (H5.out.cellV 1 rfl 0 rfl).1
    go_wp2_with (first
      | (refine Own.wpList_built rfl 34 #[(0, .tmp 11)] rfl cs.toArray ?_ ?_; · (simp only [List.map_toArray, List.map_cons, List.map_nil, List.toList_toArray]; exact BE.out))
      | (refine Own.wpList_allocZ rfl 34 rfl z.toArray HZ2.out ?_; rw [← HB5.out, ← HW4.out])
      | (refine wpList_store_mid rfl 34 (.tmp 5) (.tmp 12) rfl b5 0 cs.toArray rfl rfl TH.out IO.out OO.out ?_; rw [← HW5.out]))
    clear HB5 HW4 HW5 TH IO OO BE HCS
    refine (HF.out _).mono ?_
    clear d0
    rintro e wf ⟨rfl, rfl⟩
    go_wp2_with (fail)
    obtain ⟨fn, hfn⟩ : ∃ f, f = r1.fin := ⟨_, rfl⟩
    have CE := Cod.end_st H5.out 0 rfl
    rw [← hfn] at CE
    refine CE.mono ?_
    clear CE
    rintro e w20 ⟨rfl, rfl⟩
    have HFN := Lib.hid hfn
    clear hfn
    by_cases hf : fn = 0
    · subst hf
      obtain ⟨c9, hc9⟩ : ∃ x, x = ntC (⟨c, 0, 0, zsum, 0, []⟩ : Nte) nilV := ⟨_, rfl⟩
      have H21 : Hid (Own.St w.heap.size w W5 (Cod.AR q r1 :: AVals b5 34 c9 :: AVals b2 34 z :: [])) := by rw [hc9]; exact H5.out
      have NL : Hid (c9.length = 37) := by show _ = 37; rw [hc9]; exact ntC_len _ _ HSZ.out
      have RN : Hid (W5.rangeAt b5 0 c9) := fun j v hv => by rw [Nat.zero_add]; exact (H21.out.cellV 1 rfl j hv).1
      obtain ⟨rt, hrt⟩ : ∃ b, b = right (⟨c, 0, 0, zsum, 0, []⟩ : Nte) := ⟨_, rfl⟩
      have CR : Hid (Calls Tryd.prog 18 #[.agg c9.toArray] W5 fun e w' => e = .returned (.bool rt) ∧ Below W5.heap.size W5 w') := by
        rw [hc9, hrt]
        exact lRight_any (⟨c, 0, 0, zsum, 0, []⟩ : Nte) HSZ.out none 0 0 rfl (by omega) W5
      have HRT := Lib.hid hrt
      have HC9 := Lib.hid hc9
      clear hc9 hrt H5
      go_wp2_with (refine wpList_val rfl (load_note c9 NL.out rfl _ (b := b5) (k := 0) RN.out rfl) ?_)
      refine CR.out.mono ?_
      clear CR
      rintro e w22 ⟨rfl, h22⟩
      have H22 := Lib.hid (H21.out.later h22)
      clear h22 H21 RN
      have hrt := HRT.out
      have e := HRF.out
      rw [show right (⟨c, 0, 0, zsum, 0, []⟩ : Nte) = false from e] at hrt
      subst hrt
      have IOz : Hid ((Tryd.prog.info? 34).map (·.size) = some z.toArray.size) := info_noteA z HZL.out
      have OOz : Hid (z.toArray.all (·.oneCell') = true) := by show _ = true; rw [HZ.out]; exact all_oneCell_toArray (ntC_one rfl)
      have THz : Hid (w22.there b2 0 z.toArray.size) := H22.out.thereV 2 rfl (by simp)
      have hset := Own.St.setAll 2 z 0 w22 _ z H22.out rfl (by simp)
      obtain ⟨W30, hW30⟩ : ∃ W, W = w22.setCells b2 0 z.toArray.toList := ⟨_, rfl⟩
      have HW30 := Lib.hid hW30
      have e30 : W30 = w22.setCells b2 0 z := by rw [hW30, List.toList_toArray]
      rw [← e30] at hset
      simp only [List.set_cons_zero, List.set_cons_succ, List.take_zero, List.nil_append] at hset
      have H30 := Lib.hid hset
      clear hset hW30 e30
      go_wp2_with (first
        | (refine Own.wpList_built rfl 34 #[] rfl z.toArray ?_ ?_; · (simp only [List.map_toArray, List.map_nil, List.toList_toArray]; exact HZ0.out))
        | (refine wpList_store_mid rfl 34 (.tmp 2) (.tmp 57) rfl b2 0 z.toArray rfl rfl THz.out IOz.out OOz.out ?_; rw [← HW30.out]))
      refine bodyPost_ret (results_cell_two rfl _ _ b2 34 _ (0, 0) _ _ rfl rfl (H30.out.rowV 2 rfl) Tryd.underlying34 rfl (info_note z HZL.out)) rfl ?_
      exact takeNew_err HE.out H30.out.below HZ.out
    · have g : (fn != 0) = true := by simpa using hf
      have IOz : Hid ((Tryd.prog.info? 34).map (·.size) = some z.toArray.size) := info_noteA z HZL.out
      have OOz : Hid (z.toArray.all (·.oneCell') = true) := by show _ = true; rw [HZ.out]; exact all_oneCell_toArray (ntC_one rfl)
      have THz : Hid (W5.there b2 0 z.toArray.size) := H5.out.thereV 2 rfl (by simp)
      have hset := Own.St.setAll 2 z 0 W5 _ z H5.out rfl (by simp)
      obtain ⟨W30, hW30⟩ : ∃ W, W = W5.setCells b2 0 z.toArray.toList := ⟨_, rfl⟩
      have HW30 := Lib.hid hW30
      have e30 : W30 = W5.setCells b2 0 z := by rw [hW30, List.toList_toArray]
      rw [← e30] at hset
      simp only [List.set_cons_zero, List.set_cons_succ, List.take_zero, List.nil_append] at hset
      have H30 := Lib.hid hset
      clear hset hW30 e30
      go_wp2_with (first
        | (refine Own.wpList_built rfl 34 #[] rfl z.toArray ?_ ?_; · (simp only [List.map_toArray, List.map_nil, List.toList_toArray]; exact HZ0.out))
        | (refine wpList_store_mid rfl 34 (.tmp 2) (.tmp 57) rfl b2 0 z.toArray rfl rfl THz.out IOz.out OOz.out ?_; rw [← HW30.out]))
      refine bodyPost_ret (results_cell_two rfl _ _ b2 34 _ (0, 0) _ _ rfl rfl (H30.out.rowV 2 rfl) Tryd.underlying34 rfl (info_note z HZL.out)) rfl ?_
      exact takeNew_err HE.out H30.out.below HZ.out
theorem kept (W : World) : Kept W where
  right := fun n ao len cap f _ hg hb => lRight_any n f.sum ao len cap hg.size hb _
  lay := fun n ao len cap f _ hg hb => lLay_any n f ao len cap _ hg hb
  take := fun ao n cap p _ hg hb => lTake_any ao n cap p _ hg hb
  pages := fun n ao len cap f _ hg hb => lPages_any n f ao len cap _ hg hb
end Rec
end Go.Proofs.YtllmogicmimjlaaDoor

end
section
namespace Go.Own
open Go.RowKit
/-- a type of c cells, its zero value -/
structure Boxy (P : Program) (ty : TypeId) (c : Nat) : Prop where
  zero : ∃ z : Array Value, (P.info? ty).bind (·.zero) = some (.agg z) ∧ z.size = c
  size : (P.info? ty).map (·.size) = some c
theorem boxy_of {P : Program} {ty : TypeId} {c : Nat} (z : Array Value) (h : (P.info? ty).bind (·.zero) = some (.agg z)) (hz : z.size = c) (hs : (P.info? ty).map (·.size) = some c) : Boxy P ty c := ⟨⟨z, h, hz⟩, hs⟩
section
variable {P : Program} {B : Nat} {w0 : World} {Ps : List Asn}
/-- x := value -/
theorem wpList_box2 {ops : Array Oper} {rest : List Oper} {o1 o2 : Oper} {a : Act} {w : World} {Q : Exit → Act → World → Prop} {ty : TypeId} {c : Nat} (O : Boxy P ty c) (hg1 : o1.guard = none) (hg2 : o2.guard = none) (ho1 : o1.op = .alloc ty) (x y : Operand) (ho2 : o2.op = .store ty x y) (hd2 : o2.dst = none)
    (cs : List Value) (hx : ∀ v, (a.put o1.dst v).eval x = v) (hy : ∀ v, (a.put o1.dst v).eval y = .agg cs.toArray) (hc : cs.length = c) (h1 : ∀ u ∈ cs, u.oneCell' = true) (H : St B w0 w Ps)
    (h : ∀ b w', St B w0 w' (AVals b ty cs :: Ps) → wpList P ops Q rest (a.put o1.dst (.pointer (some ⟨b, 0, none⟩))) w') : wpList P ops Q (o1 :: o2 :: rest) a w := by
  obtain ⟨z, hz, hzl⟩ := O.zero
  refine wpList_allocZ hg1 ty ho1 z hz ?_
  have hb := H.boxV ty z.toList
  have hzz : z.toList.toArray = z := by simp
  rw [hzz] at hb
  have ht : (w.alloc (.cells z ty)).there w.heap.size 0 cs.toArray.size := hb.thereV 0 rfl (by rw [List.size_toArray, hc, Array.length_toList, hzl]; exact Nat.le_refl _)
  refine wpList_store_mid hg2 ty x y ho2 w.heap.size 0 cs.toArray (hx _) (hy _) ht (by rw [List.size_toArray, hc]; exact O.size) (all_oneCell_toArray h1) ?_
  have hs := St.setAll 0 cs 0 _ _ z.toList hb rfl (by rw [Nat.zero_add, hc, Array.length_toList, hzl])
  simp only [List.set_cons_zero, List.take_zero, List.nil_append] at hs
  rw [hd2, List.toList_toArray]
  exact h _ _ hs
/-- such a variable is loaded -/
theorem St.boxRange {w : World} {b : Nat} {ty : TypeId} {cs : List Value} (H : St B w0 w Ps) (i : Nat) (hi : Ps[i]? = some (AVals b ty cs)) : w.rangeAt b 0 cs := fun j v hv => by rw [Nat.zero_add]; exact (H.cellV i hi j hv).1
end
end Go.Own

end
section
namespace Go.Own
open Go.RowKit
section
variable {P : Program} {B : Nat} {w0 w : World} {Ps : List Asn} {t e : TypeId} {size bytes : Nat}
end
end Go.Own
namespace Go.Proofs.YtllmogicmimjlaaDoor
open Go.RowKit Go.Own
namespace Pag
open Go.PagM Byt
/-- a slice's value, whose bytes are those -/
def SliceOf (w : World) (p : PagM.Bs) (v : Value) : Prop := ∃ aj cj, v = .slice aj p.length cj ∧ Given w aj p.length cj p
theorem SliceOf.later {w w' : World} {p : PagM.Bs} {v : Value} (h : SliceOf w p v) (g : Below w.heap.size w w') : SliceOf w' p v := by
  obtain ⟨aj, cj, e, h⟩ := h
  exact ⟨aj, cj, e, h.later g⟩
/-- a list of slices of one's own may be given -/
theorem givenL_row {B : Nat} {w0 w : World} {Ps : List Asn} (i : Nat) {ao : Option Addr} {n cap : Nat} {vs : List Value} {L : List PagM.Bs} (H : Own.St B w0 w Ps) (hi : Ps[i]? = some (ARow 22 1 (.slice ao n cap) n vs)) (hL : L.length = n) (hv : ∀ j, j < n → ∃ v, vs[j]? = some v ∧ SliceOf w (L.getD j []) v) : GivenL w ao n cap L := by
  obtain ⟨h0, h1, h2, h3⟩ := H.rowLen i hi
  refine ⟨hL, ⟨h1, h2⟩, fun e => (h3 e).2, fun j hj => ?_⟩
  obtain ⟨g, rfl, ⟨u, hu, hc⟩, _, _⟩ := H.rowAt i hi j (by omega)
  obtain ⟨v, hv1, aj, cj, e, hg⟩ := hv j hj
  rw [hu] at hv1
  cases hv1
  subst e
  exact ⟨g, 0, aj, cj, rfl, World.block_lt_of_cell? w _ hc, by rw [Nat.zero_add]; exact hc, hg⟩
end Pag
end Go.Proofs.YtllmogicmimjlaaDoor

end
section
namespace Go.Proofs.YtllmogicmimjlaaDoor
open Go.RowKit Go.Own
namespace Lga
open Go.LogM Byt
theorem boxy_note : Boxy Tryd.prog 34 37 := boxy_of (Rec.ntC RecM.zeroN Rec.nilV).toArray Rec.zero_note rfl (by kernel_rfl)
end Lga
end Go.Proofs.YtllmogicmimjlaaDoor

end
section
namespace Go.Own
open Go.RowKit
/-- a slice that reads as these cells -/
def RdRow (w : World) (v : Value) (n : Nat) (xs : List Value) : Prop := ∃ ao cap, v = .slice ao n cap ∧ (n = 0 ∨ ∃ g, ao = some ⟨g, 0, none⟩ ∧ ∀ j u, xs[j]? = some u → w.cell? ⟨g, j, none⟩ = some u)
theorem cellLater' {W w : World} {a : Addr} {v : Value} (h : W.cell? a = some v) (hb : Below W.heap.size W w) : w.cell? a = some v := by
  have hlt : a.block < W.heap.size := by
    unfold World.cell? at h
    rcases Nat.lt_or_ge a.block W.heap.size with h1 | h1
    · exact h1
    · rw [Array.getElem?_eq_none h1] at h; simp at h
  unfold World.cell? at h ⊢
  rw [hb.block a.block hlt]
  exact h
theorem RdRow.later {W w : World} {v : Value} {n : Nat} {xs : List Value} (h : RdRow W v n xs) (hb : Below W.heap.size W w) : RdRow w v n xs := by
  obtain ⟨ao, cap, rfl, h⟩ := h
  refine ⟨ao, cap, rfl, ?_⟩
  rcases h with h | ⟨g, e, h⟩
  · exact .inl h
  · exact .inr ⟨g, e, fun j u hu => cellLater' (h j u hu) hb⟩
end Go.Own
namespace Go.Proofs.YtllmogicmimjlaaDoor
open Go.RowKit Go.Own
namespace Tab
open Go.TabM
end Tab
end Go.Proofs.YtllmogicmimjlaaDoor

end
section
namespace Go.Proofs.YtllmogicmimjlaaDoor
open Go.RowKit Go.Own
namespace Tab
open Go.TabM
structure Kept (W : World) where
  A : Nat → T → Asn
section
variable {B : Nat} {w0 w : World} {Ps : List Asn} {p : Nat} {t : T} {N : Nat}
end
end Tab
end Go.Proofs.YtllmogicmimjlaaDoor

end
section
namespace Go.Own
open Go.RowKit
theorem St.only {B : Nat} {w0 w : World} {P : Asn} {Ps : List Asn} (h : St B w0 w (P :: Ps)) : St B w0 w [P] := by
  have h2 := (h.perm (List.perm_append_comm (l₁ := [P]) (l₂ := Ps))).drop Ps.length
  rw [List.drop_left] at h2
  exact h2
end Go.Own
namespace Go.LogM
end Go.LogM
namespace Go.Proofs.YtllmogicmimjlaaDoor
open Go.RowKit Go.Own
namespace Lga
open Go.LogM Byt
open Cod (RS)
end Lga
end Go.Proofs.YtllmogicmimjlaaDoor

end
section
namespace Go.MatM

abbrev Bs := List UInt8
def by' (b : Bs) (i : Nat) : UInt8 := b.getD i 0

/-- counted on from n, at most f more -/
def cnt (b : Bs) (i k : Nat) : Nat → Nat → Nat
  | 0, n => n
  | f + 1, n => if i + n < b.length ∧ k + n < b.length ∧ by' b (i + n) = by' b (k + n) then cnt b i k f (n + 1) else n
/-- P5.1 for places that are there -/
def com (b : Bs) (i k : Nat) : Nat := cnt b i k 130 0

theorem cnt_le (b : Bs) (i k f n : Nat) : n ≤ cnt b i k f n ∧ cnt b i k f n ≤ n + f := by
  induction f generalizing n with
  | zero => simp [cnt]
  | succ f ih =>
    unfold cnt
    split
    · have := ih (n + 1); omega
    · omega
theorem cnt_same (b : Bs) (i k f n : Nat) : ∀ j, n ≤ j → j < cnt b i k f n → i + j < b.length ∧ k + j < b.length ∧ by' b (i + j) = by' b (k + j) := by
  induction f generalizing n with
  | zero => intro j h1 h2; simp [cnt] at h2; omega
  | succ f ih =>
    intro j h1 h2
    unfold cnt at h2
    split at h2
    · rename_i hc
      by_cases hj : j = n
      · subst hj; exact hc
      · exact ih (n + 1) j (by omega) h2
    · omega
theorem cnt_stop (b : Bs) (i k f n : Nat) (h : cnt b i k f n < n + f) : ¬ (i + cnt b i k f n < b.length ∧ k + cnt b i k f n < b.length ∧ by' b (i + cnt b i k f n) = by' b (k + cnt b i k f n)) := by
  induction f generalizing n with
  | zero => simp [cnt] at h
  | succ f ih =>
    unfold cnt at h ⊢
    split
    · rename_i hc
      rw [if_pos hc] at h
      exact ih (n + 1) (by omega)
    · rename_i hc; exact hc
theorem com_le (b : Bs) (i k : Nat) : com b i k ≤ 130 := by have := cnt_le b i k 130 0; unfold com; omega
theorem com_same (b : Bs) (i k j : Nat) (h : j < com b i k) : i + j < b.length ∧ k + j < b.length ∧ by' b (i + j) = by' b (k + j) := cnt_same b i k 130 0 j (Nat.zero_le _) h
theorem com_stop (b : Bs) (i k : Nat) (h : com b i k < 130) : ¬ (i + com b i k < b.length ∧ k + com b i k < b.length ∧ by' b (i + com b i k) = by' b (k + com b i k)) := cnt_stop b i k 130 0 (by unfold com at h; omega)
/-- at least so many are the same -/
theorem com_ge (b : Bs) (i k m : Nat) (hm : m ≤ 130) (h : ∀ j, j < m → i + j < b.length ∧ k + j < b.length ∧ by' b (i + j) = by' b (k + j)) : m ≤ com b i k := by
  rcases Nat.lt_or_ge (com b i k) m with hc | hc
  · exact absurd (h _ hc) (com_stop b i k (by omega))
  · exact hc

/-- the best of the distances 1 to d: the first of the longest -/
def best (b : Bs) (at' : Nat) : Nat → Nat × Nat
  | 0 => (0, 0)
  | d + 1 => if (best b at' d).2 < com b (at' - (d + 1)) at' then (d + 1, com b (at' - (d + 1)) at') else best b at' d
def dmax (b : Bs) (at' : Nat) : Nat := if at' < b.length then min 256 at' else 0
/-- P5.2 -/
def longest (b : Bs) (at' : Nat) : Nat × Nat := if (best b at' (dmax b at')).2 < 3 then (0, 0) else best b at' (dmax b at')

theorem best_max (b : Bs) (at' D d : Nat) (h1 : 1 ≤ d) (h2 : d ≤ D) : com b (at' - d) at' ≤ (best b at' D).2 := by
  induction D with
  | zero => omega
  | succ D ih =>
    unfold best
    by_cases hd : d = D + 1
    · subst hd; split
      · exact Nat.le_refl _
      · omega
    · have := ih (by omega)
      split
      · simp only; omega
      · exact this
theorem best_is (b : Bs) (at' D : Nat) (h : 0 < (best b at' D).2) : 1 ≤ (best b at' D).1 ∧ (best b at' D).1 ≤ D ∧ com b (at' - (best b at' D).1) at' = (best b at' D).2 ∧ ∀ d, 1 ≤ d → d < (best b at' D).1 → com b (at' - d) at' < (best b at' D).2 := by
  induction D with
  | zero => simp [best] at h
  | succ D ih =>
    unfold best at h ⊢
    split
    · rename_i hc
      refine ⟨by simp, by simp, rfl, fun d h1 h2 => ?_⟩
      have := best_max b at' D d h1 (by simp only at h2; omega)
      simp only; omega
    · rename_i hc
      rw [if_neg hc] at h
      obtain ⟨a1, a2, a3, a4⟩ := ih h
      exact ⟨a1, by omega, a3, a4⟩
/-- what a match is -/
theorem longest_runs (b : Bs) (at' d n : Nat) (h : longest b at' = (d, n)) (hd : ¬ (d = 0 ∧ n = 0)) :
    1 ≤ d ∧ d ≤ 256 ∧ d ≤ at' ∧ 3 ≤ n ∧ n ≤ 130 ∧ at' + n ≤ b.length ∧ (∀ k, k < n → by' b (at' + k) = by' b (at' + k - d)) ∧ (n < 130 → at' + n < b.length → by' b (at' + n) ≠ by' b (at' + n - d)) := by
  unfold longest at h
  split at h
  · simp only [Prod.mk.injEq] at h; omega
  · rename_i h3
    have hb := best_is b at' (dmax b at') (by omega)
    rw [h] at hb h3
    simp only at hb h3
    obtain ⟨a1, a2, a3, a4⟩ := hb
    have hD : dmax b at' ≤ 256 ∧ dmax b at' ≤ at' := by unfold dmax; split <;> omega
    have hl := com_le b (at' - d) at'
    refine ⟨a1, by omega, by omega, by omega, by omega, ?_, fun k hk => ?_, fun hn hlen => ?_⟩
    · have := com_same b (at' - d) at' (n - 1) (by omega); omega
    · have := com_same b (at' - d) at' k (by omega)
      rw [show at' + k - d = at' - d + k by omega]
      exact this.2.2.symm
    · have := com_stop b (at' - d) at' (by omega)
      rw [a3] at this
      intro he
      exact this ⟨by omega, hlen, by rw [he]; congr 1; omega⟩

end Go.MatM

end
section
namespace Go.Proofs.YtllmogicmimjlaaDoor
open Go.RowKit Go.Own
namespace Mat
open Go.MatM Byt

/-- P5.1, for any two numbers -/
def comI (l : Bs) (i k : Int) : Nat := if i < 0 ∨ k < 0 ∨ (l.length : Int) ≤ i ∨ (l.length : Int) ≤ k then 0 else com l i.toNat k.toNat

end Mat
end Go.Proofs.YtllmogicmimjlaaDoor

end
