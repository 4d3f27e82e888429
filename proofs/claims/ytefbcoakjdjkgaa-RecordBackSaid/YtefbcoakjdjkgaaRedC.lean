/- The landed record: Lay, Pages. -/
import Derived.Test.YtefbcoakjdjkgaaRedB
import Derived.Test.YtefbcoakjdjkgaaRecRb
import Derived.Test.YtefbcoakjdjkgaaRecQ
import Derived.Test.YtefbcoakjdjkgaaCodS
import Derived.Test.YtefbcoakjdjkgaaCodP
namespace Go.Proofs.Ytefbcoakjdjkgaa
open Go.RowKit Go.Own
namespace Rec
open Go.RecM Byt
section
variable {B : Nat} {w0 w : World} {Ps : List Asn} {p : Nat} {xs : RecM.Bs}
theorem w_new (H : Own.St B w0 w Ps) : Calls Try.prog 19 #[.int .i64 400] w fun e w' => ∃ p, e = .returned (.pointer (some ⟨p, 0, none⟩)) ∧ Own.St B w0 w' (Cod.AW p ⟨400, [], 0⟩ :: Ps) :=
  Cod.newWriter_st H 400 (by decide)
theorem w_num (H : Own.St B w0 w (Cod.AW p ⟨400, xs, 0⟩ :: Ps)) (n k : Nat) (hk : k ≤ 8) {ys : RecM.Bs} (hy : ys = xs ++ RecM.le n k) (hl : ys.length ≤ 400) :
    Calls Try.prog 20 #[.pointer (some ⟨p, 0, none⟩), .int .u64 (n : Int), .int .i64 (k : Int)] w fun e w' => e = .returned (.tuple #[]) ∧ Own.St B w0 w' (Cod.AW p ⟨400, ys, 0⟩ :: Ps) := by
  have hlen : ys.length = xs.length + k := by rw [hy, List.length_append, RecM.le_len]
  have h := Cod.num_st H 0 rfl n (k : Int) (by show xs.length ≤ _; omega)
  rw [Cod.num_fits _ _ _ rfl hk (by show (k : Int) ≤ 400 - (xs.length : Int); omega), cod_le, ← hy] at h
  exact h
theorem w_raw (H : Own.St B w0 w (Cod.AW p ⟨400, xs, 0⟩ :: Ps)) {ao : Option Addr} {bs : RecM.Bs} {m : Nat} (cap : Nat) (hV : View w (fun k => k < B) ao bs) (hm : bs.length = m) {ys : RecM.Bs} (hy : ys = xs ++ bs) (hl : ys.length ≤ 400) :
    Calls Try.prog 22 #[.pointer (some ⟨p, 0, none⟩), .slice ao m cap] w fun e w' => e = .returned (.tuple #[]) ∧ Own.St B w0 w' (Cod.AW p ⟨400, ys, 0⟩ :: Ps) := by
  subst hm
  have hlen : ys.length = xs.length + bs.length := by rw [hy, List.length_append]
  have h := Cod.raw_st H 0 rfl cap hV (by omega) (by show xs.length ≤ _; omega)
  rw [Cod.lay_fits _ _ rfl (by show (bs.length : Int) ≤ 400 - (xs.length : Int); omega), ← hy] at h
  exact h
theorem w_blob (H : Own.St B w0 w (Cod.AW p ⟨400, xs, 0⟩ :: Ps)) {ao : Option Addr} {bs : RecM.Bs} {m : Nat} (cap : Nat) (hV : View w (fun k => k < B) ao bs) (hm : bs.length = m) {ys : RecM.Bs} (hy : ys = xs ++ (RecM.le m 2 ++ bs)) (hl : ys.length ≤ 400) :
    Calls Try.prog 23 #[.pointer (some ⟨p, 0, none⟩), .slice ao m cap] w fun e w' => e = .returned (.tuple #[]) ∧ Own.St B w0 w' (Cod.AW p ⟨400, ys, 0⟩ :: Ps) := by
  subst hm
  have hlen : ys.length = xs.length + (2 + bs.length) := by rw [hy, List.length_append, List.length_append, RecM.le_len]
  have h := Cod.blob_st H 0 rfl cap hV (by omega) (by show xs.length ≤ _; omega)
  rw [Cod.blob_fits _ _ rfl (by omega) (by show ((2 + bs.length : Nat) : Int) ≤ 400 - (xs.length : Int); omega), cod_le, ← hy] at h
  exact h
theorem w_out (H : Own.St B w0 w (Cod.AW p ⟨400, xs, 0⟩ :: Ps)) {m : Nat} (hm : xs.length = m) (hl : m ≤ 400) :
    Calls Try.prog 24 #[.pointer (some ⟨p, 0, none⟩)] w fun e w' => ∃ ao cap, e = .returned (.tuple #[.slice ao m cap, .int .i64 0]) ∧ Own.St B w0 w' (AB ao m cap xs :: Cod.AW p ⟨400, xs, 0⟩ :: Ps) :=
  Cod.out_st H 0 rfl hm (by omega)
end
theorem layDone_ok {x : RecM.Bs × Nat} {l : RecM.Bs} {m : Nat} (hx : x = (l, 0)) {w w1 w' : World} {ao : Option Addr} {cap : Nat} {Ps : List Asn} (hb : Below w.heap.size w w1) (h : Own.St w1.heap.size w1 w' (AB ao m cap l :: Ps)) : LayDone x w (.returned (.tuple #[.slice ao m cap, errN 0])) w' := by
  subst hx
  obtain rfl := (ab_len h 0 rfl).1
  exact ⟨ao, cap, rfl, given_own h 0 rfl, hb.trans (h.below.mono hb.size)⟩
theorem layDone_err {x : RecM.Bs × Nat} {k : Nat} (hx : x = ([], k)) {w w' : World} (h : Below w.heap.size w w') : LayDone x w (.returned (.tuple #[.slice none 0 0, errN k])) w' := by
  subst hx
  exact ⟨none, 0, rfl, ⟨.inl rfl, rfl, ⟨Nat.le_refl _, Nat.zero_le _⟩, fun _ => rfl⟩, h⟩

set_option maxRecDepth 6000 in
set_option maxHeartbeats 8000000 in
theorem lLay_any (n : Nte) (f : Fits n) (ao : Option Addr) (len cap : Nat) (w : World) (hg : Given w ao len cap n.data) (hb : len ≤ 1000000) :
    Calls Try.prog 10 #[.agg (ntC n (.slice ao len cap)).toArray] w (LayDone (lay n) w) := by
  obtain ⟨cs, hcs⟩ : ∃ cs, cs = ntC n (.slice ao len cap) := ⟨_, rfl⟩
  have hbox := (Own.St.start w).boxV 30 cs
  obtain ⟨w1, hw1⟩ : ∃ w1, w1 = w.alloc (.cells cs.toArray 30) := ⟨_, rfl⟩
  rw [← hw1] at hbox
  have NL : Hid (cs.length = 37) := by show cs.length = 37; rw [hcs]; exact ntC_len n _ f.sum
  have RN : Hid (w1.rangeAt w.heap.size 0 cs) := fun j v hv => by rw [Nat.zero_add]; exact (hbox.cellV 0 rfl j hv).1
  have NTO : Hid (∀ wx, Below w1.heap.size w1 wx → _) := fun wx hwx => nt_cells (hbox.later hwx) 0 rfl hcs f.sum
  have CR : Hid (Calls Try.prog 12 #[.agg cs.toArray] w1 fun e w' => e = .returned (.bool (right n)) ∧ Below w1.heap.size w1 w') := by
    rw [hcs]
    exact lRight_any n f.sum ao len cap hg.size hb w1
  have HB1 := Lib.hid hbox.below
  have GV : Hid (∀ wx, Below w1.heap.size w1 wx → View wx (fun k => k < w1.heap.size) ao n.data) := fun wx hwx => View.below ((hg.later hbox.below).view) hwx
  have KV : Hid (∀ wx, Below w1.heap.size w1 wx → View wx (fun k => k < w1.heap.size) (some ⟨w.heap.size, 3, none⟩) n.sum) := by
    intro wx hwx
    have hlt := (hbox.ltV 0 rfl).2
    refine .inr ⟨w.heap.size, 3, rfl, hlt, Nat.lt_of_lt_of_le hlt hwx.size, fun j hj => ?_⟩
    have hc := (hbox.later hwx).cellV 0 rfl (3 + j) (ntC_sum_at hcs f.sum j hj)
    exact hc.1
  have HS := Lib.hid f.sum
  have HDL := Lib.hid hg.size
  have b1 := f.addr
  have b2 := f.seq
  have b3 := f.kn
  have HW1 := Lib.hid hw1
  obtain ⟨X, hX⟩ : ∃ X, X = lay n := ⟨_, rfl⟩
  rw [← hX, ← hcs]
  have HX := Lib.hid hX
  obtain ⟨r, hr⟩ : ∃ r, r = right n := ⟨_, rfl⟩
  rw [← hr] at CR
  have HR := Lib.hid hr.symm
  clear hcs hbox hg hX hr hw1
  cases r
  · have HE : Hid (X = ([], 1)) := by
      show X = _
      rw [HX.out]; unfold lay; rw [HR.out]; rfl
    clear NTO GV KV
    go_enter Try.func10, Try.ntmps10
    go_wp2_with (refine wpList_val rfl (load_note cs NL.out rfl _ (b := w.heap.size) (k := 0) (by rw [← HW1.out]; exact RN.out) rfl) ?_)
    rw [← HW1.out]
    refine CR.out.mono ?_
    clear CR
    rintro e w2 ⟨rfl, h2⟩
    have H2 := Lib.hid (HB1.out.trans (h2.mono HB1.out.size))
    clear h2
    go_wp2_with (fail)
    go_ret2
    exact layDone_err HE.out H2.out
  have HL : Hid (X = (laid n, 0)) := by show X = _; rw [HX.out]; exact lay_of HR.out
  have hk := right_kind HR.out
  have hd3 := right_data HR.out
  rw [HDL.out] at hd3
  obtain ⟨ad, had⟩ : ∃ a, a = n.addr := ⟨_, rfl⟩
  obtain ⟨sq, hsq⟩ : ∃ a, a = n.seq := ⟨_, rfl⟩
  obtain ⟨kn, hkn⟩ : ∃ a, a = n.kn := ⟨_, rfl⟩
  rw [← had] at b1
  rw [← hsq] at b2
  rw [← hkn] at b3
  have HAD := Lib.hid had
  have HSQ := Lib.hid hsq
  have HKN := Lib.hid hkn
  clear had hsq hkn HX
  rcases hk with k0 | k0 | k0 | k0
  · have HKK : Hid ((n.kind.toNat : Int) = 1) := by show (n.kind.toNat : Int) = 1; rw [k0]; rfl
    have HF : Hid (∀ w, Calls Try.prog 21 #[.int .u8 1] w fun e w' => e = .returned (.int .u8 15) ∧ w = w') := fun w => fields_any 1 (by decide) w
    obtain ⟨x0, hx0⟩ : ∃ x, x = ([] : RecM.Bs) ++ RecM.le 1 1 := ⟨_, rfl⟩
    have hxl0 : x0.length = 1 := by rw [hx0]; simp only [List.length_append, RecM.le_len, HS.out, List.length_nil]
    have HY0 := Lib.hid hx0
    have HZ0 : Hid (x0.length ≤ 400) := by show _ ≤ _; omega
    obtain ⟨x1, hx1⟩ : ∃ x, x = x0 ++ RecM.le ad 4 := ⟨_, rfl⟩
    have hxl1 : x1.length = 5 := by rw [hx1]; simp only [List.length_append, RecM.le_len, HS.out, List.length_nil, hxl0]
    have HY1 := Lib.hid hx1
    have HZ1 : Hid (x1.length ≤ 400) := by show _ ≤ _; omega
    obtain ⟨x2, hx2⟩ : ∃ x, x = x1 ++ RecM.le sq 8 := ⟨_, rfl⟩
    have hxl2 : x2.length = 13 := by rw [hx2]; simp only [List.length_append, RecM.le_len, HS.out, List.length_nil, hxl1]
    have HY2 := Lib.hid hx2
    have HZ2 : Hid (x2.length ≤ 400) := by show _ ≤ _; omega
    obtain ⟨x3, hx3⟩ : ∃ x, x = x2 ++ n.sum := ⟨_, rfl⟩
    have hxl3 : x3.length = 45 := by rw [hx3]; simp only [List.length_append, RecM.le_len, HS.out, List.length_nil, hxl2]
    have HY3 := Lib.hid hx3
    have HZ3 : Hid (x3.length ≤ 400) := by show _ ≤ _; omega
    obtain ⟨x4, hx4⟩ : ∃ x, x = x3 ++ RecM.le kn 4 := ⟨_, rfl⟩
    have hxl4 : x4.length = 49 := by rw [hx4]; simp only [List.length_append, RecM.le_len, HS.out, List.length_nil, hxl3]
    have HY4 := Lib.hid hx4
    have HZ4 : Hid (x4.length ≤ 400) := by show _ ≤ _; omega
    obtain ⟨x5, hx5⟩ : ∃ x, x = x4 ++ (RecM.le len 2 ++ n.data) := ⟨_, rfl⟩
    have hxl5 : x5.length = 51 + len := by rw [hx5]; simp only [List.length_append, RecM.le_len, HDL.out, hxl4]; omega
    have HY5 := Lib.hid hx5
    have HZ5 : Hid (x5.length ≤ 400) := by show _ ≤ _; omega
    have HLD : Hid (laid n = x5) := by
      show laid n = x5
      rw [hx5, hx4, hx3, hx2, hx1, hx0]
      try rw [HAD.out]
      try rw [HSQ.out]
      try rw [← HDL.out]
      try rw [HKN.out]
      unfold laid
      rw [k0]
      simp [RecM.tail, RecM.le]
    have HXL := Lib.hid hxl5
    have HTOT : Hid (51 + len ≤ 400) := by show _ ≤ _; omega
    clear k0 hx0 hxl0 hx1 hxl1 hx2 hxl2 hx3 hxl3 hx4 hxl4 hx5 hxl5
    go_enter Try.func10, Try.ntmps10
    go_wp2_with (refine wpList_val rfl (load_note cs NL.out rfl _ (b := w.heap.size) (k := 0) (by rw [← HW1.out]; exact RN.out) rfl) ?_)
    rw [← HW1.out]
    refine CR.out.mono ?_
    clear CR
    rintro e w2 ⟨rfl, h2⟩
    have H2 := Lib.hid ((Own.St.start w1).later h2)
    clear h2
    go_wp2_with (fail)
    refine (w_new H2.out).mono ?_
    rintro e w3 ⟨p, rfl, h3⟩
    have nc := NTO.out _ h3.below
    rw [HKK.out, ← HAD.out, ← HSQ.out, ← HKN.out] at nc
    have d0 := nc.1
    have d1 := nc.2.1
    have d2 := nc.2.2.1
    have d35 := nc.2.2.2.1
    have d36 := nc.2.2.2.2.1
    clear nc
    have GW := Lib.hid (GV.out _ h3.below)
    have KW := Lib.hid (KV.out _ h3.below)
    have HH0 := Lib.hid h3
    clear h3
    go_wp2_with (fail)
    refine (w_num HH0.out 1 1 (by decide) HY0.out HZ0.out).mono ?_
    clear d0 d1 d2 d35 d36 GW KW
    rintro e w4 ⟨rfl, h4⟩
    have nc := NTO.out _ h4.below
    rw [HKK.out, ← HAD.out, ← HSQ.out, ← HKN.out] at nc
    have d0 := nc.1
    have d1 := nc.2.1
    have d2 := nc.2.2.1
    have d35 := nc.2.2.2.1
    have d36 := nc.2.2.2.2.1
    clear nc
    have GW := Lib.hid (GV.out _ h4.below)
    have KW := Lib.hid (KV.out _ h4.below)
    have HH1 := Lib.hid h4
    clear h4
    clear HH0
    go_wp2_with (fail)
    refine (HF.out _).mono ?_
    rintro e wf ⟨rfl, rfl⟩
    go_wp2_with (fail)
    refine (w_num HH1.out ad 4 (by decide) HY1.out HZ1.out).mono ?_
    clear d0 d1 d2 d35 d36 GW KW
    rintro e w5 ⟨rfl, h5⟩
    have nc := NTO.out _ h5.below
    rw [HKK.out, ← HAD.out, ← HSQ.out, ← HKN.out] at nc
    have d0 := nc.1
    have d1 := nc.2.1
    have d2 := nc.2.2.1
    have d35 := nc.2.2.2.1
    have d36 := nc.2.2.2.2.1
    clear nc
    have GW := Lib.hid (GV.out _ h5.below)
    have KW := Lib.hid (KV.out _ h5.below)
    have HH2 := Lib.hid h5
    clear h5
    clear HH1
    go_wp2_with (fail)
    refine (w_num HH2.out sq 8 (by decide) HY2.out HZ2.out).mono ?_
    clear d0 d1 d2 d35 d36 GW KW
    rintro e w6 ⟨rfl, h6⟩
    have nc := NTO.out _ h6.below
    rw [HKK.out, ← HAD.out, ← HSQ.out, ← HKN.out] at nc
    have d0 := nc.1
    have d1 := nc.2.1
    have d2 := nc.2.2.1
    have d35 := nc.2.2.2.1
    have d36 := nc.2.2.2.2.1
    clear nc
    have GW := Lib.hid (GV.out _ h6.below)
    have KW := Lib.hid (KV.out _ h6.below)
    have HH3 := Lib.hid h6
    clear h6
    clear HH2
    go_wp2_with (fail)
    refine (w_raw HH3.out 32 KW.out HS.out HY3.out HZ3.out).mono ?_
    clear d0 d1 d2 d35 d36 GW KW
    rintro e w7 ⟨rfl, h7⟩
    have nc := NTO.out _ h7.below
    rw [HKK.out, ← HAD.out, ← HSQ.out, ← HKN.out] at nc
    have d0 := nc.1
    have d1 := nc.2.1
    have d2 := nc.2.2.1
    have d35 := nc.2.2.2.1
    have d36 := nc.2.2.2.2.1
    clear nc
    have GW := Lib.hid (GV.out _ h7.below)
    have KW := Lib.hid (KV.out _ h7.below)
    have HH4 := Lib.hid h7
    clear h7
    clear HH3
    go_wp2_with (fail)
    refine (w_num HH4.out kn 4 (by decide) HY4.out HZ4.out).mono ?_
    clear d0 d1 d2 d35 d36 GW KW
    rintro e w8 ⟨rfl, h8⟩
    have nc := NTO.out _ h8.below
    rw [HKK.out, ← HAD.out, ← HSQ.out, ← HKN.out] at nc
    have d0 := nc.1
    have d1 := nc.2.1
    have d2 := nc.2.2.1
    have d35 := nc.2.2.2.1
    have d36 := nc.2.2.2.2.1
    clear nc
    have GW := Lib.hid (GV.out _ h8.below)
    have KW := Lib.hid (KV.out _ h8.below)
    have HH5 := Lib.hid h8
    clear h8
    clear HH4
    go_wp2_with (fail)
    refine (w_blob HH5.out cap GW.out HDL.out HY5.out HZ5.out).mono ?_
    clear d0 d1 d2 d35 d36 GW KW
    rintro e w9 ⟨rfl, h9⟩
    have nc := NTO.out _ h9.below
    rw [HKK.out, ← HAD.out, ← HSQ.out, ← HKN.out] at nc
    have d0 := nc.1
    have d1 := nc.2.1
    have d2 := nc.2.2.1
    have d35 := nc.2.2.2.1
    have d36 := nc.2.2.2.2.1
    clear nc
    have GW := Lib.hid (GV.out _ h9.below)
    have KW := Lib.hid (KV.out _ h9.below)
    have HH6 := Lib.hid h9
    clear h9
    clear HH5
    go_wp2_with (fail)
    refine (w_out HH6.out HXL.out HTOT.out).mono ?_
    clear d0 d1 d2 d35 d36 GW KW
    rintro e w30 ⟨a2, c2, rfl, h30⟩
    have H30 := Lib.hid h30
    clear h30
    go_wp2_with (fail)
    go_ret2
    refine layDone_ok (by rw [HL.out, HLD.out]) HB1.out H30.out
  · have HKK : Hid ((n.kind.toNat : Int) = 2) := by show (n.kind.toNat : Int) = 2; rw [k0]; rfl
    have HF : Hid (∀ w, Calls Try.prog 21 #[.int .u8 2] w fun e w' => e = .returned (.int .u8 3) ∧ w = w') := fun w => fields_any 2 (by decide) w
    obtain ⟨x0, hx0⟩ : ∃ x, x = ([] : RecM.Bs) ++ RecM.le 2 1 := ⟨_, rfl⟩
    have hxl0 : x0.length = 1 := by rw [hx0]; simp only [List.length_append, RecM.le_len, HS.out, List.length_nil]
    have HY0 := Lib.hid hx0
    have HZ0 : Hid (x0.length ≤ 400) := by show _ ≤ _; omega
    obtain ⟨x1, hx1⟩ : ∃ x, x = x0 ++ RecM.le ad 4 := ⟨_, rfl⟩
    have hxl1 : x1.length = 5 := by rw [hx1]; simp only [List.length_append, RecM.le_len, HS.out, List.length_nil, hxl0]
    have HY1 := Lib.hid hx1
    have HZ1 : Hid (x1.length ≤ 400) := by show _ ≤ _; omega
    obtain ⟨x2, hx2⟩ : ∃ x, x = x1 ++ RecM.le sq 8 := ⟨_, rfl⟩
    have hxl2 : x2.length = 13 := by rw [hx2]; simp only [List.length_append, RecM.le_len, HS.out, List.length_nil, hxl1]
    have HY2 := Lib.hid hx2
    have HZ2 : Hid (x2.length ≤ 400) := by show _ ≤ _; omega
    have HLD : Hid (laid n = x2) := by
      show laid n = x2
      rw [hx2, hx1, hx0]
      try rw [HAD.out]
      try rw [HSQ.out]
      try rw [← HDL.out]
      try rw [HKN.out]
      unfold laid
      rw [k0]
      simp [RecM.tail, RecM.le]
    have HXL := Lib.hid hxl2
    have HTOT : Hid (13 ≤ 400) := by show _ ≤ _; omega
    clear k0 hx0 hxl0 hx1 hxl1 hx2 hxl2
    go_enter Try.func10, Try.ntmps10
    go_wp2_with (refine wpList_val rfl (load_note cs NL.out rfl _ (b := w.heap.size) (k := 0) (by rw [← HW1.out]; exact RN.out) rfl) ?_)
    rw [← HW1.out]
    refine CR.out.mono ?_
    clear CR
    rintro e w2 ⟨rfl, h2⟩
    have H2 := Lib.hid ((Own.St.start w1).later h2)
    clear h2
    go_wp2_with (fail)
    refine (w_new H2.out).mono ?_
    rintro e w3 ⟨p, rfl, h3⟩
    have nc := NTO.out _ h3.below
    rw [HKK.out, ← HAD.out, ← HSQ.out, ← HKN.out] at nc
    have d0 := nc.1
    have d1 := nc.2.1
    have d2 := nc.2.2.1
    have d35 := nc.2.2.2.1
    have d36 := nc.2.2.2.2.1
    clear nc
    have GW := Lib.hid (GV.out _ h3.below)
    have KW := Lib.hid (KV.out _ h3.below)
    have HH0 := Lib.hid h3
    clear h3
    go_wp2_with (fail)
    refine (w_num HH0.out 2 1 (by decide) HY0.out HZ0.out).mono ?_
    clear d0 d1 d2 d35 d36 GW KW
    rintro e w4 ⟨rfl, h4⟩
    have nc := NTO.out _ h4.below
    rw [HKK.out, ← HAD.out, ← HSQ.out, ← HKN.out] at nc
    have d0 := nc.1
    have d1 := nc.2.1
    have d2 := nc.2.2.1
    have d35 := nc.2.2.2.1
    have d36 := nc.2.2.2.2.1
    clear nc
    have GW := Lib.hid (GV.out _ h4.below)
    have KW := Lib.hid (KV.out _ h4.below)
    have HH1 := Lib.hid h4
    clear h4
    clear HH0
    go_wp2_with (fail)
    refine (HF.out _).mono ?_
    rintro e wf ⟨rfl, rfl⟩
    go_wp2_with (fail)
    refine (w_num HH1.out ad 4 (by decide) HY1.out HZ1.out).mono ?_
    clear d0 d1 d2 d35 d36 GW KW
    rintro e w5 ⟨rfl, h5⟩
    have nc := NTO.out _ h5.below
    rw [HKK.out, ← HAD.out, ← HSQ.out, ← HKN.out] at nc
    have d0 := nc.1
    have d1 := nc.2.1
    have d2 := nc.2.2.1
    have d35 := nc.2.2.2.1
    have d36 := nc.2.2.2.2.1
    clear nc
    have GW := Lib.hid (GV.out _ h5.below)
    have KW := Lib.hid (KV.out _ h5.below)
    have HH2 := Lib.hid h5
    clear h5
    clear HH1
    go_wp2_with (fail)
    refine (w_num HH2.out sq 8 (by decide) HY2.out HZ2.out).mono ?_
    clear d0 d1 d2 d35 d36 GW KW
    rintro e w6 ⟨rfl, h6⟩
    have nc := NTO.out _ h6.below
    rw [HKK.out, ← HAD.out, ← HSQ.out, ← HKN.out] at nc
    have d0 := nc.1
    have d1 := nc.2.1
    have d2 := nc.2.2.1
    have d35 := nc.2.2.2.1
    have d36 := nc.2.2.2.2.1
    clear nc
    have GW := Lib.hid (GV.out _ h6.below)
    have KW := Lib.hid (KV.out _ h6.below)
    have HH3 := Lib.hid h6
    clear h6
    clear HH2
    go_wp2_with (fail)
    refine (w_out HH3.out HXL.out HTOT.out).mono ?_
    clear d0 d1 d2 d35 d36 GW KW
    rintro e w30 ⟨a2, c2, rfl, h30⟩
    have H30 := Lib.hid h30
    clear h30
    go_wp2_with (fail)
    go_ret2
    refine layDone_ok (by rw [HL.out, HLD.out]) HB1.out H30.out
  · have HKK : Hid ((n.kind.toNat : Int) = 3) := by show (n.kind.toNat : Int) = 3; rw [k0]; rfl
    have HF : Hid (∀ w, Calls Try.prog 21 #[.int .u8 3] w fun e w' => e = .returned (.int .u8 2) ∧ w = w') := fun w => fields_any 3 (by decide) w
    obtain ⟨x0, hx0⟩ : ∃ x, x = ([] : RecM.Bs) ++ RecM.le 3 1 := ⟨_, rfl⟩
    have hxl0 : x0.length = 1 := by rw [hx0]; simp only [List.length_append, RecM.le_len, HS.out, List.length_nil]
    have HY0 := Lib.hid hx0
    have HZ0 : Hid (x0.length ≤ 400) := by show _ ≤ _; omega
    obtain ⟨x1, hx1⟩ : ∃ x, x = x0 ++ RecM.le sq 8 := ⟨_, rfl⟩
    have hxl1 : x1.length = 9 := by rw [hx1]; simp only [List.length_append, RecM.le_len, HS.out, List.length_nil, hxl0]
    have HY1 := Lib.hid hx1
    have HZ1 : Hid (x1.length ≤ 400) := by show _ ≤ _; omega
    have HLD : Hid (laid n = x1) := by
      show laid n = x1
      rw [hx1, hx0]
      try rw [HAD.out]
      try rw [HSQ.out]
      try rw [← HDL.out]
      try rw [HKN.out]
      unfold laid
      rw [k0]
      simp [RecM.tail, RecM.le]
    have HXL := Lib.hid hxl1
    have HTOT : Hid (9 ≤ 400) := by show _ ≤ _; omega
    clear k0 hx0 hxl0 hx1 hxl1
    go_enter Try.func10, Try.ntmps10
    go_wp2_with (refine wpList_val rfl (load_note cs NL.out rfl _ (b := w.heap.size) (k := 0) (by rw [← HW1.out]; exact RN.out) rfl) ?_)
    rw [← HW1.out]
    refine CR.out.mono ?_
    clear CR
    rintro e w2 ⟨rfl, h2⟩
    have H2 := Lib.hid ((Own.St.start w1).later h2)
    clear h2
    go_wp2_with (fail)
    refine (w_new H2.out).mono ?_
    rintro e w3 ⟨p, rfl, h3⟩
    have nc := NTO.out _ h3.below
    rw [HKK.out, ← HAD.out, ← HSQ.out, ← HKN.out] at nc
    have d0 := nc.1
    have d1 := nc.2.1
    have d2 := nc.2.2.1
    have d35 := nc.2.2.2.1
    have d36 := nc.2.2.2.2.1
    clear nc
    have GW := Lib.hid (GV.out _ h3.below)
    have KW := Lib.hid (KV.out _ h3.below)
    have HH0 := Lib.hid h3
    clear h3
    go_wp2_with (fail)
    refine (w_num HH0.out 3 1 (by decide) HY0.out HZ0.out).mono ?_
    clear d0 d1 d2 d35 d36 GW KW
    rintro e w4 ⟨rfl, h4⟩
    have nc := NTO.out _ h4.below
    rw [HKK.out, ← HAD.out, ← HSQ.out, ← HKN.out] at nc
    have d0 := nc.1
    have d1 := nc.2.1
    have d2 := nc.2.2.1
    have d35 := nc.2.2.2.1
    have d36 := nc.2.2.2.2.1
    clear nc
    have GW := Lib.hid (GV.out _ h4.below)
    have KW := Lib.hid (KV.out _ h4.below)
    have HH1 := Lib.hid h4
    clear h4
    clear HH0
    go_wp2_with (fail)
    refine (HF.out _).mono ?_
    rintro e wf ⟨rfl, rfl⟩
    go_wp2_with (fail)
    refine (w_num HH1.out sq 8 (by decide) HY1.out HZ1.out).mono ?_
    clear d0 d1 d2 d35 d36 GW KW
    rintro e w5 ⟨rfl, h5⟩
    have nc := NTO.out _ h5.below
    rw [HKK.out, ← HAD.out, ← HSQ.out, ← HKN.out] at nc
    have d0 := nc.1
    have d1 := nc.2.1
    have d2 := nc.2.2.1
    have d35 := nc.2.2.2.1
    have d36 := nc.2.2.2.2.1
    clear nc
    have GW := Lib.hid (GV.out _ h5.below)
    have KW := Lib.hid (KV.out _ h5.below)
    have HH2 := Lib.hid h5
    clear h5
    clear HH1
    go_wp2_with (fail)
    refine (w_out HH2.out HXL.out HTOT.out).mono ?_
    clear d0 d1 d2 d35 d36 GW KW
    rintro e w30 ⟨a2, c2, rfl, h30⟩
    have H30 := Lib.hid h30
    clear h30
    go_wp2_with (fail)
    go_ret2
    refine layDone_ok (by rw [HL.out, HLD.out]) HB1.out H30.out
  · have HKK : Hid ((n.kind.toNat : Int) = 4) := by show (n.kind.toNat : Int) = 4; rw [k0]; rfl
    have HF : Hid (∀ w, Calls Try.prog 21 #[.int .u8 4] w fun e w' => e = .returned (.int .u8 12) ∧ w = w') := fun w => fields_any 4 (by decide) w
    obtain ⟨x0, hx0⟩ : ∃ x, x = ([] : RecM.Bs) ++ RecM.le 4 1 := ⟨_, rfl⟩
    have hxl0 : x0.length = 1 := by rw [hx0]; simp only [List.length_append, RecM.le_len, HS.out, List.length_nil]
    have HY0 := Lib.hid hx0
    have HZ0 : Hid (x0.length ≤ 400) := by show _ ≤ _; omega
    obtain ⟨x1, hx1⟩ : ∃ x, x = x0 ++ n.sum := ⟨_, rfl⟩
    have hxl1 : x1.length = 33 := by rw [hx1]; simp only [List.length_append, RecM.le_len, HS.out, List.length_nil, hxl0]
    have HY1 := Lib.hid hx1
    have HZ1 : Hid (x1.length ≤ 400) := by show _ ≤ _; omega
    obtain ⟨x2, hx2⟩ : ∃ x, x = x1 ++ RecM.le kn 4 := ⟨_, rfl⟩
    have hxl2 : x2.length = 37 := by rw [hx2]; simp only [List.length_append, RecM.le_len, HS.out, List.length_nil, hxl1]
    have HY2 := Lib.hid hx2
    have HZ2 : Hid (x2.length ≤ 400) := by show _ ≤ _; omega
    obtain ⟨x3, hx3⟩ : ∃ x, x = x2 ++ (RecM.le len 2 ++ n.data) := ⟨_, rfl⟩
    have hxl3 : x3.length = 39 + len := by rw [hx3]; simp only [List.length_append, RecM.le_len, HDL.out, hxl2]; omega
    have HY3 := Lib.hid hx3
    have HZ3 : Hid (x3.length ≤ 400) := by show _ ≤ _; omega
    have HLD : Hid (laid n = x3) := by
      show laid n = x3
      rw [hx3, hx2, hx1, hx0]
      try rw [HAD.out]
      try rw [HSQ.out]
      try rw [← HDL.out]
      try rw [HKN.out]
      unfold laid
      rw [k0]
      simp [RecM.tail, RecM.le]
    have HXL := Lib.hid hxl3
    have HTOT : Hid (39 + len ≤ 400) := by show _ ≤ _; omega
    clear k0 hx0 hxl0 hx1 hxl1 hx2 hxl2 hx3 hxl3
    go_enter Try.func10, Try.ntmps10
    go_wp2_with (refine wpList_val rfl (load_note cs NL.out rfl _ (b := w.heap.size) (k := 0) (by rw [← HW1.out]; exact RN.out) rfl) ?_)
    rw [← HW1.out]
    refine CR.out.mono ?_
    clear CR
    rintro e w2 ⟨rfl, h2⟩
    have H2 := Lib.hid ((Own.St.start w1).later h2)
    clear h2
    go_wp2_with (fail)
    refine (w_new H2.out).mono ?_
    rintro e w3 ⟨p, rfl, h3⟩
    have nc := NTO.out _ h3.below
    rw [HKK.out, ← HAD.out, ← HSQ.out, ← HKN.out] at nc
    have d0 := nc.1
    have d1 := nc.2.1
    have d2 := nc.2.2.1
    have d35 := nc.2.2.2.1
    have d36 := nc.2.2.2.2.1
    clear nc
    have GW := Lib.hid (GV.out _ h3.below)
    have KW := Lib.hid (KV.out _ h3.below)
    have HH0 := Lib.hid h3
    clear h3
    go_wp2_with (fail)
    refine (w_num HH0.out 4 1 (by decide) HY0.out HZ0.out).mono ?_
    clear d0 d1 d2 d35 d36 GW KW
    rintro e w4 ⟨rfl, h4⟩
    have nc := NTO.out _ h4.below
    rw [HKK.out, ← HAD.out, ← HSQ.out, ← HKN.out] at nc
    have d0 := nc.1
    have d1 := nc.2.1
    have d2 := nc.2.2.1
    have d35 := nc.2.2.2.1
    have d36 := nc.2.2.2.2.1
    clear nc
    have GW := Lib.hid (GV.out _ h4.below)
    have KW := Lib.hid (KV.out _ h4.below)
    have HH1 := Lib.hid h4
    clear h4
    clear HH0
    go_wp2_with (fail)
    refine (HF.out _).mono ?_
    rintro e wf ⟨rfl, rfl⟩
    go_wp2_with (fail)
    refine (w_raw HH1.out 32 KW.out HS.out HY1.out HZ1.out).mono ?_
    clear d0 d1 d2 d35 d36 GW KW
    rintro e w5 ⟨rfl, h5⟩
    have nc := NTO.out _ h5.below
    rw [HKK.out, ← HAD.out, ← HSQ.out, ← HKN.out] at nc
    have d0 := nc.1
    have d1 := nc.2.1
    have d2 := nc.2.2.1
    have d35 := nc.2.2.2.1
    have d36 := nc.2.2.2.2.1
    clear nc
    have GW := Lib.hid (GV.out _ h5.below)
    have KW := Lib.hid (KV.out _ h5.below)
    have HH2 := Lib.hid h5
    clear h5
    clear HH1
    go_wp2_with (fail)
    refine (w_num HH2.out kn 4 (by decide) HY2.out HZ2.out).mono ?_
    clear d0 d1 d2 d35 d36 GW KW
    rintro e w6 ⟨rfl, h6⟩
    have nc := NTO.out _ h6.below
    rw [HKK.out, ← HAD.out, ← HSQ.out, ← HKN.out] at nc
    have d0 := nc.1
    have d1 := nc.2.1
    have d2 := nc.2.2.1
    have d35 := nc.2.2.2.1
    have d36 := nc.2.2.2.2.1
    clear nc
    have GW := Lib.hid (GV.out _ h6.below)
    have KW := Lib.hid (KV.out _ h6.below)
    have HH3 := Lib.hid h6
    clear h6
    clear HH2
    go_wp2_with (fail)
    refine (w_blob HH3.out cap GW.out HDL.out HY3.out HZ3.out).mono ?_
    clear d0 d1 d2 d35 d36 GW KW
    rintro e w7 ⟨rfl, h7⟩
    have nc := NTO.out _ h7.below
    rw [HKK.out, ← HAD.out, ← HSQ.out, ← HKN.out] at nc
    have d0 := nc.1
    have d1 := nc.2.1
    have d2 := nc.2.2.1
    have d35 := nc.2.2.2.1
    have d36 := nc.2.2.2.2.1
    clear nc
    have GW := Lib.hid (GV.out _ h7.below)
    have KW := Lib.hid (KV.out _ h7.below)
    have HH4 := Lib.hid h7
    clear h7
    clear HH3
    go_wp2_with (fail)
    refine (w_out HH4.out HXL.out HTOT.out).mono ?_
    clear d0 d1 d2 d35 d36 GW KW
    rintro e w30 ⟨a2, c2, rfl, h30⟩
    have H30 := Lib.hid h30
    clear h30
    go_wp2_with (fail)
    go_ret2
    refine layDone_ok (by rw [HL.out, HLD.out]) HB1.out H30.out

set_option maxHeartbeats 1600000 in
theorem lPages_any (n : Nte) (f : Fits n) (ao : Option Addr) (len cap : Nat) (w : World) (hg : Given w ao len cap n.data) (hb : len ≤ 1000000) :
    Calls Try.prog 14 #[ntV n (.slice ao len cap)] w fun e w' => e = .returned (.int .i64 (pagesN n : Int)) ∧ Below w.heap.size w w' := by
  obtain ⟨cs, hcs⟩ : ∃ cs, cs = ntC n (.slice ao len cap) := ⟨_, rfl⟩
  show Calls Try.prog _ #[.agg (ntC n (.slice ao len cap)).toArray] w _
  rw [← hcs]
  obtain ⟨w1, hw1⟩ : ∃ w1, w1 = w.alloc (.cells cs.toArray 30) := ⟨_, rfl⟩
  have hbox := (Own.St.start w).boxV 30 cs
  rw [← hw1] at hbox
  have NL : Hid (cs.length = 37) := by show cs.length = 37; rw [hcs]; exact ntC_len n _ f.sum
  have RN : Hid (w1.rangeAt w.heap.size 0 cs) := fun j v hv => by rw [Nat.zero_add]; exact (hbox.cellV 0 rfl j hv).1
  have CL : Hid (Calls Try.prog 10 #[.agg cs.toArray] w1 (LayDone (lay n) w1)) := by
    rw [hcs]
    exact lLay_any n f ao len cap w1 (hg.later hbox.below) hb
  have HB1 := Lib.hid hbox.below
  have HW1 := Lib.hid hw1
  obtain ⟨L, hL⟩ : ∃ L, L = (lay n).1.length := ⟨_, rfl⟩
  obtain ⟨E, hE⟩ : ∃ E, E = (lay n).2 := ⟨_, rfl⟩
  have hP : pagesN n = (L + 124) / 125 := by
    rw [hL]
    unfold pagesN lay
    cases hr : right n
    · simp
    · simp
  have hs : L ≤ 351 := by
    rw [hL]
    unfold lay
    cases hr : right n
    · exact Nat.zero_le _
    · exact (laid_small f hr).1
  obtain ⟨P, hPP⟩ : ∃ P, P = pagesN n := ⟨_, rfl⟩
  rw [← hPP] at hP ⊢
  have HL := Lib.hid hL
  have HE := Lib.hid hE
  clear hcs hw1 hbox hg hL hPP hE
  go_enter Try.func14, Try.ntmps14
  go_wp2_with (refine wpList_val rfl (load_note cs NL.out rfl _ (b := w.heap.size) (k := 0) (by rw [← HW1.out]; exact RN.out) rfl) ?_)
  rw [← HW1.out]
  refine CL.out.mono ?_
  clear CL
  rintro e w2 ⟨a2, c2, rfl, h2, h3⟩
  rw [← HL.out, ← HE.out]
  have HB := Lib.hid (HB1.out.trans (h3.mono HB1.out.size))
  clear h2 h3
  have e1 : IntKind.i64.wrap ((L : Int) + 125) = (L : Int) + 125 := IntWalk.i64_in _ (by omega)
  have e2 : IntKind.i64.wrap ((L : Int) + 125 - 1) = (L : Int) + 125 - 1 := IntWalk.i64_in _ (by omega)
  have e3 : ((L : Int) + 125 - 1).tdiv 125 = (P : Int) := by rw [hP, Int.tdiv_eq_ediv_of_nonneg (by omega)]; omega
  have e4 : IntKind.i64.wrap (P : Int) = (P : Int) := IntWalk.i64_in _ (by omega)
  go_wp2_with (fail)
  go_ret
  refine ⟨?_, HB.out⟩
  show Ending.returned (.int .i64 (((L : Int) + 124) / 125)) = _
  rw [show ((L : Int) + 124) / 125 = (P : Int) by omega]
end Rec
end Go.Proofs.Ytefbcoakjdjkgaa
