/- Layer 10, the document's answer: Lay, Pages. -/
import Derived.Test.YtefbcoakjdjkgaaRecRa
import Derived.Test.YtefbcoakjdjkgaaRef1
namespace Go.Proofs.Ytefbcoakjdjkgaa
open Go.RowKit Go.Own
namespace Rec
open Go.RecM Byt
theorem cod_le (n k : Nat) : Cod.le n k = RecM.le n k := by
  induction k with
  | zero => rfl
  | succ k ih => rw [Cod.le, RecM.le, ih]
/-- a number's bytes, as a new slice of one's own -/
theorem refNum_st {B : Nat} {w0 w : World} {Ps : List Asn} (H : Own.St B w0 w Ps) (n k : Nat) (hk : k ≤ 8) (hn : n < 18446744073709551616) :
    Calls Try.prog 25 #[.int .u64 (n : Int), .int .i64 (k : Int)] w fun e w' => ∃ ao cap, e = .returned (.slice ao k cap) ∧ Own.St B w0 w' (AB ao k cap (RecM.le n k) :: Ps) := by
  refine (Cod.refNum_any n k w hk hn).mono ?_
  rintro e w' ⟨ao, cap, T, he, hrow, hst⟩
  rw [cod_le] at hrow
  exact ⟨ao, cap, he, H.new (AB ao k cap (RecM.le n k)) hrow hst⟩
/-- an answer of Lay: its bytes are one's own -/
def LayNew (x : RecM.Bs × Nat) (w : World) (e : Ending) (w' : World) : Prop := ∃ ao cap, e = .returned (.tuple #[.slice ao x.1.length cap, errN x.2]) ∧ Own.St w.heap.size w w' [AB ao x.1.length cap x.1]
theorem lay_err {x : RecM.Bs × Nat} {k : Nat} (hx : x = ([], k)) {w w' : World} (h : Own.St w.heap.size w w' []) : LayNew x w (.returned (.tuple #[.slice none 0 0, errN k])) w' := by
  subst hx
  exact ⟨none, 0, rfl, ab_nil h⟩
theorem lay_ok {x : RecM.Bs × Nat} {l : RecM.Bs} {m : Nat} (hx : x = (l, 0)) {w w' : World} {ao : Option Addr} {cap : Nat} {Ps : List Asn} (h : Own.St w.heap.size w w' (AB ao m cap l :: Ps)) : LayNew x w (.returned (.tuple #[.slice ao m cap, errN 0])) w' := by
  subst hx
  have hl := (ab_len h 0 rfl).1
  obtain rfl := hl
  refine ⟨ao, cap, rfl, ?_⟩
  have h2 := h.perm (List.perm_append_comm (l₁ := [AB ao l.length cap l]) (l₂ := Ps))
  have h3 := h2.drop Ps.length
  rw [List.drop_left] at h3
  exact h3
/-- the fields of a note in a block -/
theorem nt_cells {B : Nat} {w0 w : World} {Ps : List Asn} {b : Nat} {cs : List Value} (H : Own.St B w0 w Ps) (i : Nat) (hi : Ps[i]? = some (AVals b 30 cs)) {n : Nte} {v : Value} (hcs : cs = ntC n v) (hs : n.sum.length = 32) :
    w.cell? ⟨b, 0, none⟩ = some (.int .u8 (n.kind.toNat : Int)) ∧ w.cell? ⟨b, 1, none⟩ = some (.int .u32 (n.addr : Int)) ∧ w.cell? ⟨b, 2, none⟩ = some (.int .u64 (n.seq : Int)) ∧ w.cell? ⟨b, 35, none⟩ = some (.int .u32 (n.kn : Int)) ∧ w.cell? ⟨b, 36, none⟩ = some v ∧
      (∀ a, some (⟨b, 3, none⟩ : Addr) = some a → ∀ j u, (n.sum.map byteV)[j]? = some u → w.cell? (a.add j) = some u) := by
  have cc : ∀ j u, cs[j]? = some u → w.cell? ⟨b, j, none⟩ = some u := fun j u h => (H.cellV i hi j h).1
  refine ⟨cc 0 _ (by rw [hcs]; rfl), cc 1 _ (by rw [hcs]; rfl), cc 2 _ (by rw [hcs]; rfl), cc 35 _ (by rw [hcs]; exact ntC_kn n v hs), cc 36 _ (by rw [hcs]; exact ntC_data n v hs), ?_⟩
  intro a ha j u hu
  cases ha
  rw [add_of]
  exact cc (3 + j) u (by rw [hcs]; exact ntC_sum n v j u hu)
theorem own_news {B : Nat} {w0 w : World} {Ps : List Asn} {ao : Option Addr} {n cap : Nat} {l : List UInt8} (H : Own.St B w0 w Ps) (i : Nat) (hi : Ps[i]? = some (AB ao n cap l)) : (ao = none → n = 0 ∧ cap = 0) ∧ (∀ a, ao = some a → ∀ j u, (l.map byteV)[j]? = some u → w.cell? (a.add j) = some u) :=
  ⟨(ab_len H i hi).2.2.2, vcells (ab_view H i hi)⟩
theorem lay_of {n : Nte} (hr : right n = true) : lay n = (laid n, 0) := by unfold lay; rw [if_pos hr]

set_option maxRecDepth 6000 in
set_option maxHeartbeats 8000000 in
theorem refLay_new (n : Nte) (f : Fits n) (ao : Option Addr) (len cap : Nat) (w : World) (hg : Given w ao len cap n.data) (hb : len ≤ 1000000) :
    Calls Try.prog 11 #[.agg (ntC n (.slice ao len cap)).toArray] w (LayNew (lay n) w) := by
  obtain ⟨cs, hcs⟩ : ∃ cs, cs = ntC n (.slice ao len cap) := ⟨_, rfl⟩
  rw [← hcs]
  obtain ⟨b, hbd⟩ : ∃ b, b = w.heap.size := ⟨_, rfl⟩
  obtain ⟨w1, hw1⟩ : ∃ w1, w1 = w.alloc (.cells cs.toArray 30) := ⟨_, rfl⟩
  have hbox := (Own.St.start w).boxV 30 cs
  rw [← hw1] at hbox
  have hbox' : Own.St w.heap.size w w1 [AVals b 30 cs] := by rw [hbd]; exact hbox
  have HBOX := Lib.hid hbox'
  have HW1 := Lib.hid hw1
  have HBD := Lib.hid hbd
  have HCS := Lib.hid hcs
  have HS := Lib.hid f.sum
  have NL : Hid (cs.length = 37) := by show cs.length = 37; rw [hcs]; exact ntC_len n _ f.sum
  have RN : Hid (w1.rangeAt b 0 cs) := fun j v hv => by rw [Nat.zero_add]; exact (hbox'.cellV 0 rfl j hv).1
  have CR : Hid (Calls Try.prog 13 #[.agg cs.toArray] w1 fun e w' => e = .returned (.bool (right n)) ∧ Below w1.heap.size w1 w') := by
    rw [hcs]
    exact right_any n f.sum ao len cap hg.size hb w1
  have HG := Lib.hid hg
  have HDL := Lib.hid hg.size
  have HNO := Lib.hid (given_nil hg)
  have hcapM := hg.room
  have b1 := f.addr
  have b2 := f.seq
  have b3 := f.kn
  obtain ⟨X, hX⟩ : ∃ X, X = lay n := ⟨_, rfl⟩
  rw [← hX]
  have HX := Lib.hid hX
  obtain ⟨r, hr⟩ : ∃ r, r = right n := ⟨_, rfl⟩
  rw [← hr] at CR
  have HR := Lib.hid hr.symm
  unfold maxLen at hcapM
  clear hcs hbd hw1 hbox hbox' hg hX hr
  cases r
  · have HE : Hid (X = ([], 1)) := by
      show X = _
      rw [HX.out]; unfold lay; rw [HR.out]; rfl
    go_enter Try.func11, Try.ntmps11
    go_wp2_with (refine wpList_val rfl (load_note _ NL.out rfl _ (b := b) (by rw [← HW1.out]; exact RN.out) (by rw [HBD.out]; rfl)) ?_)
    rw [← HW1.out]
    refine CR.out.mono ?_
    clear CR
    rintro e w2 ⟨rfl, h2⟩
    have H2 := Lib.hid ((HBOX.out.later h2).drop 1)
    clear h2
    go_wp2
    go_ret2
    exact lay_err HE.out H2.out
  have HL : Hid (X = (laid n, 0)) := by show X = _; rw [HX.out]; exact lay_of HR.out
  have hk := right_kind HR.out
  have hd3 := right_data HR.out
  rw [HDL.out] at hd3
  obtain ⟨ad, had⟩ : ∃ a, a = n.addr := ⟨_, rfl⟩
  obtain ⟨sq, hsq⟩ : ∃ a, a = n.seq := ⟨_, rfl⟩
  obtain ⟨kn, hkn⟩ : ∃ a, a = n.kn := ⟨_, rfl⟩
  rw [← had] at b1
  rw [← hsq] at b2
  rw [← hkn] at b3
  have HAD := Lib.hid had
  have HSQ := Lib.hid hsq
  have HKN := Lib.hid hkn
  clear had hsq hkn HX
  rcases hk with k0 | k0 | k0 | k0
  · have HKK : Hid ((n.kind.toNat : Int) = 1) := by show (n.kind.toNat : Int) = 1; rw [k0]; rfl
    have HLD : Hid (laid n = (((((([n.kind] ++ RecM.le ad 4) ++ RecM.le sq 8) ++ n.sum) ++ RecM.le kn 4) ++ RecM.le len 2) ++ n.data)) := by
      show laid n = (((((([n.kind] ++ RecM.le ad 4) ++ RecM.le sq 8) ++ n.sum) ++ RecM.le kn 4) ++ RecM.le len 2) ++ n.data)
      try rw [HAD.out]
      try rw [HSQ.out]
      try rw [← HDL.out]
      try rw [HKN.out]
      unfold laid
      rw [k0]
      simp [RecM.tail]
    clear k0
    go_enter Try.func11, Try.ntmps11
    go_wp2_with (refine wpList_val rfl (load_note _ NL.out rfl _ (b := b) (by rw [← HW1.out]; exact RN.out) (by rw [HBD.out]; rfl)) ?_)
    rw [← HW1.out]
    refine CR.out.mono ?_
    clear CR
    rintro e w2 ⟨rfl, h2⟩
    have h3 := HBOX.out.later h2
    have nc := nt_cells h3 0 rfl HCS.out HS.out
    rw [HKK.out, ← HAD.out, ← HSQ.out, ← HKN.out] at nc
    have p0 := nc.1
    have p1 := nc.2.1
    have p2 := nc.2.2.1
    have p35 := nc.2.2.2.1
    have p36 := nc.2.2.2.2.1
    have PS := Lib.hid nc.2.2.2.2.2
    clear nc
    rw [← HBD.out]
    have ha := ab_one h3 n.kind
    rw [HKK.out] at ha
    have nc := nt_cells ha 1 rfl HCS.out HS.out
    rw [HKK.out, ← HAD.out, ← HSQ.out, ← HKN.out] at nc
    have d0 := nc.1
    have d1 := nc.2.1
    have d2 := nc.2.2.1
    have d35 := nc.2.2.2.1
    have d36 := nc.2.2.2.2.1
    have DS := Lib.hid nc.2.2.2.2.2
    clear nc
    have HQ := Lib.hid ha
    clear h2 h3 ha
    go_wp2_with (fail)
    refine (refNum_st HQ.out ad 4 (by decide) (by omega)).mono ?_
    clear d0 d1 d2 d35 d36 DS
    rintro e wn1 ⟨an1, cn1, rfl, hn1⟩
    have NN1 := Lib.hid (own_news hn1 0 rfl)
    have nc := nt_cells hn1 2 rfl HCS.out HS.out
    rw [HKK.out, ← HAD.out, ← HSQ.out, ← HKN.out] at nc
    have d0 := nc.1
    have d1 := nc.2.1
    have d2 := nc.2.2.1
    have d35 := nc.2.2.2.1
    have d36 := nc.2.2.2.2.1
    have DS := Lib.hid nc.2.2.2.2.2
    clear nc
    have HN1 := Lib.hid hn1
    clear hn1 HQ
    go_wp2_with (at_builtin; refine Byt.wpList_ab_append rfl (.tmp 19) (.tmp 23) rfl HN1.out 1 rfl rfl an1 4 cn1 (RecM.le ad 4) rfl NN1.out.1 (RecM.le_len _ _) NN1.out.2 (by omega) ?_; intro aa1 ca1 wa1 h; simp only [List.set_cons_zero, List.set_cons_succ] at h; have h := h.drop 1; simp only [List.drop_succ_cons, List.drop_zero] at h; have HA1 := Lib.hid h; clear h d0 d1 d2 d35 d36 DS; have nc := nt_cells (HA1.out) 1 rfl HCS.out HS.out; rw [HKK.out, ← HAD.out, ← HSQ.out, ← HKN.out] at nc; have d0 := nc.1; have d1 := nc.2.1; have d2 := nc.2.2.1; have d35 := nc.2.2.2.1; have d36 := nc.2.2.2.2.1; have DS := Lib.hid nc.2.2.2.2.2; clear nc)
    refine (refNum_st HA1.out sq 8 (by decide) (by omega)).mono ?_
    clear d0 d1 d2 d35 d36 DS
    rintro e wn2 ⟨an2, cn2, rfl, hn2⟩
    have NN2 := Lib.hid (own_news hn2 0 rfl)
    have nc := nt_cells hn2 2 rfl HCS.out HS.out
    rw [HKK.out, ← HAD.out, ← HSQ.out, ← HKN.out] at nc
    have d0 := nc.1
    have d1 := nc.2.1
    have d2 := nc.2.2.1
    have d35 := nc.2.2.2.1
    have d36 := nc.2.2.2.2.1
    have DS := Lib.hid nc.2.2.2.2.2
    clear nc
    have HN2 := Lib.hid hn2
    clear hn2 HA1
    go_wp2_with (first | (at_builtin; refine Byt.wpList_ab_append rfl (.tmp 28) (.tmp 31) rfl HN2.out 1 rfl rfl an2 8 cn2 (RecM.le sq 8) rfl NN2.out.1 (RecM.le_len _ _) NN2.out.2 (by omega) ?_; intro aa2 ca2 wa2 h; simp only [List.set_cons_zero, List.set_cons_succ] at h; have h := h.drop 1; simp only [List.drop_succ_cons, List.drop_zero] at h; have HA2 := Lib.hid h; clear h d0 d1 d2 d35 d36 DS; have nc := nt_cells (HA2.out) 1 rfl HCS.out HS.out; rw [HKK.out, ← HAD.out, ← HSQ.out, ← HKN.out] at nc; have d0 := nc.1; have d1 := nc.2.1; have d2 := nc.2.2.1; have d35 := nc.2.2.2.1; have d36 := nc.2.2.2.2.1; have DS := Lib.hid nc.2.2.2.2.2; clear nc) | (at_builtin; refine Byt.wpList_ab_append rfl (.tmp 41) (.tmp 44) rfl HA2.out 0 rfl rfl (some ⟨b, 3, none⟩) 32 32 n.sum rfl (by intro h; cases h) HS.out DS.out (by omega) ?_; intro aa3 ca3 wa3 h; simp only [List.set_cons_zero, List.set_cons_succ] at h; have HA3 := Lib.hid h; clear h d0 d1 d2 d35 d36 DS; have nc := nt_cells (HA3.out) 1 rfl HCS.out HS.out; rw [HKK.out, ← HAD.out, ← HSQ.out, ← HKN.out] at nc; have d0 := nc.1; have d1 := nc.2.1; have d2 := nc.2.2.1; have d35 := nc.2.2.2.1; have d36 := nc.2.2.2.2.1; have DS := Lib.hid nc.2.2.2.2.2; clear nc))
    refine (refNum_st HA3.out kn 4 (by decide) (by omega)).mono ?_
    clear d0 d1 d2 d35 d36 DS
    rintro e wn4 ⟨an4, cn4, rfl, hn4⟩
    have NN4 := Lib.hid (own_news hn4 0 rfl)
    have nc := nt_cells hn4 2 rfl HCS.out HS.out
    rw [HKK.out, ← HAD.out, ← HSQ.out, ← HKN.out] at nc
    have d0 := nc.1
    have d1 := nc.2.1
    have d2 := nc.2.2.1
    have d35 := nc.2.2.2.1
    have d36 := nc.2.2.2.2.1
    have DS := Lib.hid nc.2.2.2.2.2
    clear nc
    have HN4 := Lib.hid hn4
    clear hn4 HA3
    go_wp2_with (at_builtin; refine Byt.wpList_ab_append rfl (.tmp 46) (.tmp 51) rfl HN4.out 1 rfl rfl an4 4 cn4 (RecM.le kn 4) rfl NN4.out.1 (RecM.le_len _ _) NN4.out.2 (by omega) ?_; intro aa4 ca4 wa4 h; simp only [List.set_cons_zero, List.set_cons_succ] at h; have h := h.drop 1; simp only [List.drop_succ_cons, List.drop_zero] at h; have HA4 := Lib.hid h; clear h d0 d1 d2 d35 d36 DS; have nc := nt_cells (HA4.out) 1 rfl HCS.out HS.out; rw [HKK.out, ← HAD.out, ← HSQ.out, ← HKN.out] at nc; have d0 := nc.1; have d1 := nc.2.1; have d2 := nc.2.2.1; have d35 := nc.2.2.2.1; have d36 := nc.2.2.2.2.1; have DS := Lib.hid nc.2.2.2.2.2; clear nc)
    refine (refNum_st HA4.out len 2 (by decide) (by omega)).mono ?_
    clear d0 d1 d2 d35 d36 DS
    rintro e wn5 ⟨an5, cn5, rfl, hn5⟩
    have NN5 := Lib.hid (own_news hn5 0 rfl)
    have nc := nt_cells hn5 2 rfl HCS.out HS.out
    rw [HKK.out, ← HAD.out, ← HSQ.out, ← HKN.out] at nc
    have d0 := nc.1
    have d1 := nc.2.1
    have d2 := nc.2.2.1
    have d35 := nc.2.2.2.1
    have d36 := nc.2.2.2.2.1
    have DS := Lib.hid nc.2.2.2.2.2
    clear nc
    have HN5 := Lib.hid hn5
    clear hn5 HA4
    go_wp2_with (first | (at_builtin; refine Byt.wpList_ab_append rfl (.tmp 53) (.tmp 58) rfl HN5.out 1 rfl rfl an5 2 cn5 (RecM.le len 2) rfl NN5.out.1 (RecM.le_len _ _) NN5.out.2 (by omega) ?_; intro aa5 ca5 wa5 h; simp only [List.set_cons_zero, List.set_cons_succ] at h; have h := h.drop 1; simp only [List.drop_succ_cons, List.drop_zero] at h; have HA5 := Lib.hid h; clear h d0 d1 d2 d35 d36 DS; have nc := nt_cells (HA5.out) 1 rfl HCS.out HS.out; rw [HKK.out, ← HAD.out, ← HSQ.out, ← HKN.out] at nc; have d0 := nc.1; have d1 := nc.2.1; have d2 := nc.2.2.1; have d35 := nc.2.2.2.1; have d36 := nc.2.2.2.2.1; have DS := Lib.hid nc.2.2.2.2.2; clear nc) | (at_builtin; refine Byt.wpList_ab_append rfl (.tmp 60) (.tmp 62) rfl HA5.out 0 rfl rfl ao len cap n.data rfl HNO.out HDL.out (vcells (vlater HG.out.view HA5.out.below)) (by omega) ?_; intro aa6 ca6 wa6 h; simp only [List.set_cons_zero, List.set_cons_succ] at h; have HA6 := Lib.hid h; clear h))
    go_ret2
    have hz := HA6.out
    rw [← HLD.out] at hz
    exact lay_ok HL.out hz
  · have HKK : Hid ((n.kind.toNat : Int) = 2) := by show (n.kind.toNat : Int) = 2; rw [k0]; rfl
    have HLD : Hid (laid n = (([n.kind] ++ RecM.le ad 4) ++ RecM.le sq 8)) := by
      show laid n = (([n.kind] ++ RecM.le ad 4) ++ RecM.le sq 8)
      try rw [HAD.out]
      try rw [HSQ.out]
      try rw [← HDL.out]
      try rw [HKN.out]
      unfold laid
      rw [k0]
      simp [RecM.tail]
    clear k0
    go_enter Try.func11, Try.ntmps11
    go_wp2_with (refine wpList_val rfl (load_note _ NL.out rfl _ (b := b) (by rw [← HW1.out]; exact RN.out) (by rw [HBD.out]; rfl)) ?_)
    rw [← HW1.out]
    refine CR.out.mono ?_
    clear CR
    rintro e w2 ⟨rfl, h2⟩
    have h3 := HBOX.out.later h2
    have nc := nt_cells h3 0 rfl HCS.out HS.out
    rw [HKK.out, ← HAD.out, ← HSQ.out, ← HKN.out] at nc
    have p0 := nc.1
    have p1 := nc.2.1
    have p2 := nc.2.2.1
    have p35 := nc.2.2.2.1
    have p36 := nc.2.2.2.2.1
    have PS := Lib.hid nc.2.2.2.2.2
    clear nc
    rw [← HBD.out]
    have ha := ab_one h3 n.kind
    rw [HKK.out] at ha
    have nc := nt_cells ha 1 rfl HCS.out HS.out
    rw [HKK.out, ← HAD.out, ← HSQ.out, ← HKN.out] at nc
    have d0 := nc.1
    have d1 := nc.2.1
    have d2 := nc.2.2.1
    have d35 := nc.2.2.2.1
    have d36 := nc.2.2.2.2.1
    have DS := Lib.hid nc.2.2.2.2.2
    clear nc
    have HQ := Lib.hid ha
    clear h2 h3 ha
    go_wp2_with (fail)
    refine (refNum_st HQ.out ad 4 (by decide) (by omega)).mono ?_
    clear d0 d1 d2 d35 d36 DS
    rintro e wn1 ⟨an1, cn1, rfl, hn1⟩
    have NN1 := Lib.hid (own_news hn1 0 rfl)
    have nc := nt_cells hn1 2 rfl HCS.out HS.out
    rw [HKK.out, ← HAD.out, ← HSQ.out, ← HKN.out] at nc
    have d0 := nc.1
    have d1 := nc.2.1
    have d2 := nc.2.2.1
    have d35 := nc.2.2.2.1
    have d36 := nc.2.2.2.2.1
    have DS := Lib.hid nc.2.2.2.2.2
    clear nc
    have HN1 := Lib.hid hn1
    clear hn1 HQ
    go_wp2_with (at_builtin; refine Byt.wpList_ab_append rfl (.tmp 19) (.tmp 23) rfl HN1.out 1 rfl rfl an1 4 cn1 (RecM.le ad 4) rfl NN1.out.1 (RecM.le_len _ _) NN1.out.2 (by omega) ?_; intro aa1 ca1 wa1 h; simp only [List.set_cons_zero, List.set_cons_succ] at h; have h := h.drop 1; simp only [List.drop_succ_cons, List.drop_zero] at h; have HA1 := Lib.hid h; clear h d0 d1 d2 d35 d36 DS; have nc := nt_cells (HA1.out) 1 rfl HCS.out HS.out; rw [HKK.out, ← HAD.out, ← HSQ.out, ← HKN.out] at nc; have d0 := nc.1; have d1 := nc.2.1; have d2 := nc.2.2.1; have d35 := nc.2.2.2.1; have d36 := nc.2.2.2.2.1; have DS := Lib.hid nc.2.2.2.2.2; clear nc)
    refine (refNum_st HA1.out sq 8 (by decide) (by omega)).mono ?_
    clear d0 d1 d2 d35 d36 DS
    rintro e wn2 ⟨an2, cn2, rfl, hn2⟩
    have NN2 := Lib.hid (own_news hn2 0 rfl)
    have nc := nt_cells hn2 2 rfl HCS.out HS.out
    rw [HKK.out, ← HAD.out, ← HSQ.out, ← HKN.out] at nc
    have d0 := nc.1
    have d1 := nc.2.1
    have d2 := nc.2.2.1
    have d35 := nc.2.2.2.1
    have d36 := nc.2.2.2.2.1
    have DS := Lib.hid nc.2.2.2.2.2
    clear nc
    have HN2 := Lib.hid hn2
    clear hn2 HA1
    go_wp2_with (at_builtin; refine Byt.wpList_ab_append rfl (.tmp 28) (.tmp 31) rfl HN2.out 1 rfl rfl an2 8 cn2 (RecM.le sq 8) rfl NN2.out.1 (RecM.le_len _ _) NN2.out.2 (by omega) ?_; intro aa2 ca2 wa2 h; simp only [List.set_cons_zero, List.set_cons_succ] at h; have h := h.drop 1; simp only [List.drop_succ_cons, List.drop_zero] at h; have HA2 := Lib.hid h; clear h d0 d1 d2 d35 d36 DS; have nc := nt_cells (HA2.out) 1 rfl HCS.out HS.out; rw [HKK.out, ← HAD.out, ← HSQ.out, ← HKN.out] at nc; have d0 := nc.1; have d1 := nc.2.1; have d2 := nc.2.2.1; have d35 := nc.2.2.2.1; have d36 := nc.2.2.2.2.1; have DS := Lib.hid nc.2.2.2.2.2; clear nc)
    go_ret2
    have hz := HA2.out
    rw [← HLD.out] at hz
    exact lay_ok HL.out hz
  · have HKK : Hid ((n.kind.toNat : Int) = 3) := by show (n.kind.toNat : Int) = 3; rw [k0]; rfl
    have HLD : Hid (laid n = ([n.kind] ++ RecM.le sq 8)) := by
      show laid n = ([n.kind] ++ RecM.le sq 8)
      try rw [HAD.out]
      try rw [HSQ.out]
      try rw [← HDL.out]
      try rw [HKN.out]
      unfold laid
      rw [k0]
      simp [RecM.tail]
    clear k0
    go_enter Try.func11, Try.ntmps11
    go_wp2_with (refine wpList_val rfl (load_note _ NL.out rfl _ (b := b) (by rw [← HW1.out]; exact RN.out) (by rw [HBD.out]; rfl)) ?_)
    rw [← HW1.out]
    refine CR.out.mono ?_
    clear CR
    rintro e w2 ⟨rfl, h2⟩
    have h3 := HBOX.out.later h2
    have nc := nt_cells h3 0 rfl HCS.out HS.out
    rw [HKK.out, ← HAD.out, ← HSQ.out, ← HKN.out] at nc
    have p0 := nc.1
    have p1 := nc.2.1
    have p2 := nc.2.2.1
    have p35 := nc.2.2.2.1
    have p36 := nc.2.2.2.2.1
    have PS := Lib.hid nc.2.2.2.2.2
    clear nc
    rw [← HBD.out]
    have ha := ab_one h3 n.kind
    rw [HKK.out] at ha
    have nc := nt_cells ha 1 rfl HCS.out HS.out
    rw [HKK.out, ← HAD.out, ← HSQ.out, ← HKN.out] at nc
    have d0 := nc.1
    have d1 := nc.2.1
    have d2 := nc.2.2.1
    have d35 := nc.2.2.2.1
    have d36 := nc.2.2.2.2.1
    have DS := Lib.hid nc.2.2.2.2.2
    clear nc
    have HQ := Lib.hid ha
    clear h2 h3 ha
    go_wp2_with (fail)
    refine (refNum_st HQ.out sq 8 (by decide) (by omega)).mono ?_
    clear d0 d1 d2 d35 d36 DS
    rintro e wn1 ⟨an1, cn1, rfl, hn1⟩
    have NN1 := Lib.hid (own_news hn1 0 rfl)
    have nc := nt_cells hn1 2 rfl HCS.out HS.out
    rw [HKK.out, ← HAD.out, ← HSQ.out, ← HKN.out] at nc
    have d0 := nc.1
    have d1 := nc.2.1
    have d2 := nc.2.2.1
    have d35 := nc.2.2.2.1
    have d36 := nc.2.2.2.2.1
    have DS := Lib.hid nc.2.2.2.2.2
    clear nc
    have HN1 := Lib.hid hn1
    clear hn1 HQ
    go_wp2_with (at_builtin; refine Byt.wpList_ab_append rfl (.tmp 28) (.tmp 31) rfl HN1.out 1 rfl rfl an1 8 cn1 (RecM.le sq 8) rfl NN1.out.1 (RecM.le_len _ _) NN1.out.2 (by omega) ?_; intro aa1 ca1 wa1 h; simp only [List.set_cons_zero, List.set_cons_succ] at h; have h := h.drop 1; simp only [List.drop_succ_cons, List.drop_zero] at h; have HA1 := Lib.hid h; clear h d0 d1 d2 d35 d36 DS; have nc := nt_cells (HA1.out) 1 rfl HCS.out HS.out; rw [HKK.out, ← HAD.out, ← HSQ.out, ← HKN.out] at nc; have d0 := nc.1; have d1 := nc.2.1; have d2 := nc.2.2.1; have d35 := nc.2.2.2.1; have d36 := nc.2.2.2.2.1; have DS := Lib.hid nc.2.2.2.2.2; clear nc)
    go_ret2
    have hz := HA1.out
    rw [← HLD.out] at hz
    exact lay_ok HL.out hz
  · have HKK : Hid ((n.kind.toNat : Int) = 4) := by show (n.kind.toNat : Int) = 4; rw [k0]; rfl
    have HLD : Hid (laid n = (((([n.kind] ++ n.sum) ++ RecM.le kn 4) ++ RecM.le len 2) ++ n.data)) := by
      show laid n = (((([n.kind] ++ n.sum) ++ RecM.le kn 4) ++ RecM.le len 2) ++ n.data)
      try rw [HAD.out]
      try rw [HSQ.out]
      try rw [← HDL.out]
      try rw [HKN.out]
      unfold laid
      rw [k0]
      simp [RecM.tail]
    clear k0
    go_enter Try.func11, Try.ntmps11
    go_wp2_with (refine wpList_val rfl (load_note _ NL.out rfl _ (b := b) (by rw [← HW1.out]; exact RN.out) (by rw [HBD.out]; rfl)) ?_)
    rw [← HW1.out]
    refine CR.out.mono ?_
    clear CR
    rintro e w2 ⟨rfl, h2⟩
    have h3 := HBOX.out.later h2
    have nc := nt_cells h3 0 rfl HCS.out HS.out
    rw [HKK.out, ← HAD.out, ← HSQ.out, ← HKN.out] at nc
    have p0 := nc.1
    have p1 := nc.2.1
    have p2 := nc.2.2.1
    have p35 := nc.2.2.2.1
    have p36 := nc.2.2.2.2.1
    have PS := Lib.hid nc.2.2.2.2.2
    clear nc
    rw [← HBD.out]
    have ha := ab_one h3 n.kind
    rw [HKK.out] at ha
    have nc := nt_cells ha 1 rfl HCS.out HS.out
    rw [HKK.out, ← HAD.out, ← HSQ.out, ← HKN.out] at nc
    have d0 := nc.1
    have d1 := nc.2.1
    have d2 := nc.2.2.1
    have d35 := nc.2.2.2.1
    have d36 := nc.2.2.2.2.1
    have DS := Lib.hid nc.2.2.2.2.2
    clear nc
    have HQ := Lib.hid ha
    clear h2 h3 ha
    go_wp2_with (at_builtin; refine Byt.wpList_ab_append rfl (.tmp 41) (.tmp 44) rfl HQ.out 0 rfl rfl (some ⟨b, 3, none⟩) 32 32 n.sum rfl (by intro h; cases h) HS.out DS.out (by omega) ?_; intro aa1 ca1 wa1 h; simp only [List.set_cons_zero, List.set_cons_succ] at h; have HA1 := Lib.hid h; clear h d0 d1 d2 d35 d36 DS; have nc := nt_cells (HA1.out) 1 rfl HCS.out HS.out; rw [HKK.out, ← HAD.out, ← HSQ.out, ← HKN.out] at nc; have d0 := nc.1; have d1 := nc.2.1; have d2 := nc.2.2.1; have d35 := nc.2.2.2.1; have d36 := nc.2.2.2.2.1; have DS := Lib.hid nc.2.2.2.2.2; clear nc)
    refine (refNum_st HA1.out kn 4 (by decide) (by omega)).mono ?_
    clear d0 d1 d2 d35 d36 DS
    rintro e wn2 ⟨an2, cn2, rfl, hn2⟩
    have NN2 := Lib.hid (own_news hn2 0 rfl)
    have nc := nt_cells hn2 2 rfl HCS.out HS.out
    rw [HKK.out, ← HAD.out, ← HSQ.out, ← HKN.out] at nc
    have d0 := nc.1
    have d1 := nc.2.1
    have d2 := nc.2.2.1
    have d35 := nc.2.2.2.1
    have d36 := nc.2.2.2.2.1
    have DS := Lib.hid nc.2.2.2.2.2
    clear nc
    have HN2 := Lib.hid hn2
    clear hn2 HA1
    go_wp2_with (at_builtin; refine Byt.wpList_ab_append rfl (.tmp 46) (.tmp 51) rfl HN2.out 1 rfl rfl an2 4 cn2 (RecM.le kn 4) rfl NN2.out.1 (RecM.le_len _ _) NN2.out.2 (by omega) ?_; intro aa2 ca2 wa2 h; simp only [List.set_cons_zero, List.set_cons_succ] at h; have h := h.drop 1; simp only [List.drop_succ_cons, List.drop_zero] at h; have HA2 := Lib.hid h; clear h d0 d1 d2 d35 d36 DS; have nc := nt_cells (HA2.out) 1 rfl HCS.out HS.out; rw [HKK.out, ← HAD.out, ← HSQ.out, ← HKN.out] at nc; have d0 := nc.1; have d1 := nc.2.1; have d2 := nc.2.2.1; have d35 := nc.2.2.2.1; have d36 := nc.2.2.2.2.1; have DS := Lib.hid nc.2.2.2.2.2; clear nc)
    refine (refNum_st HA2.out len 2 (by decide) (by omega)).mono ?_
    clear d0 d1 d2 d35 d36 DS
    rintro e wn3 ⟨an3, cn3, rfl, hn3⟩
    have NN3 := Lib.hid (own_news hn3 0 rfl)
    have nc := nt_cells hn3 2 rfl HCS.out HS.out
    rw [HKK.out, ← HAD.out, ← HSQ.out, ← HKN.out] at nc
    have d0 := nc.1
    have d1 := nc.2.1
    have d2 := nc.2.2.1
    have d35 := nc.2.2.2.1
    have d36 := nc.2.2.2.2.1
    have DS := Lib.hid nc.2.2.2.2.2
    clear nc
    have HN3 := Lib.hid hn3
    clear hn3 HA2
    go_wp2_with (first | (at_builtin; refine Byt.wpList_ab_append rfl (.tmp 53) (.tmp 58) rfl HN3.out 1 rfl rfl an3 2 cn3 (RecM.le len 2) rfl NN3.out.1 (RecM.le_len _ _) NN3.out.2 (by omega) ?_; intro aa3 ca3 wa3 h; simp only [List.set_cons_zero, List.set_cons_succ] at h; have h := h.drop 1; simp only [List.drop_succ_cons, List.drop_zero] at h; have HA3 := Lib.hid h; clear h d0 d1 d2 d35 d36 DS; have nc := nt_cells (HA3.out) 1 rfl HCS.out HS.out; rw [HKK.out, ← HAD.out, ← HSQ.out, ← HKN.out] at nc; have d0 := nc.1; have d1 := nc.2.1; have d2 := nc.2.2.1; have d35 := nc.2.2.2.1; have d36 := nc.2.2.2.2.1; have DS := Lib.hid nc.2.2.2.2.2; clear nc) | (at_builtin; refine Byt.wpList_ab_append rfl (.tmp 60) (.tmp 62) rfl HA3.out 0 rfl rfl ao len cap n.data rfl HNO.out HDL.out (vcells (vlater HG.out.view HA3.out.below)) (by omega) ?_; intro aa4 ca4 wa4 h; simp only [List.set_cons_zero, List.set_cons_succ] at h; have HA4 := Lib.hid h; clear h))
    go_ret2
    have hz := HA4.out
    rw [← HLD.out] at hz
    exact lay_ok HL.out hz
end Rec
end Go.Proofs.Ytefbcoakjdjkgaa
