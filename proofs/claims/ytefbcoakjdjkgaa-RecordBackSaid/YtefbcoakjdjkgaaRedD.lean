/- The landed record: Take; what it keeps. -/
import Derived.Test.YtefbcoakjdjkgaaRedC
import Derived.Test.YtefbcoakjdjkgaaRecT
import Derived.Test.YtefbcoakjdjkgaaPgaA
namespace Go.Proofs.Ytefbcoakjdjkgaa
open Go.RowKit Go.Own
namespace Rec
open Go.RecM Byt
open Cod (RS)
theorem num_less (r : RS) (k : Int) : (r.num k).2.l.length ≤ r.l.length := by
  obtain ⟨l, e⟩ := r
  unfold RS.num
  (repeat' split) <;> simp
theorem raw_less (r : RS) (k : Int) : (r.raw k).2.l.length ≤ r.l.length := by
  obtain ⟨l, e⟩ := r
  unfold RS.raw
  (repeat' split) <;> simp
theorem blob_less (r : RS) (k : Int) : (r.blob k).2.l.length ≤ r.l.length := by
  obtain ⟨l, e⟩ := r
  unfold RS.blob
  (repeat' split) <;> simp <;> omega
/-- the objects of Take: the reader, the note, the answer -/
abbrev TR (q : Nat) (r : RS) (b5 : Nat) (n : Nte) (v : Value) (b2 : Nat) (z : List Value) (Ps : List Asn) : List Asn := Cod.AR q r :: AVals b5 30 (ntC n v) :: AVals b2 30 z :: Ps
/-- copy onto a part of cells of one's own, as one step of a region that draws -/
theorem step_vals_copy {ops : Array Oper} {o : Oper} {a : Act} {w : World} {K : Act → World → Prop} {Q : Exit → Act → World → Prop} {E : Prop} {B : Nat} {w0 : World} {Ps : List Asn} (hgd : o.guard = none) (d s : Operand)
    (ho : o.op = .call { callee := .builtin .copy, args := #[d, s], argTypes := #[28, 28] }) (H : Own.St B w0 w Ps) (i : Nat) {b : Nat} {t : TypeId} {vs : List Value} (hi : Ps[i]? = some (AVals b t vs)) (k nn cc : Nat) (hd : a.eval d = .slice (some ⟨b, k, none⟩) nn cc)
    (bo : Option Addr) (m c : Nat) (news : List UInt8) (hx : a.eval s = .slice bo m c) (hl : news.length = m) (hmn : m ≤ nn) (hkl : k + nn ≤ vs.length) (hno : bo = none → m = 0)
    (hc : ∀ a, bo = some a → ∀ j u, (news.map byteV)[j]? = some u → w.cell? (a.add j) = some u)
    (h : ∀ w', Own.St B w0 w' (Ps.set i (AVals b t (vs.take k ++ news.map byteV ++ vs.drop (k + m)))) → K (a.put o.dst (goInt m)) w') :
    if Region.wanted o (yielded ops a.tmps) = true then Oper.wp Try.prog o a w K Q else E := by
  have hw : Region.wanted o (yielded ops a.tmps) = true := by simp [Region.wanted, hgd]
  rw [if_pos hw]
  have hset := Own.St.setMid i (news.map byteV) k w Ps vs H hi (by simp; omega)
  rw [List.length_map, hl] at hset
  have hcells : ∀ j, j < (news.map byteV).length → (w.cell? ⟨b, k + j, none⟩).isSome = true ∧ w.frozen? ⟨b, k + j, none⟩ = false := by
    intro j hj
    rw [List.length_map] at hj
    obtain ⟨h1, h2⟩ := H.cellV i hi (k + j) (v := vs[k + j]'(by omega)) (List.getElem?_eq_getElem (by omega))
    exact ⟨by rw [h1]; rfl, h2⟩
  have hrun : (Builtin.copy_ #[28, 28] o.type #[.slice (some ⟨b, k, none⟩) nn cc, .slice bo m c]).run Try.prog w = .ok (goInt m) (w.setCells b k (news.map byteV)) := by
    cases bo with
    | none =>
      have hm := hno rfl
      subst hm
      obtain rfl : news = [] := List.eq_nil_of_length_eq_zero hl
      exact run_copy_none (P := Try.prog) w 28 28 o.type 5 _ none nn cc 0 c Try.underlying28 info8 (Nat.min_eq_left (Nat.zero_le _))
    | some ad =>
      have := run_copy_cells (P := Try.prog) w 28 28 o.type 5 b k nn cc ad m c (news.map byteV) Try.underlying28 info8 (by rw [List.length_map, hl]; exact (Nat.min_eq_left hmn).symm) (hc ad rfl) (fun j hj => (hcells j hj).1) (fun j hj => (hcells j hj).2) (byteV_one _)
      rw [List.length_map, hl] at this
      exact this
  unfold Oper.wp
  simp [execOp, ho, resolve, invoke, builtin, hd, hx, hrun, Result.andThen]
  exact h _ hset
/-- a fingerprint, or nothing, is copied into a note -/
theorem ntC_copy (n : Nte) (v : Value) (hz : n.sum = zsum) (xs : RecM.Bs) (m : Nat) (hm : xs.length = m) (h : m = 0 ∨ m = 32) : (ntC n v).take 3 ++ xs.map byteV ++ (ntC n v).drop (3 + m) = ntC { n with sum := pad xs } v := by
  rcases h with rfl | rfl
  · obtain rfl : xs = [] := List.eq_nil_of_length_eq_zero hm
    have e : pad [] = n.sum := by rw [hz]; rfl
    rw [e, List.map_nil, List.append_nil, Nat.add_zero, List.take_append_drop]
  · rw [pad_id hm]
    unfold ntC keyC
    rw [Nat.add_comm 3]
    show _ :: _ :: _ :: (xs.map byteV ++ ((n.sum.map byteV ++ [Value.int .u32 (n.kn : Int)]) ++ [v]).drop 32) = _
    rw [List.append_assoc (n.sum.map byteV), List.drop_append_of_le_length (by rw [hz]; simp [zsum]), List.drop_of_length_le (by rw [hz]; simp [zsum]), List.nil_append, List.append_assoc]
theorem takeNew_err {X : Nte × Nat} (hX : X = (zeroN, 100)) {w w' : World} (h : Below w.heap.size w w') {z : List Value} (hz : z = ntC zeroN nilV) : TakeNew X w (.returned (.tuple #[.agg z.toArray, .int .i64 100])) w' := by
  subst hX hz
  exact ⟨none, 0, rfl, ⟨.inl rfl, rfl, ⟨Nat.le_refl _, Nat.zero_le _⟩, fun _ => rfl⟩, .inl rfl, h⟩
theorem takeNew_none {X : Nte × Nat} {N : Nte} (hX : X = (N, 0)) (hd : N.data = []) {w w' : World} (h : Below w.heap.size w w') {c : List Value} (hc : c = ntC N nilV) : TakeNew X w (.returned (.tuple #[.agg c.toArray, .int .i64 0])) w' := by
  subst hX hc
  refine ⟨none, 0, ?_, ⟨by rw [hd]; exact .inl rfl, rfl, ⟨by rw [hd]; exact Nat.le_refl _, Nat.zero_le _⟩, fun _ => rfl⟩, by rw [hd]; exact .inl rfl, h⟩
  rw [hd]
  rfl
theorem takeNew_some {X : Nte × Nat} {N : Nte} (hX : X = (N, 0)) {ys : RecM.Bs} (hd : N.data = ys) {w w' : World} {ao : Option Addr} {l cap : Nat} (hl : ys.length = l) {Ps : List Asn} (h : Own.St w.heap.size w w' Ps) (i : Nat) (hi : Ps[i]? = some (AB ao l cap ys)) {c : List Value} (hc : c = ntC N (.slice ao l cap)) : TakeNew X w (.returned (.tuple #[.agg c.toArray, .int .i64 0])) w' := by
  subst hX hc hd hl
  exact ⟨ao, cap, rfl, given_own h i hi, ab_view h i hi, h.below⟩

set_option maxRecDepth 6000 in
set_option maxHeartbeats 16000000 in
theorem lTake_any (ao : Option Addr) (n cap : Nat) (p : RecM.Bs) (w : World) (hg : Given w ao n cap p) (hb : n ≤ 1000000) :
    Calls Try.prog 16 #[.slice ao n cap] w (TakeNew (RecM.take p) w) := by
  have H := Own.St.start w
  have hn := hg.size
  have hv := hg.view
  obtain ⟨X, hX⟩ : ∃ X, X = RecM.take p := ⟨_, rfl⟩
  rw [← hX]
  rw [take_parse] at hX
  have HX := Lib.hid hX
  obtain ⟨z, hz⟩ : ∃ z, z = ntC zeroN nilV := ⟨_, rfl⟩
  have HZ2 : Hid ((Try.prog.info? 30).bind (·.zero) = some (.agg z.toArray)) := by rw [hz]; exact zero_note
  have HZ0 : Hid (Try.prog.built 30 [] = some z.toArray) := by rw [hz]; exact built_note0
  have HZL : Hid (z.length = 37) := by show z.length = 37; rw [hz]; rfl
  have HZ := Lib.hid hz
  obtain ⟨b2, hb2⟩ : ∃ b, b = w.heap.size := ⟨_, rfl⟩
  obtain ⟨W1, hW1⟩ : ∃ W, W = w.alloc (.cells z.toArray 30) := ⟨_, rfl⟩
  have h1 : Own.St w.heap.size w W1 [AVals b2 30 z] := by rw [hb2, hW1]; exact H.boxV _ _
  have NR : Hid (Calls Try.prog 27 #[.slice ao n cap] W1 fun e w' => ∃ q, e = .returned (.pointer (some ⟨q, 0, none⟩)) ∧ Own.St w.heap.size w w' (Cod.AR q ⟨p, 0⟩ :: [AVals b2 30 z])) := by
    have h := Cod.newReader_old h1 (ao := ao) (l := p) cap (hv.below h1.below) (by omega)
    rw [hn] at h
    exact h
  obtain ⟨x1, r1, hr1⟩ : ∃ x y, RS.num ⟨p, 0⟩ 1 = (x, y) := ⟨_, _, rfl⟩
  have HR1 := Lib.hid hr1
  have hl0 : (⟨p, 0⟩ : RS).l.length ≤ 1000000 := by show p.length ≤ _; omega
  have hl1 : r1.l.length ≤ 1000000 := by have := num_less ⟨p, 0⟩ 1; rw [hr1] at this; exact Nat.le_trans this hl0
  have HL0 : Hid (p.length ≤ 1000000000) := by show _ ≤ _; omega
  have HL1 : Hid (r1.l.length ≤ 1000000000) := by show _ ≤ _; omega
  have hx1 : x1 < 256 := by
    have := num_bound ⟨p, 0⟩ 1 (by decide)
    rw [show ((1 : Nat) : Int) = 1 from rfl, hr1] at this
    exact this
  obtain ⟨c, hcc⟩ : ∃ c : UInt8, x1 = c.toNat := ⟨UInt8.ofNat x1, by simp; omega⟩
  subst hcc
  obtain ⟨cs, hcs⟩ : ∃ cs, cs = ntC { zeroN with kind := c } nilV := ⟨_, rfl⟩
  have BE : Hid (Try.prog.built 30 [(0, .int .u8 (c.toNat : Int))] = some cs.toArray) := by rw [hcs]; exact built_note c.toNat
  have HCS := Lib.hid hcs
  have HB2 := Lib.hid hb2
  have HW1 := Lib.hid hW1
  have HSZ : Hid (zsum.length = 32) := by show _ = _; simp [zsum]
  clear hX hz hb2 hW1 h1 hr1 hcs H hv hl0
  go_enter Try.func16, Try.ntmps16
  go_wp2_with (refine Own.wpList_allocZ rfl 30 rfl z.toArray HZ2.out ?_; rw [← HB2.out, ← HW1.out])
  refine NR.out.mono ?_
  clear NR
  rintro e w2 ⟨q, rfl, h2⟩
  have H2 := Lib.hid h2
  clear h2
  go_wp2_with (fail)
  refine (Cod.rnum_st H2.out 0 rfl 1 HR1.out HL0.out).mono ?_
  rintro e w3 ⟨rfl, h3⟩
  simp only [List.set_cons_zero] at h3
  obtain ⟨b5, hb5⟩ : ∃ b, b = w3.heap.size := ⟨_, rfl⟩
  obtain ⟨W4, hW4⟩ : ∃ W, W = w3.alloc (.cells z.toArray 30) := ⟨_, rfl⟩
  have h4 : Own.St w.heap.size w W4 (AVals b5 30 z :: Cod.AR q r1 :: AVals b2 30 z :: []) := by rw [hb5, hW4]; exact h3.boxV _ _
  have TH : Hid (W4.there b5 0 cs.toArray.size) := h4.thereV 0 rfl (by rw [List.size_toArray, HCS.out, HZL.out]; exact Nat.le_of_eq rfl)
  have hset := Own.St.setAll 0 cs 0 W4 _ z h4 rfl (by rw [HCS.out, HZL.out]; rfl)
  simp only [List.set_cons_zero, List.take_zero, List.nil_append] at hset
  obtain ⟨W5, hW5⟩ : ∃ W, W = W4.setCells b5 0 cs.toArray.toList := ⟨_, rfl⟩
  have H5 : Hid (Own.St w.heap.size w W5 (TR q r1 b5 { zeroN with kind := c } nilV b2 z [])) := by
    rw [hW5, List.toList_toArray]
    rw [HCS.out] at hset ⊢
    exact hset.swap2
  have IO : Hid ((Try.prog.info? 30).map (·.size) = some cs.toArray.size) := info_noteA cs (by rw [HCS.out]; rfl)
  have OO : Hid (cs.toArray.all (·.oneCell') = true) := by show _ = true; rw [HCS.out]; exact all_oneCell_toArray (ntC_one rfl)
  have HB5 := Lib.hid hb5
  have HW4 := Lib.hid hW4
  have HW5 := Lib.hid hW5
  clear h3 h4 hset hb5 hW4 hW5 H2
  by_cases hk : c.toNat = 1
  · skip
    have KK : Hid ((c.toNat : Int) = 1) := by show _ = _; omega
    have HC : Hid (c = 1) := UInt8.toNat_inj.1 (by rw [hk]; rfl)
    have HF : Hid (∀ w, Calls Try.prog 21 #[.int .u8 1] w fun e w' => e = .returned (.int .u8 15) ∧ w = w') := fun w => fields_any 1 (by decide) w
    obtain ⟨ad, r2, hr2⟩ : ∃ x y, RS.num r1 4 = (x, y) := ⟨_, _, rfl⟩
    have bad : ad < 4294967296 := by
      have := num_bound r1 4 (by decide)
      rw [show ((4 : Nat) : Int) = 4 from rfl, hr2] at this
      exact this
    have hl2 : r2.l.length ≤ 1000000 := by have := num_less r1 4; rw [hr2] at this; exact Nat.le_trans this hl1
    obtain ⟨sq, r3, hr3⟩ : ∃ x y, RS.num r2 8 = (x, y) := ⟨_, _, rfl⟩
    have bsq : sq < 18446744073709551616 := by
      have := num_bound r2 8 (by decide)
      rw [show ((8 : Nat) : Int) = 8 from rfl, hr3] at this
      exact this
    have hl3 : r3.l.length ≤ 1000000 := by have := num_less r2 8; rw [hr3] at this; exact Nat.le_trans this hl2
    obtain ⟨xs, r4, hr4⟩ : ∃ x y, RS.raw r3 32 = (x, y) := ⟨_, _, rfl⟩
    obtain ⟨m, hmx⟩ : ∃ m, xs.length = m := ⟨_, rfl⟩
    have hm32 : m = 0 ∨ m = 32 := by have := raw_size r3; rw [hr4] at this; rw [← hmx]; exact this
    have HM32 := Lib.hid hm32
    have HMX := Lib.hid hmx
    have hl4 : r4.l.length ≤ 1000000 := by have := raw_less r3 32; rw [hr4] at this; exact Nat.le_trans this hl3
    obtain ⟨kn, r5, hr5⟩ : ∃ x y, RS.num r4 4 = (x, y) := ⟨_, _, rfl⟩
    have bkn : kn < 4294967296 := by
      have := num_bound r4 4 (by decide)
      rw [show ((4 : Nat) : Int) = 4 from rfl, hr5] at this
      exact this
    have hl5 : r5.l.length ≤ 1000000 := by have := num_less r4 4; rw [hr5] at this; exact Nat.le_trans this hl4
    obtain ⟨ys, r6, hr6⟩ : ∃ x y, RS.blob r5 300 = (x, y) := ⟨_, _, rfl⟩
    obtain ⟨l, hly⟩ : ∃ m, ys.length = m := ⟨_, rfl⟩
    have hl300 : l ≤ 300 := by have := blob_size r5; rw [hr6] at this; rw [← hly]; exact this
    have HLY := Lib.hid hly
    have hl6 : r6.l.length ≤ 1000000 := by have := blob_less r5 300; rw [hr6] at this; exact Nat.le_trans this hl5
    have hp : parse p = (⟨1, ad, sq, pad xs, kn, ys⟩, r6) := by
      rw [parse_1 (by rw [HR1.out]; simp only; rw [HC.out]; rfl)]
      simp only [HR1.out, hr2, hr3, hr4, hr5, hr6]
    rw [← HC.out] at hp
    have HP : Hid (X = if r6.fin = 0 ∧ right ⟨c, ad, sq, pad xs, kn, ys⟩ = true then (⟨c, ad, sq, pad xs, kn, ys⟩, 0) else (zeroN, 100)) := by show X = _; rw [HX.out, hp]
    have HR2 := Lib.hid hr2
    have HL2 : Hid (r2.l.length ≤ 1000000000) := by show _ ≤ _; omega
    have HR3 := Lib.hid hr3
    have HL3 : Hid (r3.l.length ≤ 1000000000) := by show _ ≤ _; omega
    have HR4 := Lib.hid hr4
    have HL4 : Hid (r4.l.length ≤ 1000000000) := by show _ ≤ _; omega
    have HR5 := Lib.hid hr5
    have HL5 : Hid (r5.l.length ≤ 1000000000) := by show _ ≤ _; omega
    have HR6 := Lib.hid hr6
    have HL6 : Hid (r6.l.length ≤ 1000000000) := by show _ ≤ _; omega
    clear hp hr2 hr3 hm32 hmx hr4 hr5 hly hr6 hk hl1 hl2 hl3 hl4 hl5 hl6
    have d0 : W5.cell? ⟨b5, 0, none⟩ = some (.int .u8 1) := by
      have h := (H5.out.cellV 1 rfl 0 rfl).1
      rw [← KK.out]
      exact h
    go_wp2_with (first
      | (refine Own.wpList_built rfl 30 #[(0, .tmp 11)] rfl cs.toArray ?_ ?_; · (simp only [List.map_toArray, List.map_cons, List.map_nil, List.toList_toArray]; exact BE.out))
      | (refine Own.wpList_allocZ rfl 30 rfl z.toArray HZ2.out ?_; rw [← HB5.out, ← HW4.out])
      | (refine wpList_store_mid rfl 30 (.tmp 5) (.tmp 12) rfl b5 0 cs.toArray rfl rfl TH.out IO.out OO.out ?_; rw [← HW5.out]))
    clear HB5 HW4 HW5 TH IO OO BE HCS
    refine (HF.out _).mono ?_
    clear d0
    rintro e wf ⟨rfl, rfl⟩
    go_wp2_with (fail)
    refine (Cod.rnum_st H5.out 0 rfl 4 HR2.out HL1.out).mono ?_
    rintro e w6 ⟨rfl, h6⟩
    simp only [List.set_cons_zero] at h6
    have HA6 : Hid (Own.St w.heap.size w w6 (TR q r2 b5 (⟨c, 0, 0, zsum, 0, []⟩ : Nte) nilV b2 z [])) := h6
    have qc := HA6.out.cellV 1 rfl 1 rfl
    have H6 : Hid (Own.St w.heap.size w (w6.setCell ⟨b5, 1, none⟩ (.int .u32 (ad : Int))) (TR q r2 b5 (⟨c, ad, 0, zsum, 0, []⟩ : Nte) nilV b2 z [])) := by
      have h := HA6.out.storeV 1 rfl 1 (.int .u32 (ad : Int))
      exact h
    clear h6 HA6 HR2 H5
    go_wp2_with (fail)
    clear qc
    refine (Cod.rnum_st H6.out 0 rfl 8 HR3.out HL2.out).mono ?_
    rintro e w7 ⟨rfl, h7⟩
    simp only [List.set_cons_zero] at h7
    have HA7 : Hid (Own.St w.heap.size w w7 (TR q r3 b5 (⟨c, ad, 0, zsum, 0, []⟩ : Nte) nilV b2 z [])) := h7
    have qc := HA7.out.cellV 1 rfl 2 rfl
    have H7 : Hid (Own.St w.heap.size w (w7.setCell ⟨b5, 2, none⟩ (.int .u64 (sq : Int))) (TR q r3 b5 (⟨c, ad, sq, zsum, 0, []⟩ : Nte) nilV b2 z [])) := by
      have h := HA7.out.storeV 1 rfl 2 (.int .u64 (sq : Int))
      exact h
    clear h7 HA7 HR3 H6
    go_wp2_with (fail)
    clear qc
    have HLc : Hid (3 + 32 ≤ (ntC (⟨c, ad, sq, zsum, 0, []⟩ : Nte) nilV).length) := by show _ ≤ _; rw [ntC_len _ _ HSZ.out]; decide
    go_region_law (first
      | (go_simp; go_at_call 29; refine (Cod.rraw_st (H7.out.drew) 0 rfl 32 HR4.out HMX.out HL3.out).mono ?_; rintro e w8 ⟨ax, cx, rfl, h8⟩; simp only [List.set_cons_zero] at h8; have HX8 := Lib.hid h8; have HV8 := Lib.hid (own_news h8 0 rfl); clear h8)
      | (refine step_vals_copy rfl (.tmp 34) (.tmp 36) rfl HX8.out 2 rfl 3 32 32 (by simp [Act.eval, Act.put]) ax m cx xs (by simp [Act.eval, Act.put]) HMX.out (by have := HM32.out; omega) HLc.out (fun h => (HV8.out.1 h).1) HV8.out.2 ?_; intro wx h; simp only [List.set_cons_zero, List.set_cons_succ] at h; rw [ntC_copy (⟨c, ad, sq, zsum, 0, []⟩ : Nte) nilV rfl xs m HMX.out HM32.out] at h; have h := h.drop 1; simp only [List.drop_succ_cons, List.drop_zero] at h; have HC8 : Hid (Own.St w.heap.size w wx (TR q r4 b5 (⟨c, ad, sq, pad xs, 0, []⟩ : Nte) nilV b2 z [])) := h; clear h))
    have HSP : Hid ((pad xs).length = 32) := by
      show _ = 32
      have h1 := HMX.out
      unfold pad
      rw [List.length_append, List.length_replicate]
      have := HM32.out
      omega
    clear HX8 HV8 HLc HR4 H7
    go_wp2_with (fail)
    refine (Cod.rnum_st HC8.out 0 rfl 4 HR5.out HL4.out).mono ?_
    rintro e w9 ⟨rfl, h9⟩
    simp only [List.set_cons_zero] at h9
    have HA9 : Hid (Own.St w.heap.size w w9 (TR q r5 b5 (⟨c, ad, sq, pad xs, 0, []⟩ : Nte) nilV b2 z [])) := h9
    have qc := HA9.out.cellV 1 rfl 35 (ntC_kn _ _ HSP.out)
    have H9 : Hid (Own.St w.heap.size w (w9.setCell ⟨b5, 35, none⟩ (.int .u32 (kn : Int))) (TR q r5 b5 (⟨c, ad, sq, pad xs, kn, []⟩ : Nte) nilV b2 z [])) := by
      have h := HA9.out.storeV 1 rfl 35 (.int .u32 (kn : Int))
      rw [ntC_setN _ _ HSP.out] at h
      exact h
    clear h9 HA9 HR5 HC8
    go_wp2_with (fail)
    clear qc
    refine (Cod.rblob_st H9.out 0 rfl 300 (by decide) HR6.out HLY.out HL5.out).mono ?_
    rintro e w10 ⟨ay, cy, rfl, h10⟩
    simp only [List.set_cons_zero] at h10
    have hq10 := h10.perm (List.perm_append_comm (l₁ := [Cod.AB ay l cy ys]) (l₂ := TR q r6 b5 (⟨c, ad, sq, pad xs, kn, []⟩ : Nte) nilV b2 z []))
    have HA10 : Hid (Own.St w.heap.size w w10 (TR q r6 b5 (⟨c, ad, sq, pad xs, kn, []⟩ : Nte) nilV b2 z [AB ay l cy ys])) := hq10
    have qc := HA10.out.cellV 1 rfl 36 (ntC_data _ _ HSP.out)
    have H10 : Hid (Own.St w.heap.size w (w10.setCell ⟨b5, 36, none⟩ (.slice ay l cy)) (TR q r6 b5 (⟨c, ad, sq, pad xs, kn, ys⟩ : Nte) (.slice ay l cy) b2 z [AB ay l cy ys])) := by
      have h := HA10.out.storeV 1 rfl 36 (.slice ay l cy)
      rw [ntC_setD _ _ _ HSP.out] at h
      exact h
    clear h10 hq10 HA10 HR6 H9
    go_wp2_with (fail)
    clear qc
    obtain ⟨fn, hfn⟩ : ∃ f, f = r6.fin := ⟨_, rfl⟩
    have CE := Cod.end_st H10.out 0 rfl
    rw [← hfn] at CE
    refine CE.mono ?_
    clear CE
    rintro e w20 ⟨rfl, rfl⟩
    have HFN := Lib.hid hfn
    clear hfn
    obtain ⟨W20, hW20⟩ : ∃ W, W = (w10.setCell ⟨b5, 36, none⟩ (.slice ay l cy)) := ⟨_, rfl⟩
    have H20 := H10.out
    clear H10
    rw [← hW20] at H20 ⊢
    have H20 := Lib.hid H20
    clear hW20
    by_cases hf : fn = 0
    · subst hf
      obtain ⟨c9, hc9⟩ : ∃ x, x = ntC (⟨c, ad, sq, pad xs, kn, ys⟩ : Nte) (.slice ay l cy) := ⟨_, rfl⟩
      have H21 : Hid (Own.St w.heap.size w W20 (Cod.AR q r6 :: AVals b5 30 c9 :: AVals b2 30 z :: [AB ay l cy ys])) := by rw [hc9]; exact H20.out
      have NL : Hid (c9.length = 37) := by show _ = 37; rw [hc9]; exact ntC_len _ _ HSP.out
      have RN : Hid (W20.rangeAt b5 0 c9) := fun j v hv => by rw [Nat.zero_add]; exact (H21.out.cellV 1 rfl j hv).1
      obtain ⟨rt, hrt⟩ : ∃ b, b = right (⟨c, ad, sq, pad xs, kn, ys⟩ : Nte) := ⟨_, rfl⟩
      have CR : Hid (Calls Try.prog 12 #[.agg c9.toArray] W20 fun e w' => e = .returned (.bool rt) ∧ Below W20.heap.size W20 w') := by
        rw [hc9, hrt]
        exact lRight_any (⟨c, ad, sq, pad xs, kn, ys⟩ : Nte) HSP.out ay l cy HLY.out (by omega) W20
      have HRT := Lib.hid hrt
      have HC9 := Lib.hid hc9
      clear hc9 hrt H20
      go_wp2_with (refine wpList_val rfl (load_note c9 NL.out rfl _ (b := b5) (k := 0) RN.out rfl) ?_)
      refine CR.out.mono ?_
      clear CR
      rintro e w22 ⟨rfl, h22⟩
      have H22 := Lib.hid (H21.out.later h22)
      clear h22 H21 RN
      cases rt
      · have HE : Hid (X = (zeroN, 100)) := by show X = _; rw [HP.out, if_neg]; rintro ⟨_, h⟩; rw [← HRT.out] at h; cases h
        have IOz : Hid ((Try.prog.info? 30).map (·.size) = some z.toArray.size) := info_noteA z HZL.out
        have OOz : Hid (z.toArray.all (·.oneCell') = true) := by show _ = true; rw [HZ.out]; exact all_oneCell_toArray (ntC_one rfl)
        have THz : Hid (w22.there b2 0 z.toArray.size) := H22.out.thereV 2 rfl (by simp)
        have hset := Own.St.setAll 2 z 0 w22 _ z H22.out rfl (by simp)
        obtain ⟨W30, hW30⟩ : ∃ W, W = w22.setCells b2 0 z.toArray.toList := ⟨_, rfl⟩
        have HW30 := Lib.hid hW30
        have e30 : W30 = w22.setCells b2 0 z := by rw [hW30, List.toList_toArray]
        rw [← e30] at hset
        simp only [List.set_cons_zero, List.set_cons_succ, List.take_zero, List.nil_append] at hset
        have H30 := Lib.hid hset
        clear hset hW30 e30
        go_wp2_with (first
          | (refine Own.wpList_built rfl 30 #[] rfl z.toArray ?_ ?_; · (simp only [List.map_toArray, List.map_cons, List.map_nil, List.toList_toArray]; exact HZ0.out))
          | (refine wpList_store_mid rfl 30 (.tmp 2) (.tmp 57) rfl b2 0 z.toArray rfl rfl THz.out IOz.out OOz.out ?_; rw [← HW30.out]))
        refine bodyPost_ret (results_cell_two rfl _ _ b2 30 _ (0, 0) _ _ rfl rfl (H30.out.rowV 2 rfl) Try.underlying30 rfl (info_note z HZL.out)) rfl ?_
        exact takeNew_err HE.out H30.out.below HZ.out
      · have HE : Hid (X = ((⟨c, ad, sq, pad xs, kn, ys⟩ : Nte), 0)) := by show X = _; rw [HP.out, if_pos ⟨HFN.out.symm, HRT.out.symm⟩]
        have RN : Hid (w22.rangeAt b5 0 c9) := fun j v hv => by rw [Nat.zero_add]; exact (H22.out.cellV 1 rfl j hv).1
        have IO9 : Hid ((Try.prog.info? 30).map (·.size) = some c9.toArray.size) := info_noteA c9 NL.out
        have OO9 : Hid (c9.toArray.all (·.oneCell') = true) := by show _ = true; rw [HC9.out]; exact all_oneCell_toArray (ntC_one rfl)
        have TH9 : Hid (w22.there b2 0 c9.toArray.size) := H22.out.thereV 2 rfl (by rw [List.size_toArray, NL.out, HZL.out]; exact Nat.le_refl _)
        have hset := Own.St.setAll 2 c9 0 w22 _ z H22.out rfl (by rw [NL.out, HZL.out])
        simp only [List.set_cons_zero, List.set_cons_succ, List.take_zero, List.nil_append] at hset
        obtain ⟨W30, hW30⟩ : ∃ W, W = w22.setCells b2 0 c9.toArray.toList := ⟨_, rfl⟩
        have HW30 := Lib.hid hW30
        have H30 : Hid (Own.St w.heap.size w W30 (Cod.AR q r6 :: AVals b5 30 c9 :: AVals b2 30 c9 :: [AB ay l cy ys])) := by rw [hW30, List.toList_toArray]; exact hset
        clear hset hW30
        go_wp2_with (first
          | (refine wpList_val rfl (load_note c9 NL.out rfl _ (b := b5) (k := 0) RN.out rfl) ?_)
          | (refine wpList_store_mid rfl 30 (.tmp 2) (.tmp 58) rfl b2 0 c9.toArray rfl rfl TH9.out IO9.out OO9.out ?_; rw [← HW30.out]))
        refine bodyPost_ret (results_cell_two rfl _ _ b2 30 _ (0, 0) _ _ rfl rfl (H30.out.rowV 2 rfl) Try.underlying30 rfl (info_note c9 NL.out)) rfl ?_
        exact takeNew_some HE.out rfl HLY.out H30.out 3 rfl HC9.out
    · have g : (fn != 0) = true := by simpa using hf
      have HE : Hid (X = (zeroN, 100)) := by show X = _; rw [HP.out, if_neg]; rintro ⟨h, _⟩; rw [← HFN.out] at h; exact hf h
      have IOz : Hid ((Try.prog.info? 30).map (·.size) = some z.toArray.size) := info_noteA z HZL.out
      have OOz : Hid (z.toArray.all (·.oneCell') = true) := by show _ = true; rw [HZ.out]; exact all_oneCell_toArray (ntC_one rfl)
      have THz : Hid (W20.there b2 0 z.toArray.size) := H20.out.thereV 2 rfl (by simp)
      have hset := Own.St.setAll 2 z 0 W20 _ z H20.out rfl (by simp)
      obtain ⟨W30, hW30⟩ : ∃ W, W = W20.setCells b2 0 z.toArray.toList := ⟨_, rfl⟩
      have HW30 := Lib.hid hW30
      have e30 : W30 = W20.setCells b2 0 z := by rw [hW30, List.toList_toArray]
      rw [← e30] at hset
      simp only [List.set_cons_zero, List.set_cons_succ, List.take_zero, List.nil_append] at hset
      have H30 := Lib.hid hset
      clear hset hW30 e30
      go_wp2_with (first
        | (refine Own.wpList_built rfl 30 #[] rfl z.toArray ?_ ?_; · (simp only [List.map_toArray, List.map_cons, List.map_nil, List.toList_toArray]; exact HZ0.out))
        | (refine wpList_store_mid rfl 30 (.tmp 2) (.tmp 57) rfl b2 0 z.toArray rfl rfl THz.out IOz.out OOz.out ?_; rw [← HW30.out]))
      refine bodyPost_ret (results_cell_two rfl _ _ b2 30 _ (0, 0) _ _ rfl rfl (H30.out.rowV 2 rfl) Try.underlying30 rfl (info_note z HZL.out)) rfl ?_
      exact takeNew_err HE.out H30.out.below HZ.out
  have hk1 := hk
  clear hk
  by_cases hk : c.toNat = 2
  · skip
    have KK : Hid ((c.toNat : Int) = 2) := by show _ = _; omega
    have HC : Hid (c = 2) := UInt8.toNat_inj.1 (by rw [hk]; rfl)
    have HF : Hid (∀ w, Calls Try.prog 21 #[.int .u8 2] w fun e w' => e = .returned (.int .u8 3) ∧ w = w') := fun w => fields_any 2 (by decide) w
    obtain ⟨ad, r2, hr2⟩ : ∃ x y, RS.num r1 4 = (x, y) := ⟨_, _, rfl⟩
    have bad : ad < 4294967296 := by
      have := num_bound r1 4 (by decide)
      rw [show ((4 : Nat) : Int) = 4 from rfl, hr2] at this
      exact this
    have hl2 : r2.l.length ≤ 1000000 := by have := num_less r1 4; rw [hr2] at this; exact Nat.le_trans this hl1
    obtain ⟨sq, r3, hr3⟩ : ∃ x y, RS.num r2 8 = (x, y) := ⟨_, _, rfl⟩
    have bsq : sq < 18446744073709551616 := by
      have := num_bound r2 8 (by decide)
      rw [show ((8 : Nat) : Int) = 8 from rfl, hr3] at this
      exact this
    have hl3 : r3.l.length ≤ 1000000 := by have := num_less r2 8; rw [hr3] at this; exact Nat.le_trans this hl2
    have hp : parse p = (⟨2, ad, sq, zsum, 0, []⟩, r3) := by
      rw [parse_2 (by rw [HR1.out]; simp only; rw [HC.out]; rfl)]
      simp only [HR1.out, hr2, hr3]
    rw [← HC.out] at hp
    have HP : Hid (X = if r3.fin = 0 ∧ right ⟨c, ad, sq, zsum, 0, []⟩ = true then (⟨c, ad, sq, zsum, 0, []⟩, 0) else (zeroN, 100)) := by show X = _; rw [HX.out, hp]
    have HR2 := Lib.hid hr2
    have HL2 : Hid (r2.l.length ≤ 1000000000) := by show _ ≤ _; omega
    have HR3 := Lib.hid hr3
    have HL3 : Hid (r3.l.length ≤ 1000000000) := by show _ ≤ _; omega
    clear hp hr2 hr3 hk hl1 hl2 hl3
    have d0 : W5.cell? ⟨b5, 0, none⟩ = some (.int .u8 2) := by
      have h := (H5.out.cellV 1 rfl 0 rfl).1
      rw [← KK.out]
      exact h
    go_wp2_with (first
      | (refine Own.wpList_built rfl 30 #[(0, .tmp 11)] rfl cs.toArray ?_ ?_; · (simp only [List.map_toArray, List.map_cons, List.map_nil, List.toList_toArray]; exact BE.out))
      | (refine Own.wpList_allocZ rfl 30 rfl z.toArray HZ2.out ?_; rw [← HB5.out, ← HW4.out])
      | (refine wpList_store_mid rfl 30 (.tmp 5) (.tmp 12) rfl b5 0 cs.toArray rfl rfl TH.out IO.out OO.out ?_; rw [← HW5.out]))
    clear HB5 HW4 HW5 TH IO OO BE HCS
    refine (HF.out _).mono ?_
    clear d0
    rintro e wf ⟨rfl, rfl⟩
    go_wp2_with (fail)
    refine (Cod.rnum_st H5.out 0 rfl 4 HR2.out HL1.out).mono ?_
    rintro e w6 ⟨rfl, h6⟩
    simp only [List.set_cons_zero] at h6
    have HA6 : Hid (Own.St w.heap.size w w6 (TR q r2 b5 (⟨c, 0, 0, zsum, 0, []⟩ : Nte) nilV b2 z [])) := h6
    have qc := HA6.out.cellV 1 rfl 1 rfl
    have H6 : Hid (Own.St w.heap.size w (w6.setCell ⟨b5, 1, none⟩ (.int .u32 (ad : Int))) (TR q r2 b5 (⟨c, ad, 0, zsum, 0, []⟩ : Nte) nilV b2 z [])) := by
      have h := HA6.out.storeV 1 rfl 1 (.int .u32 (ad : Int))
      exact h
    clear h6 HA6 HR2 H5
    go_wp2_with (fail)
    clear qc
    refine (Cod.rnum_st H6.out 0 rfl 8 HR3.out HL2.out).mono ?_
    rintro e w7 ⟨rfl, h7⟩
    simp only [List.set_cons_zero] at h7
    have HA7 : Hid (Own.St w.heap.size w w7 (TR q r3 b5 (⟨c, ad, 0, zsum, 0, []⟩ : Nte) nilV b2 z [])) := h7
    have qc := HA7.out.cellV 1 rfl 2 rfl
    have H7 : Hid (Own.St w.heap.size w (w7.setCell ⟨b5, 2, none⟩ (.int .u64 (sq : Int))) (TR q r3 b5 (⟨c, ad, sq, zsum, 0, []⟩ : Nte) nilV b2 z [])) := by
      have h := HA7.out.storeV 1 rfl 2 (.int .u64 (sq : Int))
      exact h
    clear h7 HA7 HR3 H6
    go_wp2_with (fail)
    clear qc
    obtain ⟨fn, hfn⟩ : ∃ f, f = r3.fin := ⟨_, rfl⟩
    have CE := Cod.end_st H7.out 0 rfl
    rw [← hfn] at CE
    refine CE.mono ?_
    clear CE
    rintro e w20 ⟨rfl, rfl⟩
    have HFN := Lib.hid hfn
    clear hfn
    obtain ⟨W20, hW20⟩ : ∃ W, W = (w7.setCell ⟨b5, 2, none⟩ (.int .u64 (sq : Int))) := ⟨_, rfl⟩
    have H20 := H7.out
    clear H7
    rw [← hW20] at H20 ⊢
    have H20 := Lib.hid H20
    clear hW20
    by_cases hf : fn = 0
    · subst hf
      obtain ⟨c9, hc9⟩ : ∃ x, x = ntC (⟨c, ad, sq, zsum, 0, []⟩ : Nte) nilV := ⟨_, rfl⟩
      have H21 : Hid (Own.St w.heap.size w W20 (Cod.AR q r3 :: AVals b5 30 c9 :: AVals b2 30 z :: [])) := by rw [hc9]; exact H20.out
      have NL : Hid (c9.length = 37) := by show _ = 37; rw [hc9]; exact ntC_len _ _ HSZ.out
      have RN : Hid (W20.rangeAt b5 0 c9) := fun j v hv => by rw [Nat.zero_add]; exact (H21.out.cellV 1 rfl j hv).1
      obtain ⟨rt, hrt⟩ : ∃ b, b = right (⟨c, ad, sq, zsum, 0, []⟩ : Nte) := ⟨_, rfl⟩
      have CR : Hid (Calls Try.prog 12 #[.agg c9.toArray] W20 fun e w' => e = .returned (.bool rt) ∧ Below W20.heap.size W20 w') := by
        rw [hc9, hrt]
        exact lRight_any (⟨c, ad, sq, zsum, 0, []⟩ : Nte) HSZ.out none 0 0 rfl (by omega) W20
      have HRT := Lib.hid hrt
      have HC9 := Lib.hid hc9
      clear hc9 hrt H20
      go_wp2_with (refine wpList_val rfl (load_note c9 NL.out rfl _ (b := b5) (k := 0) RN.out rfl) ?_)
      refine CR.out.mono ?_
      clear CR
      rintro e w22 ⟨rfl, h22⟩
      have H22 := Lib.hid (H21.out.later h22)
      clear h22 H21 RN
      cases rt
      · have HE : Hid (X = (zeroN, 100)) := by show X = _; rw [HP.out, if_neg]; rintro ⟨_, h⟩; rw [← HRT.out] at h; cases h
        have IOz : Hid ((Try.prog.info? 30).map (·.size) = some z.toArray.size) := info_noteA z HZL.out
        have OOz : Hid (z.toArray.all (·.oneCell') = true) := by show _ = true; rw [HZ.out]; exact all_oneCell_toArray (ntC_one rfl)
        have THz : Hid (w22.there b2 0 z.toArray.size) := H22.out.thereV 2 rfl (by simp)
        have hset := Own.St.setAll 2 z 0 w22 _ z H22.out rfl (by simp)
        obtain ⟨W30, hW30⟩ : ∃ W, W = w22.setCells b2 0 z.toArray.toList := ⟨_, rfl⟩
        have HW30 := Lib.hid hW30
        have e30 : W30 = w22.setCells b2 0 z := by rw [hW30, List.toList_toArray]
        rw [← e30] at hset
        simp only [List.set_cons_zero, List.set_cons_succ, List.take_zero, List.nil_append] at hset
        have H30 := Lib.hid hset
        clear hset hW30 e30
        go_wp2_with (first
          | (refine Own.wpList_built rfl 30 #[] rfl z.toArray ?_ ?_; · (simp only [List.map_toArray, List.map_cons, List.map_nil, List.toList_toArray]; exact HZ0.out))
          | (refine wpList_store_mid rfl 30 (.tmp 2) (.tmp 57) rfl b2 0 z.toArray rfl rfl THz.out IOz.out OOz.out ?_; rw [← HW30.out]))
        refine bodyPost_ret (results_cell_two rfl _ _ b2 30 _ (0, 0) _ _ rfl rfl (H30.out.rowV 2 rfl) Try.underlying30 rfl (info_note z HZL.out)) rfl ?_
        exact takeNew_err HE.out H30.out.below HZ.out
      · have HE : Hid (X = ((⟨c, ad, sq, zsum, 0, []⟩ : Nte), 0)) := by show X = _; rw [HP.out, if_pos ⟨HFN.out.symm, HRT.out.symm⟩]
        have RN : Hid (w22.rangeAt b5 0 c9) := fun j v hv => by rw [Nat.zero_add]; exact (H22.out.cellV 1 rfl j hv).1
        have IO9 : Hid ((Try.prog.info? 30).map (·.size) = some c9.toArray.size) := info_noteA c9 NL.out
        have OO9 : Hid (c9.toArray.all (·.oneCell') = true) := by show _ = true; rw [HC9.out]; exact all_oneCell_toArray (ntC_one rfl)
        have TH9 : Hid (w22.there b2 0 c9.toArray.size) := H22.out.thereV 2 rfl (by rw [List.size_toArray, NL.out, HZL.out]; exact Nat.le_refl _)
        have hset := Own.St.setAll 2 c9 0 w22 _ z H22.out rfl (by rw [NL.out, HZL.out])
        simp only [List.set_cons_zero, List.set_cons_succ, List.take_zero, List.nil_append] at hset
        obtain ⟨W30, hW30⟩ : ∃ W, W = w22.setCells b2 0 c9.toArray.toList := ⟨_, rfl⟩
        have HW30 := Lib.hid hW30
        have H30 : Hid (Own.St w.heap.size w W30 (Cod.AR q r3 :: AVals b5 30 c9 :: AVals b2 30 c9 :: [])) := by rw [hW30, List.toList_toArray]; exact hset
        clear hset hW30
        go_wp2_with (first
          | (refine wpList_val rfl (load_note c9 NL.out rfl _ (b := b5) (k := 0) RN.out rfl) ?_)
          | (refine wpList_store_mid rfl 30 (.tmp 2) (.tmp 58) rfl b2 0 c9.toArray rfl rfl TH9.out IO9.out OO9.out ?_; rw [← HW30.out]))
        refine bodyPost_ret (results_cell_two rfl _ _ b2 30 _ (0, 0) _ _ rfl rfl (H30.out.rowV 2 rfl) Try.underlying30 rfl (info_note c9 NL.out)) rfl ?_
        exact takeNew_none HE.out rfl H30.out.below HC9.out
    · have g : (fn != 0) = true := by simpa using hf
      have HE : Hid (X = (zeroN, 100)) := by show X = _; rw [HP.out, if_neg]; rintro ⟨h, _⟩; rw [← HFN.out] at h; exact hf h
      have IOz : Hid ((Try.prog.info? 30).map (·.size) = some z.toArray.size) := info_noteA z HZL.out
      have OOz : Hid (z.toArray.all (·.oneCell') = true) := by show _ = true; rw [HZ.out]; exact all_oneCell_toArray (ntC_one rfl)
      have THz : Hid (W20.there b2 0 z.toArray.size) := H20.out.thereV 2 rfl (by simp)
      have hset := Own.St.setAll 2 z 0 W20 _ z H20.out rfl (by simp)
      obtain ⟨W30, hW30⟩ : ∃ W, W = W20.setCells b2 0 z.toArray.toList := ⟨_, rfl⟩
      have HW30 := Lib.hid hW30
      have e30 : W30 = W20.setCells b2 0 z := by rw [hW30, List.toList_toArray]
      rw [← e30] at hset
      simp only [List.set_cons_zero, List.set_cons_succ, List.take_zero, List.nil_append] at hset
      have H30 := Lib.hid hset
      clear hset hW30 e30
      go_wp2_with (first
        | (refine Own.wpList_built rfl 30 #[] rfl z.toArray ?_ ?_; · (simp only [List.map_toArray, List.map_cons, List.map_nil, List.toList_toArray]; exact HZ0.out))
        | (refine wpList_store_mid rfl 30 (.tmp 2) (.tmp 57) rfl b2 0 z.toArray rfl rfl THz.out IOz.out OOz.out ?_; rw [← HW30.out]))
      refine bodyPost_ret (results_cell_two rfl _ _ b2 30 _ (0, 0) _ _ rfl rfl (H30.out.rowV 2 rfl) Try.underlying30 rfl (info_note z HZL.out)) rfl ?_
      exact takeNew_err HE.out H30.out.below HZ.out
  have hk2 := hk
  clear hk
  by_cases hk : c.toNat = 3
  · skip
    have KK : Hid ((c.toNat : Int) = 3) := by show _ = _; omega
    have HC : Hid (c = 3) := UInt8.toNat_inj.1 (by rw [hk]; rfl)
    have HF : Hid (∀ w, Calls Try.prog 21 #[.int .u8 3] w fun e w' => e = .returned (.int .u8 2) ∧ w = w') := fun w => fields_any 3 (by decide) w
    obtain ⟨sq, r2, hr2⟩ : ∃ x y, RS.num r1 8 = (x, y) := ⟨_, _, rfl⟩
    have bsq : sq < 18446744073709551616 := by
      have := num_bound r1 8 (by decide)
      rw [show ((8 : Nat) : Int) = 8 from rfl, hr2] at this
      exact this
    have hl2 : r2.l.length ≤ 1000000 := by have := num_less r1 8; rw [hr2] at this; exact Nat.le_trans this hl1
    have hp : parse p = (⟨3, 0, sq, zsum, 0, []⟩, r2) := by
      rw [parse_3 (by rw [HR1.out]; simp only; rw [HC.out]; rfl)]
      simp only [HR1.out, hr2]
    rw [← HC.out] at hp
    have HP : Hid (X = if r2.fin = 0 ∧ right ⟨c, 0, sq, zsum, 0, []⟩ = true then (⟨c, 0, sq, zsum, 0, []⟩, 0) else (zeroN, 100)) := by show X = _; rw [HX.out, hp]
    have HR2 := Lib.hid hr2
    have HL2 : Hid (r2.l.length ≤ 1000000000) := by show _ ≤ _; omega
    clear hp hr2 hk hl1 hl2
    have d0 : W5.cell? ⟨b5, 0, none⟩ = some (.int .u8 3) := by
      have h := (H5.out.cellV 1 rfl 0 rfl).1
      rw [← KK.out]
      exact h
    go_wp2_with (first
      | (refine Own.wpList_built rfl 30 #[(0, .tmp 11)] rfl cs.toArray ?_ ?_; · (simp only [List.map_toArray, List.map_cons, List.map_nil, List.toList_toArray]; exact BE.out))
      | (refine Own.wpList_allocZ rfl 30 rfl z.toArray HZ2.out ?_; rw [← HB5.out, ← HW4.out])
      | (refine wpList_store_mid rfl 30 (.tmp 5) (.tmp 12) rfl b5 0 cs.toArray rfl rfl TH.out IO.out OO.out ?_; rw [← HW5.out]))
    clear HB5 HW4 HW5 TH IO OO BE HCS
    refine (HF.out _).mono ?_
    clear d0
    rintro e wf ⟨rfl, rfl⟩
    go_wp2_with (fail)
    refine (Cod.rnum_st H5.out 0 rfl 8 HR2.out HL1.out).mono ?_
    rintro e w6 ⟨rfl, h6⟩
    simp only [List.set_cons_zero] at h6
    have HA6 : Hid (Own.St w.heap.size w w6 (TR q r2 b5 (⟨c, 0, 0, zsum, 0, []⟩ : Nte) nilV b2 z [])) := h6
    have qc := HA6.out.cellV 1 rfl 2 rfl
    have H6 : Hid (Own.St w.heap.size w (w6.setCell ⟨b5, 2, none⟩ (.int .u64 (sq : Int))) (TR q r2 b5 (⟨c, 0, sq, zsum, 0, []⟩ : Nte) nilV b2 z [])) := by
      have h := HA6.out.storeV 1 rfl 2 (.int .u64 (sq : Int))
      exact h
    clear h6 HA6 HR2 H5
    go_wp2_with (fail)
    clear qc
    obtain ⟨fn, hfn⟩ : ∃ f, f = r2.fin := ⟨_, rfl⟩
    have CE := Cod.end_st H6.out 0 rfl
    rw [← hfn] at CE
    refine CE.mono ?_
    clear CE
    rintro e w20 ⟨rfl, rfl⟩
    have HFN := Lib.hid hfn
    clear hfn
    obtain ⟨W20, hW20⟩ : ∃ W, W = (w6.setCell ⟨b5, 2, none⟩ (.int .u64 (sq : Int))) := ⟨_, rfl⟩
    have H20 := H6.out
    clear H6
    rw [← hW20] at H20 ⊢
    have H20 := Lib.hid H20
    clear hW20
    by_cases hf : fn = 0
    · subst hf
      obtain ⟨c9, hc9⟩ : ∃ x, x = ntC (⟨c, 0, sq, zsum, 0, []⟩ : Nte) nilV := ⟨_, rfl⟩
      have H21 : Hid (Own.St w.heap.size w W20 (Cod.AR q r2 :: AVals b5 30 c9 :: AVals b2 30 z :: [])) := by rw [hc9]; exact H20.out
      have NL : Hid (c9.length = 37) := by show _ = 37; rw [hc9]; exact ntC_len _ _ HSZ.out
      have RN : Hid (W20.rangeAt b5 0 c9) := fun j v hv => by rw [Nat.zero_add]; exact (H21.out.cellV 1 rfl j hv).1
      obtain ⟨rt, hrt⟩ : ∃ b, b = right (⟨c, 0, sq, zsum, 0, []⟩ : Nte) := ⟨_, rfl⟩
      have CR : Hid (Calls Try.prog 12 #[.agg c9.toArray] W20 fun e w' => e = .returned (.bool rt) ∧ Below W20.heap.size W20 w') := by
        rw [hc9, hrt]
        exact lRight_any (⟨c, 0, sq, zsum, 0, []⟩ : Nte) HSZ.out none 0 0 rfl (by omega) W20
      have HRT := Lib.hid hrt
      have HC9 := Lib.hid hc9
      clear hc9 hrt H20
      go_wp2_with (refine wpList_val rfl (load_note c9 NL.out rfl _ (b := b5) (k := 0) RN.out rfl) ?_)
      refine CR.out.mono ?_
      clear CR
      rintro e w22 ⟨rfl, h22⟩
      have H22 := Lib.hid (H21.out.later h22)
      clear h22 H21 RN
      cases rt
      · have HE : Hid (X = (zeroN, 100)) := by show X = _; rw [HP.out, if_neg]; rintro ⟨_, h⟩; rw [← HRT.out] at h; cases h
        have IOz : Hid ((Try.prog.info? 30).map (·.size) = some z.toArray.size) := info_noteA z HZL.out
        have OOz : Hid (z.toArray.all (·.oneCell') = true) := by show _ = true; rw [HZ.out]; exact all_oneCell_toArray (ntC_one rfl)
        have THz : Hid (w22.there b2 0 z.toArray.size) := H22.out.thereV 2 rfl (by simp)
        have hset := Own.St.setAll 2 z 0 w22 _ z H22.out rfl (by simp)
        obtain ⟨W30, hW30⟩ : ∃ W, W = w22.setCells b2 0 z.toArray.toList := ⟨_, rfl⟩
        have HW30 := Lib.hid hW30
        have e30 : W30 = w22.setCells b2 0 z := by rw [hW30, List.toList_toArray]
        rw [← e30] at hset
        simp only [List.set_cons_zero, List.set_cons_succ, List.take_zero, List.nil_append] at hset
        have H30 := Lib.hid hset
        clear hset hW30 e30
        go_wp2_with (first
          | (refine Own.wpList_built rfl 30 #[] rfl z.toArray ?_ ?_; · (simp only [List.map_toArray, List.map_cons, List.map_nil, List.toList_toArray]; exact HZ0.out))
          | (refine wpList_store_mid rfl 30 (.tmp 2) (.tmp 57) rfl b2 0 z.toArray rfl rfl THz.out IOz.out OOz.out ?_; rw [← HW30.out]))
        refine bodyPost_ret (results_cell_two rfl _ _ b2 30 _ (0, 0) _ _ rfl rfl (H30.out.rowV 2 rfl) Try.underlying30 rfl (info_note z HZL.out)) rfl ?_
        exact takeNew_err HE.out H30.out.below HZ.out
      · have HE : Hid (X = ((⟨c, 0, sq, zsum, 0, []⟩ : Nte), 0)) := by show X = _; rw [HP.out, if_pos ⟨HFN.out.symm, HRT.out.symm⟩]
        have RN : Hid (w22.rangeAt b5 0 c9) := fun j v hv => by rw [Nat.zero_add]; exact (H22.out.cellV 1 rfl j hv).1
        have IO9 : Hid ((Try.prog.info? 30).map (·.size) = some c9.toArray.size) := info_noteA c9 NL.out
        have OO9 : Hid (c9.toArray.all (·.oneCell') = true) := by show _ = true; rw [HC9.out]; exact all_oneCell_toArray (ntC_one rfl)
        have TH9 : Hid (w22.there b2 0 c9.toArray.size) := H22.out.thereV 2 rfl (by rw [List.size_toArray, NL.out, HZL.out]; exact Nat.le_refl _)
        have hset := Own.St.setAll 2 c9 0 w22 _ z H22.out rfl (by rw [NL.out, HZL.out])
        simp only [List.set_cons_zero, List.set_cons_succ, List.take_zero, List.nil_append] at hset
        obtain ⟨W30, hW30⟩ : ∃ W, W = w22.setCells b2 0 c9.toArray.toList := ⟨_, rfl⟩
        have HW30 := Lib.hid hW30
        have H30 : Hid (Own.St w.heap.size w W30 (Cod.AR q r2 :: AVals b5 30 c9 :: AVals b2 30 c9 :: [])) := by rw [hW30, List.toList_toArray]; exact hset
        clear hset hW30
        go_wp2_with (first
          | (refine wpList_val rfl (load_note c9 NL.out rfl _ (b := b5) (k := 0) RN.out rfl) ?_)
          | (refine wpList_store_mid rfl 30 (.tmp 2) (.tmp 58) rfl b2 0 c9.toArray rfl rfl TH9.out IO9.out OO9.out ?_; rw [← HW30.out]))
        refine bodyPost_ret (results_cell_two rfl _ _ b2 30 _ (0, 0) _ _ rfl rfl (H30.out.rowV 2 rfl) Try.underlying30 rfl (info_note c9 NL.out)) rfl ?_
        exact takeNew_none HE.out rfl H30.out.below HC9.out
    · have g : (fn != 0) = true := by simpa using hf
      have HE : Hid (X = (zeroN, 100)) := by show X = _; rw [HP.out, if_neg]; rintro ⟨h, _⟩; rw [← HFN.out] at h; exact hf h
      have IOz : Hid ((Try.prog.info? 30).map (·.size) = some z.toArray.size) := info_noteA z HZL.out
      have OOz : Hid (z.toArray.all (·.oneCell') = true) := by show _ = true; rw [HZ.out]; exact all_oneCell_toArray (ntC_one rfl)
      have THz : Hid (W20.there b2 0 z.toArray.size) := H20.out.thereV 2 rfl (by simp)
      have hset := Own.St.setAll 2 z 0 W20 _ z H20.out rfl (by simp)
      obtain ⟨W30, hW30⟩ : ∃ W, W = W20.setCells b2 0 z.toArray.toList := ⟨_, rfl⟩
      have HW30 := Lib.hid hW30
      have e30 : W30 = W20.setCells b2 0 z := by rw [hW30, List.toList_toArray]
      rw [← e30] at hset
      simp only [List.set_cons_zero, List.set_cons_succ, List.take_zero, List.nil_append] at hset
      have H30 := Lib.hid hset
      clear hset hW30 e30
      go_wp2_with (first
        | (refine Own.wpList_built rfl 30 #[] rfl z.toArray ?_ ?_; · (simp only [List.map_toArray, List.map_cons, List.map_nil, List.toList_toArray]; exact HZ0.out))
        | (refine wpList_store_mid rfl 30 (.tmp 2) (.tmp 57) rfl b2 0 z.toArray rfl rfl THz.out IOz.out OOz.out ?_; rw [← HW30.out]))
      refine bodyPost_ret (results_cell_two rfl _ _ b2 30 _ (0, 0) _ _ rfl rfl (H30.out.rowV 2 rfl) Try.underlying30 rfl (info_note z HZL.out)) rfl ?_
      exact takeNew_err HE.out H30.out.below HZ.out
  have hk3 := hk
  clear hk
  by_cases hk : c.toNat = 4
  · skip
    have KK : Hid ((c.toNat : Int) = 4) := by show _ = _; omega
    have HC : Hid (c = 4) := UInt8.toNat_inj.1 (by rw [hk]; rfl)
    have HF : Hid (∀ w, Calls Try.prog 21 #[.int .u8 4] w fun e w' => e = .returned (.int .u8 12) ∧ w = w') := fun w => fields_any 4 (by decide) w
    obtain ⟨xs, r2, hr2⟩ : ∃ x y, RS.raw r1 32 = (x, y) := ⟨_, _, rfl⟩
    obtain ⟨m, hmx⟩ : ∃ m, xs.length = m := ⟨_, rfl⟩
    have hm32 : m = 0 ∨ m = 32 := by have := raw_size r1; rw [hr2] at this; rw [← hmx]; exact this
    have HM32 := Lib.hid hm32
    have HMX := Lib.hid hmx
    have hl2 : r2.l.length ≤ 1000000 := by have := raw_less r1 32; rw [hr2] at this; exact Nat.le_trans this hl1
    obtain ⟨kn, r3, hr3⟩ : ∃ x y, RS.num r2 4 = (x, y) := ⟨_, _, rfl⟩
    have bkn : kn < 4294967296 := by
      have := num_bound r2 4 (by decide)
      rw [show ((4 : Nat) : Int) = 4 from rfl, hr3] at this
      exact this
    have hl3 : r3.l.length ≤ 1000000 := by have := num_less r2 4; rw [hr3] at this; exact Nat.le_trans this hl2
    obtain ⟨ys, r4, hr4⟩ : ∃ x y, RS.blob r3 300 = (x, y) := ⟨_, _, rfl⟩
    obtain ⟨l, hly⟩ : ∃ m, ys.length = m := ⟨_, rfl⟩
    have hl300 : l ≤ 300 := by have := blob_size r3; rw [hr4] at this; rw [← hly]; exact this
    have HLY := Lib.hid hly
    have hl4 : r4.l.length ≤ 1000000 := by have := blob_less r3 300; rw [hr4] at this; exact Nat.le_trans this hl3
    have hp : parse p = (⟨4, 0, 0, pad xs, kn, ys⟩, r4) := by
      rw [parse_4 (by rw [HR1.out]; simp only; rw [HC.out]; rfl)]
      simp only [HR1.out, hr2, hr3, hr4]
    rw [← HC.out] at hp
    have HP : Hid (X = if r4.fin = 0 ∧ right ⟨c, 0, 0, pad xs, kn, ys⟩ = true then (⟨c, 0, 0, pad xs, kn, ys⟩, 0) else (zeroN, 100)) := by show X = _; rw [HX.out, hp]
    have HR2 := Lib.hid hr2
    have HL2 : Hid (r2.l.length ≤ 1000000000) := by show _ ≤ _; omega
    have HR3 := Lib.hid hr3
    have HL3 : Hid (r3.l.length ≤ 1000000000) := by show _ ≤ _; omega
    have HR4 := Lib.hid hr4
    have HL4 : Hid (r4.l.length ≤ 1000000000) := by show _ ≤ _; omega
    clear hp hm32 hmx hr2 hr3 hly hr4 hk hl1 hl2 hl3 hl4
    have d0 : W5.cell? ⟨b5, 0, none⟩ = some (.int .u8 4) := by
      have h := (H5.out.cellV 1 rfl 0 rfl).1
      rw [← KK.out]
      exact h
    go_wp2_with (first
      | (refine Own.wpList_built rfl 30 #[(0, .tmp 11)] rfl cs.toArray ?_ ?_; · (simp only [List.map_toArray, List.map_cons, List.map_nil, List.toList_toArray]; exact BE.out))
      | (refine Own.wpList_allocZ rfl 30 rfl z.toArray HZ2.out ?_; rw [← HB5.out, ← HW4.out])
      | (refine wpList_store_mid rfl 30 (.tmp 5) (.tmp 12) rfl b5 0 cs.toArray rfl rfl TH.out IO.out OO.out ?_; rw [← HW5.out]))
    clear HB5 HW4 HW5 TH IO OO BE HCS
    refine (HF.out _).mono ?_
    clear d0
    rintro e wf ⟨rfl, rfl⟩
    go_wp2_with (fail)
    have H5b : Hid (Own.St w.heap.size w W5 (TR q r1 b5 (⟨c, 0, 0, zsum, 0, []⟩ : Nte) nilV b2 z [])) := H5.out
    clear H5
    have HLc : Hid (3 + 32 ≤ (ntC (⟨c, 0, 0, zsum, 0, []⟩ : Nte) nilV).length) := by show _ ≤ _; rw [ntC_len _ _ HSZ.out]; decide
    go_region_law (first
      | (go_simp; go_at_call 29; refine (Cod.rraw_st (H5b.out.drew) 0 rfl 32 HR2.out HMX.out HL1.out).mono ?_; rintro e w6 ⟨ax, cx, rfl, h6⟩; simp only [List.set_cons_zero] at h6; have HX6 := Lib.hid h6; have HV6 := Lib.hid (own_news h6 0 rfl); clear h6)
      | (refine step_vals_copy rfl (.tmp 34) (.tmp 36) rfl HX6.out 2 rfl 3 32 32 (by simp [Act.eval, Act.put]) ax m cx xs (by simp [Act.eval, Act.put]) HMX.out (by have := HM32.out; omega) HLc.out (fun h => (HV6.out.1 h).1) HV6.out.2 ?_; intro wx h; simp only [List.set_cons_zero, List.set_cons_succ] at h; rw [ntC_copy (⟨c, 0, 0, zsum, 0, []⟩ : Nte) nilV rfl xs m HMX.out HM32.out] at h; have h := h.drop 1; simp only [List.drop_succ_cons, List.drop_zero] at h; have HC6 : Hid (Own.St w.heap.size w wx (TR q r2 b5 (⟨c, 0, 0, pad xs, 0, []⟩ : Nte) nilV b2 z [])) := h; clear h))
    have HSP : Hid ((pad xs).length = 32) := by
      show _ = 32
      have h1 := HMX.out
      unfold pad
      rw [List.length_append, List.length_replicate]
      have := HM32.out
      omega
    clear HX6 HV6 HLc HR2 H5b
    go_wp2_with (fail)
    refine (Cod.rnum_st HC6.out 0 rfl 4 HR3.out HL2.out).mono ?_
    rintro e w7 ⟨rfl, h7⟩
    simp only [List.set_cons_zero] at h7
    have HA7 : Hid (Own.St w.heap.size w w7 (TR q r3 b5 (⟨c, 0, 0, pad xs, 0, []⟩ : Nte) nilV b2 z [])) := h7
    have qc := HA7.out.cellV 1 rfl 35 (ntC_kn _ _ HSP.out)
    have H7 : Hid (Own.St w.heap.size w (w7.setCell ⟨b5, 35, none⟩ (.int .u32 (kn : Int))) (TR q r3 b5 (⟨c, 0, 0, pad xs, kn, []⟩ : Nte) nilV b2 z [])) := by
      have h := HA7.out.storeV 1 rfl 35 (.int .u32 (kn : Int))
      rw [ntC_setN _ _ HSP.out] at h
      exact h
    clear h7 HA7 HR3 HC6
    go_wp2_with (fail)
    clear qc
    refine (Cod.rblob_st H7.out 0 rfl 300 (by decide) HR4.out HLY.out HL3.out).mono ?_
    rintro e w8 ⟨ay, cy, rfl, h8⟩
    simp only [List.set_cons_zero] at h8
    have hq8 := h8.perm (List.perm_append_comm (l₁ := [Cod.AB ay l cy ys]) (l₂ := TR q r4 b5 (⟨c, 0, 0, pad xs, kn, []⟩ : Nte) nilV b2 z []))
    have HA8 : Hid (Own.St w.heap.size w w8 (TR q r4 b5 (⟨c, 0, 0, pad xs, kn, []⟩ : Nte) nilV b2 z [AB ay l cy ys])) := hq8
    have qc := HA8.out.cellV 1 rfl 36 (ntC_data _ _ HSP.out)
    have H8 : Hid (Own.St w.heap.size w (w8.setCell ⟨b5, 36, none⟩ (.slice ay l cy)) (TR q r4 b5 (⟨c, 0, 0, pad xs, kn, ys⟩ : Nte) (.slice ay l cy) b2 z [AB ay l cy ys])) := by
      have h := HA8.out.storeV 1 rfl 36 (.slice ay l cy)
      rw [ntC_setD _ _ _ HSP.out] at h
      exact h
    clear h8 hq8 HA8 HR4 H7
    go_wp2_with (fail)
    clear qc
    obtain ⟨fn, hfn⟩ : ∃ f, f = r4.fin := ⟨_, rfl⟩
    have CE := Cod.end_st H8.out 0 rfl
    rw [← hfn] at CE
    refine CE.mono ?_
    clear CE
    rintro e w20 ⟨rfl, rfl⟩
    have HFN := Lib.hid hfn
    clear hfn
    obtain ⟨W20, hW20⟩ : ∃ W, W = (w8.setCell ⟨b5, 36, none⟩ (.slice ay l cy)) := ⟨_, rfl⟩
    have H20 := H8.out
    clear H8
    rw [← hW20] at H20 ⊢
    have H20 := Lib.hid H20
    clear hW20
    by_cases hf : fn = 0
    · subst hf
      obtain ⟨c9, hc9⟩ : ∃ x, x = ntC (⟨c, 0, 0, pad xs, kn, ys⟩ : Nte) (.slice ay l cy) := ⟨_, rfl⟩
      have H21 : Hid (Own.St w.heap.size w W20 (Cod.AR q r4 :: AVals b5 30 c9 :: AVals b2 30 z :: [AB ay l cy ys])) := by rw [hc9]; exact H20.out
      have NL : Hid (c9.length = 37) := by show _ = 37; rw [hc9]; exact ntC_len _ _ HSP.out
      have RN : Hid (W20.rangeAt b5 0 c9) := fun j v hv => by rw [Nat.zero_add]; exact (H21.out.cellV 1 rfl j hv).1
      obtain ⟨rt, hrt⟩ : ∃ b, b = right (⟨c, 0, 0, pad xs, kn, ys⟩ : Nte) := ⟨_, rfl⟩
      have CR : Hid (Calls Try.prog 12 #[.agg c9.toArray] W20 fun e w' => e = .returned (.bool rt) ∧ Below W20.heap.size W20 w') := by
        rw [hc9, hrt]
        exact lRight_any (⟨c, 0, 0, pad xs, kn, ys⟩ : Nte) HSP.out ay l cy HLY.out (by omega) W20
      have HRT := Lib.hid hrt
      have HC9 := Lib.hid hc9
      clear hc9 hrt H20
      go_wp2_with (refine wpList_val rfl (load_note c9 NL.out rfl _ (b := b5) (k := 0) RN.out rfl) ?_)
      refine CR.out.mono ?_
      clear CR
      rintro e w22 ⟨rfl, h22⟩
      have H22 := Lib.hid (H21.out.later h22)
      clear h22 H21 RN
      cases rt
      · have HE : Hid (X = (zeroN, 100)) := by show X = _; rw [HP.out, if_neg]; rintro ⟨_, h⟩; rw [← HRT.out] at h; cases h
        have IOz : Hid ((Try.prog.info? 30).map (·.size) = some z.toArray.size) := info_noteA z HZL.out
        have OOz : Hid (z.toArray.all (·.oneCell') = true) := by show _ = true; rw [HZ.out]; exact all_oneCell_toArray (ntC_one rfl)
        have THz : Hid (w22.there b2 0 z.toArray.size) := H22.out.thereV 2 rfl (by simp)
        have hset := Own.St.setAll 2 z 0 w22 _ z H22.out rfl (by simp)
        obtain ⟨W30, hW30⟩ : ∃ W, W = w22.setCells b2 0 z.toArray.toList := ⟨_, rfl⟩
        have HW30 := Lib.hid hW30
        have e30 : W30 = w22.setCells b2 0 z := by rw [hW30, List.toList_toArray]
        rw [← e30] at hset
        simp only [List.set_cons_zero, List.set_cons_succ, List.take_zero, List.nil_append] at hset
        have H30 := Lib.hid hset
        clear hset hW30 e30
        go_wp2_with (first
          | (refine Own.wpList_built rfl 30 #[] rfl z.toArray ?_ ?_; · (simp only [List.map_toArray, List.map_cons, List.map_nil, List.toList_toArray]; exact HZ0.out))
          | (refine wpList_store_mid rfl 30 (.tmp 2) (.tmp 57) rfl b2 0 z.toArray rfl rfl THz.out IOz.out OOz.out ?_; rw [← HW30.out]))
        refine bodyPost_ret (results_cell_two rfl _ _ b2 30 _ (0, 0) _ _ rfl rfl (H30.out.rowV 2 rfl) Try.underlying30 rfl (info_note z HZL.out)) rfl ?_
        exact takeNew_err HE.out H30.out.below HZ.out
      · have HE : Hid (X = ((⟨c, 0, 0, pad xs, kn, ys⟩ : Nte), 0)) := by show X = _; rw [HP.out, if_pos ⟨HFN.out.symm, HRT.out.symm⟩]
        have RN : Hid (w22.rangeAt b5 0 c9) := fun j v hv => by rw [Nat.zero_add]; exact (H22.out.cellV 1 rfl j hv).1
        have IO9 : Hid ((Try.prog.info? 30).map (·.size) = some c9.toArray.size) := info_noteA c9 NL.out
        have OO9 : Hid (c9.toArray.all (·.oneCell') = true) := by show _ = true; rw [HC9.out]; exact all_oneCell_toArray (ntC_one rfl)
        have TH9 : Hid (w22.there b2 0 c9.toArray.size) := H22.out.thereV 2 rfl (by rw [List.size_toArray, NL.out, HZL.out]; exact Nat.le_refl _)
        have hset := Own.St.setAll 2 c9 0 w22 _ z H22.out rfl (by rw [NL.out, HZL.out])
        simp only [List.set_cons_zero, List.set_cons_succ, List.take_zero, List.nil_append] at hset
        obtain ⟨W30, hW30⟩ : ∃ W, W = w22.setCells b2 0 c9.toArray.toList := ⟨_, rfl⟩
        have HW30 := Lib.hid hW30
        have H30 : Hid (Own.St w.heap.size w W30 (Cod.AR q r4 :: AVals b5 30 c9 :: AVals b2 30 c9 :: [AB ay l cy ys])) := by rw [hW30, List.toList_toArray]; exact hset
        clear hset hW30
        go_wp2_with (first
          | (refine wpList_val rfl (load_note c9 NL.out rfl _ (b := b5) (k := 0) RN.out rfl) ?_)
          | (refine wpList_store_mid rfl 30 (.tmp 2) (.tmp 58) rfl b2 0 c9.toArray rfl rfl TH9.out IO9.out OO9.out ?_; rw [← HW30.out]))
        refine bodyPost_ret (results_cell_two rfl _ _ b2 30 _ (0, 0) _ _ rfl rfl (H30.out.rowV 2 rfl) Try.underlying30 rfl (info_note c9 NL.out)) rfl ?_
        exact takeNew_some HE.out rfl HLY.out H30.out 3 rfl HC9.out
    · have g : (fn != 0) = true := by simpa using hf
      have HE : Hid (X = (zeroN, 100)) := by show X = _; rw [HP.out, if_neg]; rintro ⟨h, _⟩; rw [← HFN.out] at h; exact hf h
      have IOz : Hid ((Try.prog.info? 30).map (·.size) = some z.toArray.size) := info_noteA z HZL.out
      have OOz : Hid (z.toArray.all (·.oneCell') = true) := by show _ = true; rw [HZ.out]; exact all_oneCell_toArray (ntC_one rfl)
      have THz : Hid (W20.there b2 0 z.toArray.size) := H20.out.thereV 2 rfl (by simp)
      have hset := Own.St.setAll 2 z 0 W20 _ z H20.out rfl (by simp)
      obtain ⟨W30, hW30⟩ : ∃ W, W = W20.setCells b2 0 z.toArray.toList := ⟨_, rfl⟩
      have HW30 := Lib.hid hW30
      have e30 : W30 = W20.setCells b2 0 z := by rw [hW30, List.toList_toArray]
      rw [← e30] at hset
      simp only [List.set_cons_zero, List.set_cons_succ, List.take_zero, List.nil_append] at hset
      have H30 := Lib.hid hset
      clear hset hW30 e30
      go_wp2_with (first
        | (refine Own.wpList_built rfl 30 #[] rfl z.toArray ?_ ?_; · (simp only [List.map_toArray, List.map_cons, List.map_nil, List.toList_toArray]; exact HZ0.out))
        | (refine wpList_store_mid rfl 30 (.tmp 2) (.tmp 57) rfl b2 0 z.toArray rfl rfl THz.out IOz.out OOz.out ?_; rw [← HW30.out]))
      refine bodyPost_ret (results_cell_two rfl _ _ b2 30 _ (0, 0) _ _ rfl rfl (H30.out.rowV 2 rfl) Try.underlying30 rfl (info_note z HZL.out)) rfl ?_
      exact takeNew_err HE.out H30.out.below HZ.out
  have hk4 := hk
  clear hk
  · skip
    have HF : Hid (∀ w, Calls Try.prog 21 #[.int .u8 (c.toNat : Int)] w fun e w' => e = .returned (.int .u8 0) ∧ w = w') := by
      intro w
      have h := fields_any c.toNat hx1 w
      have e : fieldsN c.toNat = 0 := by unfold fieldsN; rw [if_neg hk1, if_neg hk2, if_neg hk3, if_neg hk4]
      rw [e] at h
      exact h
    have HRF : Hid (right ({ zeroN with kind := c } : Nte) = false) := by
      show _ = false
      rw [right_by]
      unfold fieldsN
      rw [if_neg hk1, if_neg hk2, if_neg hk3, if_neg hk4]
      simp
    have HE : Hid (X = (zeroN, 100)) := by
      show X = _
      rw [HX.out, if_neg]
      rintro ⟨_, h⟩
      have hkk := right_kind h
      rw [parse_kind, HR1.out] at hkk
      simp only [UInt8.ofNat_toNat] at hkk
      obtain ⟨i1, i2, i3, i4⟩ := kind_is c
      rcases hkk with h | h | h | h
      · exact hk1 (i1.1 h)
      · exact hk2 (i2.1 h)
      · exact hk3 (i3.1 h)
      · exact hk4 (i4.1 h)
    clear hk1 hk2 hk3 hk4 hl1
    have d0 : W5.cell? ⟨b5, 0, none⟩ = some (.int .u8 (c.toNat : Int)) := (H5.out.cellV 1 rfl 0 rfl).1
    go_wp2_with (first
      | (refine Own.wpList_built rfl 30 #[(0, .tmp 11)] rfl cs.toArray ?_ ?_; · (simp only [List.map_toArray, List.map_cons, List.map_nil, List.toList_toArray]; exact BE.out))
      | (refine Own.wpList_allocZ rfl 30 rfl z.toArray HZ2.out ?_; rw [← HB5.out, ← HW4.out])
      | (refine wpList_store_mid rfl 30 (.tmp 5) (.tmp 12) rfl b5 0 cs.toArray rfl rfl TH.out IO.out OO.out ?_; rw [← HW5.out]))
    clear HB5 HW4 HW5 TH IO OO BE HCS
    refine (HF.out _).mono ?_
    clear d0
    rintro e wf ⟨rfl, rfl⟩
    go_wp2_with (fail)
    obtain ⟨fn, hfn⟩ : ∃ f, f = r1.fin := ⟨_, rfl⟩
    have CE := Cod.end_st H5.out 0 rfl
    rw [← hfn] at CE
    refine CE.mono ?_
    clear CE
    rintro e w20 ⟨rfl, rfl⟩
    have HFN := Lib.hid hfn
    clear hfn
    by_cases hf : fn = 0
    · subst hf
      obtain ⟨c9, hc9⟩ : ∃ x, x = ntC (⟨c, 0, 0, zsum, 0, []⟩ : Nte) nilV := ⟨_, rfl⟩
      have H21 : Hid (Own.St w.heap.size w W5 (Cod.AR q r1 :: AVals b5 30 c9 :: AVals b2 30 z :: [])) := by rw [hc9]; exact H5.out
      have NL : Hid (c9.length = 37) := by show _ = 37; rw [hc9]; exact ntC_len _ _ HSZ.out
      have RN : Hid (W5.rangeAt b5 0 c9) := fun j v hv => by rw [Nat.zero_add]; exact (H21.out.cellV 1 rfl j hv).1
      obtain ⟨rt, hrt⟩ : ∃ b, b = right (⟨c, 0, 0, zsum, 0, []⟩ : Nte) := ⟨_, rfl⟩
      have CR : Hid (Calls Try.prog 12 #[.agg c9.toArray] W5 fun e w' => e = .returned (.bool rt) ∧ Below W5.heap.size W5 w') := by
        rw [hc9, hrt]
        exact lRight_any (⟨c, 0, 0, zsum, 0, []⟩ : Nte) HSZ.out none 0 0 rfl (by omega) W5
      have HRT := Lib.hid hrt
      have HC9 := Lib.hid hc9
      clear hc9 hrt H5
      go_wp2_with (refine wpList_val rfl (load_note c9 NL.out rfl _ (b := b5) (k := 0) RN.out rfl) ?_)
      refine CR.out.mono ?_
      clear CR
      rintro e w22 ⟨rfl, h22⟩
      have H22 := Lib.hid (H21.out.later h22)
      clear h22 H21 RN
      have hrt := HRT.out
      have e := HRF.out
      rw [show right (⟨c, 0, 0, zsum, 0, []⟩ : Nte) = false from e] at hrt
      subst hrt
      have IOz : Hid ((Try.prog.info? 30).map (·.size) = some z.toArray.size) := info_noteA z HZL.out
      have OOz : Hid (z.toArray.all (·.oneCell') = true) := by show _ = true; rw [HZ.out]; exact all_oneCell_toArray (ntC_one rfl)
      have THz : Hid (w22.there b2 0 z.toArray.size) := H22.out.thereV 2 rfl (by simp)
      have hset := Own.St.setAll 2 z 0 w22 _ z H22.out rfl (by simp)
      obtain ⟨W30, hW30⟩ : ∃ W, W = w22.setCells b2 0 z.toArray.toList := ⟨_, rfl⟩
      have HW30 := Lib.hid hW30
      have e30 : W30 = w22.setCells b2 0 z := by rw [hW30, List.toList_toArray]
      rw [← e30] at hset
      simp only [List.set_cons_zero, List.set_cons_succ, List.take_zero, List.nil_append] at hset
      have H30 := Lib.hid hset
      clear hset hW30 e30
      go_wp2_with (first
        | (refine Own.wpList_built rfl 30 #[] rfl z.toArray ?_ ?_; · (simp only [List.map_toArray, List.map_cons, List.map_nil, List.toList_toArray]; exact HZ0.out))
        | (refine wpList_store_mid rfl 30 (.tmp 2) (.tmp 57) rfl b2 0 z.toArray rfl rfl THz.out IOz.out OOz.out ?_; rw [← HW30.out]))
      refine bodyPost_ret (results_cell_two rfl _ _ b2 30 _ (0, 0) _ _ rfl rfl (H30.out.rowV 2 rfl) Try.underlying30 rfl (info_note z HZL.out)) rfl ?_
      exact takeNew_err HE.out H30.out.below HZ.out
    · have g : (fn != 0) = true := by simpa using hf
      have IOz : Hid ((Try.prog.info? 30).map (·.size) = some z.toArray.size) := info_noteA z HZL.out
      have OOz : Hid (z.toArray.all (·.oneCell') = true) := by show _ = true; rw [HZ.out]; exact all_oneCell_toArray (ntC_one rfl)
      have THz : Hid (W5.there b2 0 z.toArray.size) := H5.out.thereV 2 rfl (by simp)
      have hset := Own.St.setAll 2 z 0 W5 _ z H5.out rfl (by simp)
      obtain ⟨W30, hW30⟩ : ∃ W, W = W5.setCells b2 0 z.toArray.toList := ⟨_, rfl⟩
      have HW30 := Lib.hid hW30
      have e30 : W30 = W5.setCells b2 0 z := by rw [hW30, List.toList_toArray]
      rw [← e30] at hset
      simp only [List.set_cons_zero, List.set_cons_succ, List.take_zero, List.nil_append] at hset
      have H30 := Lib.hid hset
      clear hset hW30 e30
      go_wp2_with (first
        | (refine Own.wpList_built rfl 30 #[] rfl z.toArray ?_ ?_; · (simp only [List.map_toArray, List.map_cons, List.map_nil, List.toList_toArray]; exact HZ0.out))
        | (refine wpList_store_mid rfl 30 (.tmp 2) (.tmp 57) rfl b2 0 z.toArray rfl rfl THz.out IOz.out OOz.out ?_; rw [← HW30.out]))
      refine bodyPost_ret (results_cell_two rfl _ _ b2 30 _ (0, 0) _ _ rfl rfl (H30.out.rowV 2 rfl) Try.underlying30 rfl (info_note z HZL.out)) rfl ?_
      exact takeNew_err HE.out H30.out.below HZ.out
theorem kept (W : World) : Kept W where
  right := fun n ao len cap f _ hg hb => lRight_any n f.sum ao len cap hg.size hb _
  lay := fun n ao len cap f _ hg hb => lLay_any n f ao len cap _ hg hb
  take := fun ao n cap p _ hg hb => lTake_any ao n cap p _ hg hb
  pages := fun n ao len cap f _ hg hb => lPages_any n f ao len cap _ hg hb
end Rec
end Go.Proofs.Ytefbcoakjdjkgaa
