/- Merged: RedD Bx LgaB TbaA Cpm TbaB TbaC LgaC TopB KecR KecF KecD KecL KecS -/
import Derived.Deep.MidRow
import Derived.Lib.SlBytesConst
import Derived.Test.YtahjjcmeocibbaaGreatDoorRows
import Derived.WalkKit
import Derived.Deep.QuietTactic
import Derived.BigQuiet
import Derived.Lib.Hide
import Derived.Laws.BitsAllLaws
import Derived.WalkLawsBesides
import Derived.Laws.Rows
import Derived.Test.YtahjjcmeocibbaaGreatDoorQ1
import Derived.Test.YtahjjcmeocibbaaGreatDoorQ2
import Derived.Test.YtahjjcmeocibbaaGreatDoorQ3
import Derived.Test.YtahjjcmeocibbaaGreatDoorQ4
import Derived.Test.YtahjjcmeocibbaaGreatDoorQ5
import Derived.Test.YtahjjcmeocibbaaGreatDoorQ6
set_option linter.unusedVariables false
section
namespace Go.Proofs.YtahjjcmeocibbaaGreatDoor
open Go.RowKit Go.Own
namespace Rec
open Go.RecM Byt
open Cod (RS)
theorem num_less (r : RS) (k : Int) : (r.num k).2.l.length <= r.l.length := by
 obtain ⟨l, e⟩ := r
 unfold RS.num
 (repeat' split) <;> simp
theorem raw_less (r : RS) (k : Int) : (r.raw k).2.l.length <= r.l.length := by
 obtain ⟨l, e⟩ := r
 unfold RS.raw
 (repeat' split) <;> simp
theorem blob_less (r : RS) (k : Int) : (r.blob k).2.l.length <= r.l.length := by
 obtain ⟨l, e⟩ := r
 unfold RS.blob
 (repeat' split) <;> simp <;> omega
abbrev TR (q : Nat) (r : RS) (b5 : Nat) (n : Nte) (v : Value) (b2 : Nat) (z : List Value) (Ps : List Asn) : List Asn := Cod.AR q r :: AVals b5 54 (ntC n v) :: AVals b2 54 z :: Ps
theorem step_vals_copy {ops : Array Oper} {o : Oper} {a : Act} {w : World} {K : Act -> World -> Prop} {Q : Exit -> Act -> World -> Prop} {E : Prop} {B : Nat} {w0 : World} {Ps : List Asn} (hgd : o.guard = none) (d s : Operand)
 (ho : o.op = .call { callee := .builtin .copy, args := #[d, s], argTypes := #[37, 37] }) (H : Own.St B w0 w Ps) (i : Nat) {b : Nat} {t : TypeId} {vs : List Value} (hi : Ps[i]? = some (AVals b t vs)) (k nn cc : Nat) (hd : a.eval d = .slice (some ⟨b, k, none⟩) nn cc)
 (bo : Option Addr) (m c : Nat) (news : List UInt8) (hx : a.eval s = .slice bo m c) (hl : news.length = m) (hmn : m <= nn) (hkl : k + nn <= vs.length) (hno : bo = none -> m = 0)
 (hc : ∀ a, bo = some a -> ∀ j u, (news.map byteV)[j]? = some u -> w.cell? (a.add j) = some u)
 (h : ∀ w', Own.St B w0 w' (Ps.set i (AVals b t (vs.take k ++ news.map byteV ++ vs.drop (k + m)))) -> K (a.put o.dst (goInt m)) w') :
 if Region.wanted o (yielded ops a.tmps) = true then Oper.wp Tryz.prog o a w K Q else E := by
 have hw : Region.wanted o (yielded ops a.tmps) = true := by simp [Region.wanted, hgd]
 rw [if_pos hw]
 have hset := Own.St.setMid i (news.map byteV) k w Ps vs H hi (by simp; omega)
 rw [List.length_map, hl] at hset
 have hcells : ∀ j, j < (news.map byteV).length -> (w.cell? ⟨b, k + j, none⟩).isSome = true /\ w.frozen? ⟨b, k + j, none⟩ = false := by
  intro j hj
  rw [List.length_map] at hj
  obtain ⟨h1, h2⟩ := H.cellV i hi (k + j) (v := vs[k + j]'(by omega)) (List.getElem?_eq_getElem (by omega))
  exact ⟨by rw [h1]; rfl, h2⟩
 have hrun : (Builtin.copy_ #[37, 37] o.type #[.slice (some ⟨b, k, none⟩) nn cc, .slice bo m c]).run Tryz.prog w = .ok (goInt m) (w.setCells b k (news.map byteV)) := by
  cases bo with
  | none =>
   have hm := hno rfl
   subst hm
   obtain rfl : news = [] := List.eq_nil_of_length_eq_zero hl
   exact run_copy_none (P := Tryz.prog) w 37 37 o.type 5 _ none nn cc 0 c Tryz.underlying37 info8 (Nat.min_eq_left (Nat.zero_le _))
  | some ad =>
   have := run_copy_cells (P := Tryz.prog) w 37 37 o.type 5 b k nn cc ad m c (news.map byteV) Tryz.underlying37 info8 (by rw [List.length_map, hl]; exact (Nat.min_eq_left hmn).symm) (hc ad rfl) (fun j hj => (hcells j hj).1) (fun j hj => (hcells j hj).2) (byteV_one _)
   rw [List.length_map, hl] at this
   exact this
 unfold Oper.wp
 simp [execOp, ho, resolve, invoke, builtin, hd, hx, hrun, Result.andThen]
 exact h _ hset
theorem ntC_copy (n : Nte) (v : Value) (hz : n.sum = zsum) (xs : RecM.Bs) (m : Nat) (hm : xs.length = m) (h : m = 0 \/ m = 32) : (ntC n v).take 3 ++ xs.map byteV ++ (ntC n v).drop (3 + m) = ntC { n with sum := pad xs } v := by
 rcases h with rfl | rfl
 · obtain rfl : xs = [] := List.eq_nil_of_length_eq_zero hm
   have e : pad [] = n.sum := by rw [hz]; rfl
   rw [e, List.map_nil, List.append_nil, Nat.add_zero, List.take_append_drop]
 · rw [pad_id hm]
   unfold ntC keyC
   rw [Nat.add_comm 3]
   show _ :: _ :: _ :: (xs.map byteV ++ ((n.sum.map byteV ++ [Value.int .u32 (n.kn : Int)]) ++ [v]).drop 32) = _
   rw [List.append_assoc (n.sum.map byteV), List.drop_append_of_le_length (by rw [hz]; simp [zsum]), List.drop_of_length_le (by rw [hz]; simp [zsum]), List.nil_append, List.append_assoc]
theorem takeNew_err {X : Nte × Nat} (hX : X = (zeroN, 100)) {w w' : World} (h : Below w.heap.size w w') {z : List Value} (hz : z = ntC zeroN nilV) : TakeNew X w (.returned (.tuple #[.agg z.toArray, .int .i64 100])) w' := by
 subst hX hz
 exact ⟨none, 0, rfl, ⟨.inl rfl, rfl, ⟨Nat.le_refl _, Nat.zero_le _⟩, fun _ => rfl⟩, .inl rfl, h⟩
theorem takeNew_none {X : Nte × Nat} {N : Nte} (hX : X = (N, 0)) (hd : N.data = []) {w w' : World} (h : Below w.heap.size w w') {c : List Value} (hc : c = ntC N nilV) : TakeNew X w (.returned (.tuple #[.agg c.toArray, .int .i64 0])) w' := by
 subst hX hc
 refine ⟨none, 0, ?_, ⟨by rw [hd]; exact .inl rfl, rfl, ⟨by rw [hd]; exact Nat.le_refl _, Nat.zero_le _⟩, fun _ => rfl⟩, by rw [hd]; exact .inl rfl, h⟩
 rw [hd]
 rfl
theorem takeNew_some {X : Nte × Nat} {N : Nte} (hX : X = (N, 0)) {ys : RecM.Bs} (hd : N.data = ys) {w w' : World} {ao : Option Addr} {l cap : Nat} (hl : ys.length = l) {Ps : List Asn} (h : Own.St w.heap.size w w' Ps) (i : Nat) (hi : Ps[i]? = some (AB ao l cap ys)) {c : List Value} (hc : c = ntC N (.slice ao l cap)) : TakeNew X w (.returned (.tuple #[.agg c.toArray, .int .i64 0])) w' := by
 subst hX hc hd hl
 exact ⟨ao, cap, rfl, given_own h i hi, ab_view h i hi, h.below⟩
set_option maxRecDepth 6000 in
set_option maxHeartbeats 16000000 in
theorem lTake_any (ao : Option Addr) (n cap : Nat) (p : RecM.Bs) (w : World) (hg : Given w ao n cap p) (hb : n <= 1000000) :
 Calls Tryz.prog 22 #[.slice ao n cap] w (TakeNew (RecM.take p) w) := by
 have H := Own.St.start w
 have hn := hg.size
 have hv := hg.view
 obtain ⟨X, hX⟩ : ∃ X, X = RecM.take p := ⟨_, rfl⟩
 rw [<- hX]
 rw [take_parse] at hX
 have HX := Lib.hid hX
 obtain ⟨z, hz⟩ : ∃ z, z = ntC zeroN nilV := ⟨_, rfl⟩
 have HZ2 : Hid ((Tryz.prog.info? 54).bind (·.zero) = some (.agg z.toArray)) := by rw [hz]; exact zero_note
 have HZ0 : Hid (Tryz.prog.built 54 [] = some z.toArray) := by rw [hz]; exact built_note0
 have HZL : Hid (z.length = 37) := by show z.length = 37; rw [hz]; rfl
 have HZ := Lib.hid hz
 obtain ⟨b2, hb2⟩ : ∃ b, b = w.heap.size := ⟨_, rfl⟩
 obtain ⟨W1, hW1⟩ : ∃ W, W = w.alloc (.cells z.toArray 54) := ⟨_, rfl⟩
 have h1 : Own.St w.heap.size w W1 [AVals b2 54 z] := by rw [hb2, hW1]; exact H.boxV _ _
 have NR : Hid (Calls Tryz.prog 57 #[.slice ao n cap] W1 fun e w' => ∃ q, e = .returned (.pointer (some ⟨q, 0, none⟩)) /\ Own.St w.heap.size w w' (Cod.AR q ⟨p, 0⟩ :: [AVals b2 54 z])) := by
  have h := Cod.newReader_old h1 (ao := ao) (l := p) cap (hv.below h1.below) (by omega)
  rw [hn] at h
  exact h
 obtain ⟨x1, r1, hr1⟩ : ∃ x y, RS.num ⟨p, 0⟩ 1 = (x, y) := ⟨_, _, rfl⟩
 have HR1 := Lib.hid hr1
 have hl0 : (⟨p, 0⟩ : RS).l.length <= 1000000 := by show p.length <= _; omega
 have hl1 : r1.l.length <= 1000000 := by have := num_less ⟨p, 0⟩ 1; rw [hr1] at this; exact Nat.le_trans this hl0
 have HL0 : Hid (p.length <= 1000000000) := by show _ <= _; omega
 have HL1 : Hid (r1.l.length <= 1000000000) := by show _ <= _; omega
 have hx1 : x1 < 256 := by
  have := num_bound ⟨p, 0⟩ 1 (by decide)
  rw [show ((1 : Nat) : Int) = 1 from rfl, hr1] at this
  exact this
 obtain ⟨c, hcc⟩ : ∃ c : UInt8, x1 = c.toNat := ⟨UInt8.ofNat x1, by simp; omega⟩
 subst hcc
 obtain ⟨cs, hcs⟩ : ∃ cs, cs = ntC { zeroN with kind := c } nilV := ⟨_, rfl⟩
 have BE : Hid (Tryz.prog.built 54 [(0, .int .u8 (c.toNat : Int))] = some cs.toArray) := by rw [hcs]; exact built_note c.toNat
 have HCS := Lib.hid hcs
 have HB2 := Lib.hid hb2
 have HW1 := Lib.hid hW1
 have HSZ : Hid (zsum.length = 32) := by show _ = _; simp [zsum]
 clear hX hz hb2 hW1 h1 hr1 hcs H hv hl0
 go_enter Tryz.func22, Tryz.ntmps22
 go_wp2_with (refine Own.wpList_allocZ rfl 54 rfl z.toArray HZ2.out ?_; rw [<- HB2.out, <- HW1.out])
 refine NR.out.mono ?_
 clear NR
 rintro e w2 ⟨q, rfl, h2⟩
 have H2 := Lib.hid h2
 clear h2
 go_wp2_with (fail)
 refine (Cod.rnum_st H2.out 0 rfl 1 HR1.out HL0.out).mono ?_
 rintro e w3 ⟨rfl, h3⟩
 simp only [List.set_cons_zero] at h3
 obtain ⟨b5, hb5⟩ : ∃ b, b = w3.heap.size := ⟨_, rfl⟩
 obtain ⟨W4, hW4⟩ : ∃ W, W = w3.alloc (.cells z.toArray 54) := ⟨_, rfl⟩
 have h4 : Own.St w.heap.size w W4 (AVals b5 54 z :: Cod.AR q r1 :: AVals b2 54 z :: []) := by rw [hb5, hW4]; exact h3.boxV _ _
 have TH : Hid (W4.there b5 0 cs.toArray.size) := h4.thereV 0 rfl (by rw [List.size_toArray, HCS.out, HZL.out]; exact Nat.le_of_eq rfl)
 have hset := Own.St.setAll 0 cs 0 W4 _ z h4 rfl (by rw [HCS.out, HZL.out]; rfl)
 simp only [List.set_cons_zero, List.take_zero, List.nil_append] at hset
 obtain ⟨W5, hW5⟩ : ∃ W, W = W4.setCells b5 0 cs.toArray.toList := ⟨_, rfl⟩
 have H5 : Hid (Own.St w.heap.size w W5 (TR q r1 b5 { zeroN with kind := c } nilV b2 z [])) := by
  rw [hW5, List.toList_toArray]
  rw [HCS.out] at hset ⊢
  exact hset.swap2
 have IO : Hid ((Tryz.prog.info? 54).map (·.size) = some cs.toArray.size) := info_noteA cs (by rw [HCS.out]; rfl)
 have OO : Hid (cs.toArray.all (·.oneCell') = true) := by show _ = true; rw [HCS.out]; exact all_oneCell_toArray (ntC_one rfl)
 have HB5 := Lib.hid hb5
 have HW4 := Lib.hid hW4
 have HW5 := Lib.hid hW5
 clear h3 h4 hset hb5 hW4 hW5 H2
 by_cases hk : c.toNat = 1
 · skip
   have KK : Hid ((c.toNat : Int) = 1) := by show _ = _; omega
   have HC : Hid (c = 1) := UInt8.toNat_inj.1 (by rw [hk]; rfl)
   have HF : Hid (∀ w, Calls Tryz.prog 51 #[.int .u8 1] w fun e w' => e = .returned (.int .u8 15) /\ w = w') := fun w => fields_any 1 (by decide) w
   obtain ⟨ad, r2, hr2⟩ : ∃ x y, RS.num r1 4 = (x, y) := ⟨_, _, rfl⟩
   have bad : ad < 4294967296 := by
    have := num_bound r1 4 (by decide)
    rw [show ((4 : Nat) : Int) = 4 from rfl, hr2] at this
    exact this
   have hl2 : r2.l.length <= 1000000 := by have := num_less r1 4; rw [hr2] at this; exact Nat.le_trans this hl1
   obtain ⟨sq, r3, hr3⟩ : ∃ x y, RS.num r2 8 = (x, y) := ⟨_, _, rfl⟩
   have bsq : sq < 18446744073709551616 := by
    have := num_bound r2 8 (by decide)
    rw [show ((8 : Nat) : Int) = 8 from rfl, hr3] at this
    exact this
   have hl3 : r3.l.length <= 1000000 := by have := num_less r2 8; rw [hr3] at this; exact Nat.le_trans this hl2
   obtain ⟨xs, r4, hr4⟩ : ∃ x y, RS.raw r3 32 = (x, y) := ⟨_, _, rfl⟩
   obtain ⟨m, hmx⟩ : ∃ m, xs.length = m := ⟨_, rfl⟩
   have hm32 : m = 0 \/ m = 32 := by have := raw_size r3; rw [hr4] at this; rw [<- hmx]; exact this
   have HM32 := Lib.hid hm32
   have HMX := Lib.hid hmx
   have hl4 : r4.l.length <= 1000000 := by have := raw_less r3 32; rw [hr4] at this; exact Nat.le_trans this hl3
   obtain ⟨kn, r5, hr5⟩ : ∃ x y, RS.num r4 4 = (x, y) := ⟨_, _, rfl⟩
   have bkn : kn < 4294967296 := by
    have := num_bound r4 4 (by decide)
    rw [show ((4 : Nat) : Int) = 4 from rfl, hr5] at this
    exact this
   have hl5 : r5.l.length <= 1000000 := by have := num_less r4 4; rw [hr5] at this; exact Nat.le_trans this hl4
   obtain ⟨ys, r6, hr6⟩ : ∃ x y, RS.blob r5 300 = (x, y) := ⟨_, _, rfl⟩
   obtain ⟨l, hly⟩ : ∃ m, ys.length = m := ⟨_, rfl⟩
   have hl300 : l <= 300 := by have := blob_size r5; rw [hr6] at this; rw [<- hly]; exact this
   have HLY := Lib.hid hly
   have hl6 : r6.l.length <= 1000000 := by have := blob_less r5 300; rw [hr6] at this; exact Nat.le_trans this hl5
   have hp : parse p = (⟨1, ad, sq, pad xs, kn, ys⟩, r6) := by
    rw [parse_1 (by rw [HR1.out]; simp only; rw [HC.out]; rfl)]
    simp only [HR1.out, hr2, hr3, hr4, hr5, hr6]
   rw [<- HC.out] at hp
   have HP : Hid (X = if r6.fin = 0 /\ right ⟨c, ad, sq, pad xs, kn, ys⟩ = true then (⟨c, ad, sq, pad xs, kn, ys⟩, 0) else (zeroN, 100)) := by show X = _; rw [HX.out, hp]
   have HR2 := Lib.hid hr2
   have HL2 : Hid (r2.l.length <= 1000000000) := by show _ <= _; omega
   have HR3 := Lib.hid hr3
   have HL3 : Hid (r3.l.length <= 1000000000) := by show _ <= _; omega
   have HR4 := Lib.hid hr4
   have HL4 : Hid (r4.l.length <= 1000000000) := by show _ <= _; omega
   have HR5 := Lib.hid hr5
   have HL5 : Hid (r5.l.length <= 1000000000) := by show _ <= _; omega
   have HR6 := Lib.hid hr6
   have HL6 : Hid (r6.l.length <= 1000000000) := by show _ <= _; omega
   clear hp hr2 hr3 hm32 hmx hr4 hr5 hly hr6 hk hl1 hl2 hl3 hl4 hl5 hl6
   have d0 : W5.cell? ⟨b5, 0, none⟩ = some (.int .u8 1) := by
    have h := (H5.out.cellV 1 rfl 0 rfl).1
    rw [<- KK.out]
    exact h
   go_wp2_with (first
    | (refine Own.wpList_built rfl 54 #[(0, .tmp 11)] rfl cs.toArray ?_ ?_; · (simp only [List.map_toArray, List.map_cons, List.map_nil, List.toList_toArray]; exact BE.out))
    | (refine Own.wpList_allocZ rfl 54 rfl z.toArray HZ2.out ?_; rw [<- HB5.out, <- HW4.out])
    | (refine wpList_store_mid rfl 54 (.tmp 5) (.tmp 12) rfl b5 0 cs.toArray rfl rfl TH.out IO.out OO.out ?_; rw [<- HW5.out]))
   clear HB5 HW4 HW5 TH IO OO BE HCS
   refine (HF.out _).mono ?_
   clear d0
   rintro e wf ⟨rfl, rfl⟩
   go_wp2_with (fail)
   refine (Cod.rnum_st H5.out 0 rfl 4 HR2.out HL1.out).mono ?_
   rintro e w6 ⟨rfl, h6⟩
   simp only [List.set_cons_zero] at h6
   have HA6 : Hid (Own.St w.heap.size w w6 (TR q r2 b5 (⟨c, 0, 0, zsum, 0, []⟩ : Nte) nilV b2 z [])) := h6
   have qc := HA6.out.cellV 1 rfl 1 rfl
   have H6 : Hid (Own.St w.heap.size w (w6.setCell ⟨b5, 1, none⟩ (.int .u32 (ad : Int))) (TR q r2 b5 (⟨c, ad, 0, zsum, 0, []⟩ : Nte) nilV b2 z [])) := by
    have h := HA6.out.storeV 1 rfl 1 (.int .u32 (ad : Int))
    exact h
   clear h6 HA6 HR2 H5
   go_wp2_with (fail)
   clear qc
   refine (Cod.rnum_st H6.out 0 rfl 8 HR3.out HL2.out).mono ?_
   rintro e w7 ⟨rfl, h7⟩
   simp only [List.set_cons_zero] at h7
   have HA7 : Hid (Own.St w.heap.size w w7 (TR q r3 b5 (⟨c, ad, 0, zsum, 0, []⟩ : Nte) nilV b2 z [])) := h7
   have qc := HA7.out.cellV 1 rfl 2 rfl
   have H7 : Hid (Own.St w.heap.size w (w7.setCell ⟨b5, 2, none⟩ (.int .u64 (sq : Int))) (TR q r3 b5 (⟨c, ad, sq, zsum, 0, []⟩ : Nte) nilV b2 z [])) := by
    have h := HA7.out.storeV 1 rfl 2 (.int .u64 (sq : Int))
    exact h
   clear h7 HA7 HR3 H6
   go_wp2_with (fail)
   clear qc
   have HLc : Hid (3 + 32 <= (ntC (⟨c, ad, sq, zsum, 0, []⟩ : Nte) nilV).length) := by show _ <= _; rw [ntC_len _ _ HSZ.out]; decide
   go_region_law (first
    | (go_simp; go_at_call 59; refine (Cod.rraw_st (H7.out.drew) 0 rfl 32 HR4.out HMX.out HL3.out).mono ?_; rintro e w8 ⟨ax, cx, rfl, h8⟩; simp only [List.set_cons_zero] at h8; have HX8 := Lib.hid h8; have HV8 := Lib.hid (own_news h8 0 rfl); clear h8)
    | (refine step_vals_copy rfl (.tmp 34) (.tmp 36) rfl HX8.out 2 rfl 3 32 32 (by simp [Act.eval]) ax m cx xs (by simp [Act.eval]) HMX.out (by have := HM32.out; omega) HLc.out (fun h => (HV8.out.1 h).1) HV8.out.2 ?_; intro wx h; simp only [List.set_cons_zero, List.set_cons_succ] at h; rw [ntC_copy (⟨c, ad, sq, zsum, 0, []⟩ : Nte) nilV rfl xs m HMX.out HM32.out] at h; have h := h.drop 1; simp only [List.drop_succ_cons, List.drop_zero] at h; have HC8 : Hid (Own.St w.heap.size w wx (TR q r4 b5 (⟨c, ad, sq, pad xs, 0, []⟩ : Nte) nilV b2 z [])) := h; clear h))
   have HSP : Hid ((pad xs).length = 32) := by
    show _ = 32
    have h1 := HMX.out
    unfold pad
    rw [List.length_append, List.length_replicate]
    have := HM32.out
    omega
   clear HX8 HV8 HLc HR4 H7
   go_wp2_with (fail)
   refine (Cod.rnum_st HC8.out 0 rfl 4 HR5.out HL4.out).mono ?_
   rintro e w9 ⟨rfl, h9⟩
   simp only [List.set_cons_zero] at h9
   have HA9 : Hid (Own.St w.heap.size w w9 (TR q r5 b5 (⟨c, ad, sq, pad xs, 0, []⟩ : Nte) nilV b2 z [])) := h9
   have qc := HA9.out.cellV 1 rfl 35 (ntC_kn _ _ HSP.out)
   have H9 : Hid (Own.St w.heap.size w (w9.setCell ⟨b5, 35, none⟩ (.int .u32 (kn : Int))) (TR q r5 b5 (⟨c, ad, sq, pad xs, kn, []⟩ : Nte) nilV b2 z [])) := by
    have h := HA9.out.storeV 1 rfl 35 (.int .u32 (kn : Int))
    rw [ntC_setN _ _ HSP.out] at h
    exact h
   clear h9 HA9 HR5 HC8
   go_wp2_with (fail)
   clear qc
   refine (Cod.rblob_st H9.out 0 rfl 300 (by decide) HR6.out HLY.out HL5.out).mono ?_
   rintro e w10 ⟨ay, cy, rfl, h10⟩
   simp only [List.set_cons_zero] at h10
   have hq10 := h10.perm (List.perm_append_comm (l₁ := [Cod.AB ay l cy ys]) (l₂ := TR q r6 b5 (⟨c, ad, sq, pad xs, kn, []⟩ : Nte) nilV b2 z []))
   have HA10 : Hid (Own.St w.heap.size w w10 (TR q r6 b5 (⟨c, ad, sq, pad xs, kn, []⟩ : Nte) nilV b2 z [AB ay l cy ys])) := hq10
   have qc := HA10.out.cellV 1 rfl 36 (ntC_data _ _ HSP.out)
   have H10 : Hid (Own.St w.heap.size w (w10.setCell ⟨b5, 36, none⟩ (.slice ay l cy)) (TR q r6 b5 (⟨c, ad, sq, pad xs, kn, ys⟩ : Nte) (.slice ay l cy) b2 z [AB ay l cy ys])) := by
    have h := HA10.out.storeV 1 rfl 36 (.slice ay l cy)
    rw [ntC_setD _ _ _ HSP.out] at h
    exact h
   clear h10 hq10 HA10 HR6 H9
   go_wp2_with (fail)
   clear qc
   obtain ⟨fn, hfn⟩ : ∃ f, f = r6.fin := ⟨_, rfl⟩
   have CE := Cod.end_st H10.out 0 rfl
   rw [<- hfn] at CE
   refine CE.mono ?_
   clear CE
   rintro e w20 ⟨rfl, rfl⟩
   have HFN := Lib.hid hfn
   clear hfn
   obtain ⟨W20, hW20⟩ : ∃ W, W = (w10.setCell ⟨b5, 36, none⟩ (.slice ay l cy)) := ⟨_, rfl⟩
   have H20 := H10.out
   clear H10
   rw [<- hW20] at H20 ⊢
   have H20 := Lib.hid H20
   clear hW20
   by_cases hf : fn = 0
   · subst hf
     obtain ⟨c9, hc9⟩ : ∃ x, x = ntC (⟨c, ad, sq, pad xs, kn, ys⟩ : Nte) (.slice ay l cy) := ⟨_, rfl⟩
     have H21 : Hid (Own.St w.heap.size w W20 (Cod.AR q r6 :: AVals b5 54 c9 :: AVals b2 54 z :: [AB ay l cy ys])) := by rw [hc9]; exact H20.out
     have NL : Hid (c9.length = 37) := by show _ = 37; rw [hc9]; exact ntC_len _ _ HSP.out
     have RN : Hid (W20.rangeAt b5 0 c9) := fun j v hv => by rw [Nat.zero_add]; exact (H21.out.cellV 1 rfl j hv).1
     obtain ⟨rt, hrt⟩ : ∃ b, b = right (⟨c, ad, sq, pad xs, kn, ys⟩ : Nte) := ⟨_, rfl⟩
     have CR : Hid (Calls Tryz.prog 48 #[.agg c9.toArray] W20 fun e w' => e = .returned (.bool rt) /\ Below W20.heap.size W20 w') := by
      rw [hc9, hrt]
      exact lRight_any (⟨c, ad, sq, pad xs, kn, ys⟩ : Nte) HSP.out ay l cy HLY.out (by omega) W20
     have HRT := Lib.hid hrt
     have HC9 := Lib.hid hc9
     clear hc9 hrt H20
     go_wp2_with (refine wpList_val rfl (load_note c9 NL.out rfl _ (b := b5) (k := 0) RN.out rfl) ?_)
     refine CR.out.mono ?_
     clear CR
     rintro e w22 ⟨rfl, h22⟩
     have H22 := Lib.hid (H21.out.later h22)
     clear h22 H21 RN
     cases rt
     · have HE : Hid (X = (zeroN, 100)) := by show X = _; rw [HP.out, if_neg]; rintro ⟨_, h⟩; rw [<- HRT.out] at h; cases h
       have IOz : Hid ((Tryz.prog.info? 54).map (·.size) = some z.toArray.size) := info_noteA z HZL.out
       have OOz : Hid (z.toArray.all (·.oneCell') = true) := by show _ = true; rw [HZ.out]; exact all_oneCell_toArray (ntC_one rfl)
       have THz : Hid (w22.there b2 0 z.toArray.size) := H22.out.thereV 2 rfl (by simp)
       have hset := Own.St.setAll 2 z 0 w22 _ z H22.out rfl (by simp)
       obtain ⟨W30, hW30⟩ : ∃ W, W = w22.setCells b2 0 z.toArray.toList := ⟨_, rfl⟩
       have HW30 := Lib.hid hW30
       have e30 : W30 = w22.setCells b2 0 z := by rw [hW30, List.toList_toArray]
       rw [<- e30] at hset
       simp only [List.set_cons_zero, List.set_cons_succ, List.take_zero, List.nil_append] at hset
       have H30 := Lib.hid hset
       clear hset hW30 e30
       go_wp2_with (first
        | (refine Own.wpList_built rfl 54 #[] rfl z.toArray ?_ ?_; · (simp only [List.map_toArray, List.map_nil, List.toList_toArray]; exact HZ0.out))
        | (refine wpList_store_mid rfl 54 (.tmp 2) (.tmp 57) rfl b2 0 z.toArray rfl rfl THz.out IOz.out OOz.out ?_; rw [<- HW30.out]))
       refine bodyPost_ret (results_cell_two rfl _ _ b2 54 _ (0, 0) _ _ rfl rfl (H30.out.rowV 2 rfl) Tryz.underlying54 rfl (info_note z HZL.out)) rfl ?_
       exact takeNew_err HE.out H30.out.below HZ.out
     · have HE : Hid (X = ((⟨c, ad, sq, pad xs, kn, ys⟩ : Nte), 0)) := by show X = _; rw [HP.out, if_pos ⟨HFN.out.symm, HRT.out.symm⟩]
       have RN : Hid (w22.rangeAt b5 0 c9) := fun j v hv => by rw [Nat.zero_add]; exact (H22.out.cellV 1 rfl j hv).1
       have IO9 : Hid ((Tryz.prog.info? 54).map (·.size) = some c9.toArray.size) := info_noteA c9 NL.out
       have OO9 : Hid (c9.toArray.all (·.oneCell') = true) := by show _ = true; rw [HC9.out]; exact all_oneCell_toArray (ntC_one rfl)
       have TH9 : Hid (w22.there b2 0 c9.toArray.size) := H22.out.thereV 2 rfl (by rw [List.size_toArray, NL.out, HZL.out]; exact Nat.le_refl _)
       have hset := Own.St.setAll 2 c9 0 w22 _ z H22.out rfl (by rw [NL.out, HZL.out])
       simp only [List.set_cons_zero, List.set_cons_succ, List.take_zero, List.nil_append] at hset
       obtain ⟨W30, hW30⟩ : ∃ W, W = w22.setCells b2 0 c9.toArray.toList := ⟨_, rfl⟩
       have HW30 := Lib.hid hW30
       have H30 : Hid (Own.St w.heap.size w W30 (Cod.AR q r6 :: AVals b5 54 c9 :: AVals b2 54 c9 :: [AB ay l cy ys])) := by rw [hW30, List.toList_toArray]; exact hset
       clear hset hW30
       go_wp2_with (first
        | (refine wpList_val rfl (load_note c9 NL.out rfl _ (b := b5) (k := 0) RN.out rfl) ?_)
        | (refine wpList_store_mid rfl 54 (.tmp 2) (.tmp 58) rfl b2 0 c9.toArray rfl rfl TH9.out IO9.out OO9.out ?_; rw [<- HW30.out]))
       refine bodyPost_ret (results_cell_two rfl _ _ b2 54 _ (0, 0) _ _ rfl rfl (H30.out.rowV 2 rfl) Tryz.underlying54 rfl (info_note c9 NL.out)) rfl ?_
       exact takeNew_some HE.out rfl HLY.out H30.out 3 rfl HC9.out
   · have g : (fn != 0) = true := by simpa using hf
     have HE : Hid (X = (zeroN, 100)) := by show X = _; rw [HP.out, if_neg]; rintro ⟨h, _⟩; rw [<- HFN.out] at h; exact hf h
     have IOz : Hid ((Tryz.prog.info? 54).map (·.size) = some z.toArray.size) := info_noteA z HZL.out
     have OOz : Hid (z.toArray.all (·.oneCell') = true) := by show _ = true; rw [HZ.out]; exact all_oneCell_toArray (ntC_one rfl)
     have THz : Hid (W20.there b2 0 z.toArray.size) := H20.out.thereV 2 rfl (by simp)
     have hset := Own.St.setAll 2 z 0 W20 _ z H20.out rfl (by simp)
     obtain ⟨W30, hW30⟩ : ∃ W, W = W20.setCells b2 0 z.toArray.toList := ⟨_, rfl⟩
     have HW30 := Lib.hid hW30
     have e30 : W30 = W20.setCells b2 0 z := by rw [hW30, List.toList_toArray]
     rw [<- e30] at hset
     simp only [List.set_cons_zero, List.set_cons_succ, List.take_zero, List.nil_append] at hset
     have H30 := Lib.hid hset
     clear hset hW30 e30
     go_wp2_with (first
      | (refine Own.wpList_built rfl 54 #[] rfl z.toArray ?_ ?_; · (simp only [List.map_toArray, List.map_nil, List.toList_toArray]; exact HZ0.out))
      | (refine wpList_store_mid rfl 54 (.tmp 2) (.tmp 57) rfl b2 0 z.toArray rfl rfl THz.out IOz.out OOz.out ?_; rw [<- HW30.out]))
     refine bodyPost_ret (results_cell_two rfl _ _ b2 54 _ (0, 0) _ _ rfl rfl (H30.out.rowV 2 rfl) Tryz.underlying54 rfl (info_note z HZL.out)) rfl ?_
     exact takeNew_err HE.out H30.out.below HZ.out
 have hk1 := hk
 clear hk
 by_cases hk : c.toNat = 2
 · skip
   have KK : Hid ((c.toNat : Int) = 2) := by show _ = _; omega
   have HC : Hid (c = 2) := UInt8.toNat_inj.1 (by rw [hk]; rfl)
   have HF : Hid (∀ w, Calls Tryz.prog 51 #[.int .u8 2] w fun e w' => e = .returned (.int .u8 3) /\ w = w') := fun w => fields_any 2 (by decide) w
   obtain ⟨ad, r2, hr2⟩ : ∃ x y, RS.num r1 4 = (x, y) := ⟨_, _, rfl⟩
   have bad : ad < 4294967296 := by
    have := num_bound r1 4 (by decide)
    rw [show ((4 : Nat) : Int) = 4 from rfl, hr2] at this
    exact this
   have hl2 : r2.l.length <= 1000000 := by have := num_less r1 4; rw [hr2] at this; exact Nat.le_trans this hl1
   obtain ⟨sq, r3, hr3⟩ : ∃ x y, RS.num r2 8 = (x, y) := ⟨_, _, rfl⟩
   have bsq : sq < 18446744073709551616 := by
    have := num_bound r2 8 (by decide)
    rw [show ((8 : Nat) : Int) = 8 from rfl, hr3] at this
    exact this
   have hl3 : r3.l.length <= 1000000 := by have := num_less r2 8; rw [hr3] at this; exact Nat.le_trans this hl2
   have hp : parse p = (⟨2, ad, sq, zsum, 0, []⟩, r3) := by
    rw [parse_2 (by rw [HR1.out]; simp only; rw [HC.out]; rfl)]
    simp only [HR1.out, hr2, hr3]
   rw [<- HC.out] at hp
   have HP : Hid (X = if r3.fin = 0 /\ right ⟨c, ad, sq, zsum, 0, []⟩ = true then (⟨c, ad, sq, zsum, 0, []⟩, 0) else (zeroN, 100)) := by show X = _; rw [HX.out, hp]
   have HR2 := Lib.hid hr2
   have HL2 : Hid (r2.l.length <= 1000000000) := by show _ <= _; omega
   have HR3 := Lib.hid hr3
   have HL3 : Hid (r3.l.length <= 1000000000) := by show _ <= _; omega
   clear hp hr2 hr3 hk hl1 hl2 hl3
   have d0 : W5.cell? ⟨b5, 0, none⟩ = some (.int .u8 2) := by
    have h := (H5.out.cellV 1 rfl 0 rfl).1
    rw [<- KK.out]
    exact h
   go_wp2_with (first
    | (refine Own.wpList_built rfl 54 #[(0, .tmp 11)] rfl cs.toArray ?_ ?_; · (simp only [List.map_toArray, List.map_cons, List.map_nil, List.toList_toArray]; exact BE.out))
    | (refine Own.wpList_allocZ rfl 54 rfl z.toArray HZ2.out ?_; rw [<- HB5.out, <- HW4.out])
    | (refine wpList_store_mid rfl 54 (.tmp 5) (.tmp 12) rfl b5 0 cs.toArray rfl rfl TH.out IO.out OO.out ?_; rw [<- HW5.out]))
   clear HB5 HW4 HW5 TH IO OO BE HCS
   refine (HF.out _).mono ?_
   clear d0
   rintro e wf ⟨rfl, rfl⟩
   go_wp2_with (fail)
   refine (Cod.rnum_st H5.out 0 rfl 4 HR2.out HL1.out).mono ?_
   rintro e w6 ⟨rfl, h6⟩
   simp only [List.set_cons_zero] at h6
   have HA6 : Hid (Own.St w.heap.size w w6 (TR q r2 b5 (⟨c, 0, 0, zsum, 0, []⟩ : Nte) nilV b2 z [])) := h6
   have qc := HA6.out.cellV 1 rfl 1 rfl
   have H6 : Hid (Own.St w.heap.size w (w6.setCell ⟨b5, 1, none⟩ (.int .u32 (ad : Int))) (TR q r2 b5 (⟨c, ad, 0, zsum, 0, []⟩ : Nte) nilV b2 z [])) := by
    have h := HA6.out.storeV 1 rfl 1 (.int .u32 (ad : Int))
    exact h
   clear h6 HA6 HR2 H5
   go_wp2_with (fail)
   clear qc
   refine (Cod.rnum_st H6.out 0 rfl 8 HR3.out HL2.out).mono ?_
   rintro e w7 ⟨rfl, h7⟩
   simp only [List.set_cons_zero] at h7
   have HA7 : Hid (Own.St w.heap.size w w7 (TR q r3 b5 (⟨c, ad, 0, zsum, 0, []⟩ : Nte) nilV b2 z [])) := h7
   have qc := HA7.out.cellV 1 rfl 2 rfl
   have H7 : Hid (Own.St w.heap.size w (w7.setCell ⟨b5, 2, none⟩ (.int .u64 (sq : Int))) (TR q r3 b5 (⟨c, ad, sq, zsum, 0, []⟩ : Nte) nilV b2 z [])) := by
    have h := HA7.out.storeV 1 rfl 2 (.int .u64 (sq : Int))
    exact h
   clear h7 HA7 HR3 H6
   go_wp2_with (fail)
   clear qc
   obtain ⟨fn, hfn⟩ : ∃ f, f = r3.fin := ⟨_, rfl⟩
   have CE := Cod.end_st H7.out 0 rfl
   rw [<- hfn] at CE
   refine CE.mono ?_
   clear CE
   rintro e w20 ⟨rfl, rfl⟩
   have HFN := Lib.hid hfn
   clear hfn
   obtain ⟨W20, hW20⟩ : ∃ W, W = (w7.setCell ⟨b5, 2, none⟩ (.int .u64 (sq : Int))) := ⟨_, rfl⟩
   have H20 := H7.out
   clear H7
   rw [<- hW20] at H20 ⊢
   have H20 := Lib.hid H20
   clear hW20
   by_cases hf : fn = 0
   · subst hf
     obtain ⟨c9, hc9⟩ : ∃ x, x = ntC (⟨c, ad, sq, zsum, 0, []⟩ : Nte) nilV := ⟨_, rfl⟩
     have H21 : Hid (Own.St w.heap.size w W20 (Cod.AR q r3 :: AVals b5 54 c9 :: AVals b2 54 z :: [])) := by rw [hc9]; exact H20.out
     have NL : Hid (c9.length = 37) := by show _ = 37; rw [hc9]; exact ntC_len _ _ HSZ.out
     have RN : Hid (W20.rangeAt b5 0 c9) := fun j v hv => by rw [Nat.zero_add]; exact (H21.out.cellV 1 rfl j hv).1
     obtain ⟨rt, hrt⟩ : ∃ b, b = right (⟨c, ad, sq, zsum, 0, []⟩ : Nte) := ⟨_, rfl⟩
     have CR : Hid (Calls Tryz.prog 48 #[.agg c9.toArray] W20 fun e w' => e = .returned (.bool rt) /\ Below W20.heap.size W20 w') := by
      rw [hc9, hrt]
      exact lRight_any (⟨c, ad, sq, zsum, 0, []⟩ : Nte) HSZ.out none 0 0 rfl (by omega) W20
     have HRT := Lib.hid hrt
     have HC9 := Lib.hid hc9
     clear hc9 hrt H20
     go_wp2_with (refine wpList_val rfl (load_note c9 NL.out rfl _ (b := b5) (k := 0) RN.out rfl) ?_)
     refine CR.out.mono ?_
     clear CR
     rintro e w22 ⟨rfl, h22⟩
     have H22 := Lib.hid (H21.out.later h22)
     clear h22 H21 RN
     cases rt
     · have HE : Hid (X = (zeroN, 100)) := by show X = _; rw [HP.out, if_neg]; rintro ⟨_, h⟩; rw [<- HRT.out] at h; cases h
       have IOz : Hid ((Tryz.prog.info? 54).map (·.size) = some z.toArray.size) := info_noteA z HZL.out
       have OOz : Hid (z.toArray.all (·.oneCell') = true) := by show _ = true; rw [HZ.out]; exact all_oneCell_toArray (ntC_one rfl)
       have THz : Hid (w22.there b2 0 z.toArray.size) := H22.out.thereV 2 rfl (by simp)
       have hset := Own.St.setAll 2 z 0 w22 _ z H22.out rfl (by simp)
       obtain ⟨W30, hW30⟩ : ∃ W, W = w22.setCells b2 0 z.toArray.toList := ⟨_, rfl⟩
       have HW30 := Lib.hid hW30
       have e30 : W30 = w22.setCells b2 0 z := by rw [hW30, List.toList_toArray]
       rw [<- e30] at hset
       simp only [List.set_cons_zero, List.set_cons_succ, List.take_zero, List.nil_append] at hset
       have H30 := Lib.hid hset
       clear hset hW30 e30
       go_wp2_with (first
        | (refine Own.wpList_built rfl 54 #[] rfl z.toArray ?_ ?_; · (simp only [List.map_toArray, List.map_nil, List.toList_toArray]; exact HZ0.out))
        | (refine wpList_store_mid rfl 54 (.tmp 2) (.tmp 57) rfl b2 0 z.toArray rfl rfl THz.out IOz.out OOz.out ?_; rw [<- HW30.out]))
       refine bodyPost_ret (results_cell_two rfl _ _ b2 54 _ (0, 0) _ _ rfl rfl (H30.out.rowV 2 rfl) Tryz.underlying54 rfl (info_note z HZL.out)) rfl ?_
       exact takeNew_err HE.out H30.out.below HZ.out
     · have HE : Hid (X = ((⟨c, ad, sq, zsum, 0, []⟩ : Nte), 0)) := by show X = _; rw [HP.out, if_pos ⟨HFN.out.symm, HRT.out.symm⟩]
       have RN : Hid (w22.rangeAt b5 0 c9) := fun j v hv => by rw [Nat.zero_add]; exact (H22.out.cellV 1 rfl j hv).1
       have IO9 : Hid ((Tryz.prog.info? 54).map (·.size) = some c9.toArray.size) := info_noteA c9 NL.out
       have OO9 : Hid (c9.toArray.all (·.oneCell') = true) := by show _ = true; rw [HC9.out]; exact all_oneCell_toArray (ntC_one rfl)
       have TH9 : Hid (w22.there b2 0 c9.toArray.size) := H22.out.thereV 2 rfl (by rw [List.size_toArray, NL.out, HZL.out]; exact Nat.le_refl _)
       have hset := Own.St.setAll 2 c9 0 w22 _ z H22.out rfl (by rw [NL.out, HZL.out])
       simp only [List.set_cons_zero, List.set_cons_succ, List.take_zero, List.nil_append] at hset
       obtain ⟨W30, hW30⟩ : ∃ W, W = w22.setCells b2 0 c9.toArray.toList := ⟨_, rfl⟩
       have HW30 := Lib.hid hW30
       have H30 : Hid (Own.St w.heap.size w W30 (Cod.AR q r3 :: AVals b5 54 c9 :: AVals b2 54 c9 :: [])) := by rw [hW30, List.toList_toArray]; exact hset
       clear hset hW30
       go_wp2_with (first
        | (refine wpList_val rfl (load_note c9 NL.out rfl _ (b := b5) (k := 0) RN.out rfl) ?_)
        | (refine wpList_store_mid rfl 54 (.tmp 2) (.tmp 58) rfl b2 0 c9.toArray rfl rfl TH9.out IO9.out OO9.out ?_; rw [<- HW30.out]))
       refine bodyPost_ret (results_cell_two rfl _ _ b2 54 _ (0, 0) _ _ rfl rfl (H30.out.rowV 2 rfl) Tryz.underlying54 rfl (info_note c9 NL.out)) rfl ?_
       exact takeNew_none HE.out rfl H30.out.below HC9.out
   · have g : (fn != 0) = true := by simpa using hf
     have HE : Hid (X = (zeroN, 100)) := by show X = _; rw [HP.out, if_neg]; rintro ⟨h, _⟩; rw [<- HFN.out] at h; exact hf h
     have IOz : Hid ((Tryz.prog.info? 54).map (·.size) = some z.toArray.size) := info_noteA z HZL.out
     have OOz : Hid (z.toArray.all (·.oneCell') = true) := by show _ = true; rw [HZ.out]; exact all_oneCell_toArray (ntC_one rfl)
     have THz : Hid (W20.there b2 0 z.toArray.size) := H20.out.thereV 2 rfl (by simp)
     have hset := Own.St.setAll 2 z 0 W20 _ z H20.out rfl (by simp)
     obtain ⟨W30, hW30⟩ : ∃ W, W = W20.setCells b2 0 z.toArray.toList := ⟨_, rfl⟩
     have HW30 := Lib.hid hW30
     have e30 : W30 = W20.setCells b2 0 z := by rw [hW30, List.toList_toArray]
     rw [<- e30] at hset
     simp only [List.set_cons_zero, List.set_cons_succ, List.take_zero, List.nil_append] at hset
     have H30 := Lib.hid hset
     clear hset hW30 e30
     go_wp2_with (first
      | (refine Own.wpList_built rfl 54 #[] rfl z.toArray ?_ ?_; · (simp only [List.map_toArray, List.map_nil, List.toList_toArray]; exact HZ0.out))
      | (refine wpList_store_mid rfl 54 (.tmp 2) (.tmp 57) rfl b2 0 z.toArray rfl rfl THz.out IOz.out OOz.out ?_; rw [<- HW30.out]))
     refine bodyPost_ret (results_cell_two rfl _ _ b2 54 _ (0, 0) _ _ rfl rfl (H30.out.rowV 2 rfl) Tryz.underlying54 rfl (info_note z HZL.out)) rfl ?_
     exact takeNew_err HE.out H30.out.below HZ.out
 have hk2 := hk
 clear hk
 by_cases hk : c.toNat = 3
 · skip
   have KK : Hid ((c.toNat : Int) = 3) := by show _ = _; omega
   have HC : Hid (c = 3) := UInt8.toNat_inj.1 (by rw [hk]; rfl)
   have HF : Hid (∀ w, Calls Tryz.prog 51 #[.int .u8 3] w fun e w' => e = .returned (.int .u8 2) /\ w = w') := fun w => fields_any 3 (by decide) w
   obtain ⟨sq, r2, hr2⟩ : ∃ x y, RS.num r1 8 = (x, y) := ⟨_, _, rfl⟩
   have bsq : sq < 18446744073709551616 := by
    have := num_bound r1 8 (by decide)
    rw [show ((8 : Nat) : Int) = 8 from rfl, hr2] at this
    exact this
   have hl2 : r2.l.length <= 1000000 := by have := num_less r1 8; rw [hr2] at this; exact Nat.le_trans this hl1
   have hp : parse p = (⟨3, 0, sq, zsum, 0, []⟩, r2) := by
    rw [parse_3 (by rw [HR1.out]; simp only; rw [HC.out]; rfl)]
    simp only [HR1.out, hr2]
   rw [<- HC.out] at hp
   have HP : Hid (X = if r2.fin = 0 /\ right ⟨c, 0, sq, zsum, 0, []⟩ = true then (⟨c, 0, sq, zsum, 0, []⟩, 0) else (zeroN, 100)) := by show X = _; rw [HX.out, hp]
   have HR2 := Lib.hid hr2
   have HL2 : Hid (r2.l.length <= 1000000000) := by show _ <= _; omega
   clear hp hr2 hk hl1 hl2
   have d0 : W5.cell? ⟨b5, 0, none⟩ = some (.int .u8 3) := by
    have h := (H5.out.cellV 1 rfl 0 rfl).1
    rw [<- KK.out]
    exact h
   go_wp2_with (first
    | (refine Own.wpList_built rfl 54 #[(0, .tmp 11)] rfl cs.toArray ?_ ?_; · (simp only [List.map_toArray, List.map_cons, List.map_nil, List.toList_toArray]; exact BE.out))
    | (refine Own.wpList_allocZ rfl 54 rfl z.toArray HZ2.out ?_; rw [<- HB5.out, <- HW4.out])
    | (refine wpList_store_mid rfl 54 (.tmp 5) (.tmp 12) rfl b5 0 cs.toArray rfl rfl TH.out IO.out OO.out ?_; rw [<- HW5.out]))
   clear HB5 HW4 HW5 TH IO OO BE HCS
   refine (HF.out _).mono ?_
   clear d0
   rintro e wf ⟨rfl, rfl⟩
   go_wp2_with (fail)
   refine (Cod.rnum_st H5.out 0 rfl 8 HR2.out HL1.out).mono ?_
   rintro e w6 ⟨rfl, h6⟩
   simp only [List.set_cons_zero] at h6
   have HA6 : Hid (Own.St w.heap.size w w6 (TR q r2 b5 (⟨c, 0, 0, zsum, 0, []⟩ : Nte) nilV b2 z [])) := h6
   have qc := HA6.out.cellV 1 rfl 2 rfl
   have H6 : Hid (Own.St w.heap.size w (w6.setCell ⟨b5, 2, none⟩ (.int .u64 (sq : Int))) (TR q r2 b5 (⟨c, 0, sq, zsum, 0, []⟩ : Nte) nilV b2 z [])) := by
    have h := HA6.out.storeV 1 rfl 2 (.int .u64 (sq : Int))
    exact h
   clear h6 HA6 HR2 H5
   go_wp2_with (fail)
   clear qc
   obtain ⟨fn, hfn⟩ : ∃ f, f = r2.fin := ⟨_, rfl⟩
   have CE := Cod.end_st H6.out 0 rfl
   rw [<- hfn] at CE
   refine CE.mono ?_
   clear CE
   rintro e w20 ⟨rfl, rfl⟩
   have HFN := Lib.hid hfn
   clear hfn
   obtain ⟨W20, hW20⟩ : ∃ W, W = (w6.setCell ⟨b5, 2, none⟩ (.int .u64 (sq : Int))) := ⟨_, rfl⟩
   have H20 := H6.out
   clear H6
   rw [<- hW20] at H20 ⊢
   have H20 := Lib.hid H20
   clear hW20
   by_cases hf : fn = 0
   · subst hf
     obtain ⟨c9, hc9⟩ : ∃ x, x = ntC (⟨c, 0, sq, zsum, 0, []⟩ : Nte) nilV := ⟨_, rfl⟩
     have H21 : Hid (Own.St w.heap.size w W20 (Cod.AR q r2 :: AVals b5 54 c9 :: AVals b2 54 z :: [])) := by rw [hc9]; exact H20.out
     have NL : Hid (c9.length = 37) := by show _ = 37; rw [hc9]; exact ntC_len _ _ HSZ.out
     have RN : Hid (W20.rangeAt b5 0 c9) := fun j v hv => by rw [Nat.zero_add]; exact (H21.out.cellV 1 rfl j hv).1
     obtain ⟨rt, hrt⟩ : ∃ b, b = right (⟨c, 0, sq, zsum, 0, []⟩ : Nte) := ⟨_, rfl⟩
     have CR : Hid (Calls Tryz.prog 48 #[.agg c9.toArray] W20 fun e w' => e = .returned (.bool rt) /\ Below W20.heap.size W20 w') := by
      rw [hc9, hrt]
      exact lRight_any (⟨c, 0, sq, zsum, 0, []⟩ : Nte) HSZ.out none 0 0 rfl (by omega) W20
     have HRT := Lib.hid hrt
     have HC9 := Lib.hid hc9
     clear hc9 hrt H20
     go_wp2_with (refine wpList_val rfl (load_note c9 NL.out rfl _ (b := b5) (k := 0) RN.out rfl) ?_)
     refine CR.out.mono ?_
     clear CR
     rintro e w22 ⟨rfl, h22⟩
     have H22 := Lib.hid (H21.out.later h22)
     clear h22 H21 RN
     cases rt
     · have HE : Hid (X = (zeroN, 100)) := by show X = _; rw [HP.out, if_neg]; rintro ⟨_, h⟩; rw [<- HRT.out] at h; cases h
       have IOz : Hid ((Tryz.prog.info? 54).map (·.size) = some z.toArray.size) := info_noteA z HZL.out
       have OOz : Hid (z.toArray.all (·.oneCell') = true) := by show _ = true; rw [HZ.out]; exact all_oneCell_toArray (ntC_one rfl)
       have THz : Hid (w22.there b2 0 z.toArray.size) := H22.out.thereV 2 rfl (by simp)
       have hset := Own.St.setAll 2 z 0 w22 _ z H22.out rfl (by simp)
       obtain ⟨W30, hW30⟩ : ∃ W, W = w22.setCells b2 0 z.toArray.toList := ⟨_, rfl⟩
       have HW30 := Lib.hid hW30
       have e30 : W30 = w22.setCells b2 0 z := by rw [hW30, List.toList_toArray]
       rw [<- e30] at hset
       simp only [List.set_cons_zero, List.set_cons_succ, List.take_zero, List.nil_append] at hset
       have H30 := Lib.hid hset
       clear hset hW30 e30
       go_wp2_with (first
        | (refine Own.wpList_built rfl 54 #[] rfl z.toArray ?_ ?_; · (simp only [List.map_toArray, List.map_nil, List.toList_toArray]; exact HZ0.out))
        | (refine wpList_store_mid rfl 54 (.tmp 2) (.tmp 57) rfl b2 0 z.toArray rfl rfl THz.out IOz.out OOz.out ?_; rw [<- HW30.out]))
       refine bodyPost_ret (results_cell_two rfl _ _ b2 54 _ (0, 0) _ _ rfl rfl (H30.out.rowV 2 rfl) Tryz.underlying54 rfl (info_note z HZL.out)) rfl ?_
       exact takeNew_err HE.out H30.out.below HZ.out
     · have HE : Hid (X = ((⟨c, 0, sq, zsum, 0, []⟩ : Nte), 0)) := by show X = _; rw [HP.out, if_pos ⟨HFN.out.symm, HRT.out.symm⟩]
       have RN : Hid (w22.rangeAt b5 0 c9) := fun j v hv => by rw [Nat.zero_add]; exact (H22.out.cellV 1 rfl j hv).1
       have IO9 : Hid ((Tryz.prog.info? 54).map (·.size) = some c9.toArray.size) := info_noteA c9 NL.out
       have OO9 : Hid (c9.toArray.all (·.oneCell') = true) := by show _ = true; rw [HC9.out]; exact all_oneCell_toArray (ntC_one rfl)
       have TH9 : Hid (w22.there b2 0 c9.toArray.size) := H22.out.thereV 2 rfl (by rw [List.size_toArray, NL.out, HZL.out]; exact Nat.le_refl _)
       have hset := Own.St.setAll 2 c9 0 w22 _ z H22.out rfl (by rw [NL.out, HZL.out])
       simp only [List.set_cons_zero, List.set_cons_succ, List.take_zero, List.nil_append] at hset
       obtain ⟨W30, hW30⟩ : ∃ W, W = w22.setCells b2 0 c9.toArray.toList := ⟨_, rfl⟩
       have HW30 := Lib.hid hW30
       have H30 : Hid (Own.St w.heap.size w W30 (Cod.AR q r2 :: AVals b5 54 c9 :: AVals b2 54 c9 :: [])) := by rw [hW30, List.toList_toArray]; exact hset
       clear hset hW30
       go_wp2_with (first
        | (refine wpList_val rfl (load_note c9 NL.out rfl _ (b := b5) (k := 0) RN.out rfl) ?_)
        | (refine wpList_store_mid rfl 54 (.tmp 2) (.tmp 58) rfl b2 0 c9.toArray rfl rfl TH9.out IO9.out OO9.out ?_; rw [<- HW30.out]))
       refine bodyPost_ret (results_cell_two rfl _ _ b2 54 _ (0, 0) _ _ rfl rfl (H30.out.rowV 2 rfl) Tryz.underlying54 rfl (info_note c9 NL.out)) rfl ?_
       exact takeNew_none HE.out rfl H30.out.below HC9.out
   · have g : (fn != 0) = true := by simpa using hf
     have HE : Hid (X = (zeroN, 100)) := by show X = _; rw [HP.out, if_neg]; rintro ⟨h, _⟩; rw [<- HFN.out] at h; exact hf h
     have IOz : Hid ((Tryz.prog.info? 54).map (·.size) = some z.toArray.size) := info_noteA z HZL.out
     have OOz : Hid (z.toArray.all (·.oneCell') = true) := by show _ = true; rw [HZ.out]; exact all_oneCell_toArray (ntC_one rfl)
     have THz : Hid (W20.there b2 0 z.toArray.size) := H20.out.thereV 2 rfl (by simp)
     have hset := Own.St.setAll 2 z 0 W20 _ z H20.out rfl (by simp)
     obtain ⟨W30, hW30⟩ : ∃ W, W = W20.setCells b2 0 z.toArray.toList := ⟨_, rfl⟩
     have HW30 := Lib.hid hW30
     have e30 : W30 = W20.setCells b2 0 z := by rw [hW30, List.toList_toArray]
     rw [<- e30] at hset
     simp only [List.set_cons_zero, List.set_cons_succ, List.take_zero, List.nil_append] at hset
     have H30 := Lib.hid hset
     clear hset hW30 e30
     go_wp2_with (first
      | (refine Own.wpList_built rfl 54 #[] rfl z.toArray ?_ ?_; · (simp only [List.map_toArray, List.map_nil, List.toList_toArray]; exact HZ0.out))
      | (refine wpList_store_mid rfl 54 (.tmp 2) (.tmp 57) rfl b2 0 z.toArray rfl rfl THz.out IOz.out OOz.out ?_; rw [<- HW30.out]))
     refine bodyPost_ret (results_cell_two rfl _ _ b2 54 _ (0, 0) _ _ rfl rfl (H30.out.rowV 2 rfl) Tryz.underlying54 rfl (info_note z HZL.out)) rfl ?_
     exact takeNew_err HE.out H30.out.below HZ.out
 have hk3 := hk
 clear hk
 by_cases hk : c.toNat = 4
 · skip
   have KK : Hid ((c.toNat : Int) = 4) := by show _ = _; omega
   have HC : Hid (c = 4) := UInt8.toNat_inj.1 (by rw [hk]; rfl)
   have HF : Hid (∀ w, Calls Tryz.prog 51 #[.int .u8 4] w fun e w' => e = .returned (.int .u8 12) /\ w = w') := fun w => fields_any 4 (by decide) w
   obtain ⟨xs, r2, hr2⟩ : ∃ x y, RS.raw r1 32 = (x, y) := ⟨_, _, rfl⟩
   obtain ⟨m, hmx⟩ : ∃ m, xs.length = m := ⟨_, rfl⟩
   have hm32 : m = 0 \/ m = 32 := by have := raw_size r1; rw [hr2] at this; rw [<- hmx]; exact this
   have HM32 := Lib.hid hm32
   have HMX := Lib.hid hmx
   have hl2 : r2.l.length <= 1000000 := by have := raw_less r1 32; rw [hr2] at this; exact Nat.le_trans this hl1
   obtain ⟨kn, r3, hr3⟩ : ∃ x y, RS.num r2 4 = (x, y) := ⟨_, _, rfl⟩
   have bkn : kn < 4294967296 := by
    have := num_bound r2 4 (by decide)
    rw [show ((4 : Nat) : Int) = 4 from rfl, hr3] at this
    exact this
   have hl3 : r3.l.length <= 1000000 := by have := num_less r2 4; rw [hr3] at this; exact Nat.le_trans this hl2
   obtain ⟨ys, r4, hr4⟩ : ∃ x y, RS.blob r3 300 = (x, y) := ⟨_, _, rfl⟩
   obtain ⟨l, hly⟩ : ∃ m, ys.length = m := ⟨_, rfl⟩
   have hl300 : l <= 300 := by have := blob_size r3; rw [hr4] at this; rw [<- hly]; exact this
   have HLY := Lib.hid hly
   have hl4 : r4.l.length <= 1000000 := by have := blob_less r3 300; rw [hr4] at this; exact Nat.le_trans this hl3
   have hp : parse p = (⟨4, 0, 0, pad xs, kn, ys⟩, r4) := by
    rw [parse_4 (by rw [HR1.out]; simp only; rw [HC.out]; rfl)]
    simp only [HR1.out, hr2, hr3, hr4]
   rw [<- HC.out] at hp
   have HP : Hid (X = if r4.fin = 0 /\ right ⟨c, 0, 0, pad xs, kn, ys⟩ = true then (⟨c, 0, 0, pad xs, kn, ys⟩, 0) else (zeroN, 100)) := by show X = _; rw [HX.out, hp]
   have HR2 := Lib.hid hr2
   have HL2 : Hid (r2.l.length <= 1000000000) := by show _ <= _; omega
   have HR3 := Lib.hid hr3
   have HL3 : Hid (r3.l.length <= 1000000000) := by show _ <= _; omega
   have HR4 := Lib.hid hr4
   have HL4 : Hid (r4.l.length <= 1000000000) := by show _ <= _; omega
   clear hp hm32 hmx hr2 hr3 hly hr4 hk hl1 hl2 hl3 hl4
   have d0 : W5.cell? ⟨b5, 0, none⟩ = some (.int .u8 4) := by
    have h := (H5.out.cellV 1 rfl 0 rfl).1
    rw [<- KK.out]
    exact h
   go_wp2_with (first
    | (refine Own.wpList_built rfl 54 #[(0, .tmp 11)] rfl cs.toArray ?_ ?_; · (simp only [List.map_toArray, List.map_cons, List.map_nil, List.toList_toArray]; exact BE.out))
    | (refine Own.wpList_allocZ rfl 54 rfl z.toArray HZ2.out ?_; rw [<- HB5.out, <- HW4.out])
    | (refine wpList_store_mid rfl 54 (.tmp 5) (.tmp 12) rfl b5 0 cs.toArray rfl rfl TH.out IO.out OO.out ?_; rw [<- HW5.out]))
   clear HB5 HW4 HW5 TH IO OO BE HCS
   refine (HF.out _).mono ?_
   clear d0
   rintro e wf ⟨rfl, rfl⟩
   go_wp2_with (fail)
   have H5b : Hid (Own.St w.heap.size w W5 (TR q r1 b5 (⟨c, 0, 0, zsum, 0, []⟩ : Nte) nilV b2 z [])) := H5.out
   clear H5
   have HLc : Hid (3 + 32 <= (ntC (⟨c, 0, 0, zsum, 0, []⟩ : Nte) nilV).length) := by show _ <= _; rw [ntC_len _ _ HSZ.out]; decide
   go_region_law (first
    | (go_simp; go_at_call 59; refine (Cod.rraw_st (H5b.out.drew) 0 rfl 32 HR2.out HMX.out HL1.out).mono ?_; rintro e w6 ⟨ax, cx, rfl, h6⟩; simp only [List.set_cons_zero] at h6; have HX6 := Lib.hid h6; have HV6 := Lib.hid (own_news h6 0 rfl); clear h6)
    | (refine step_vals_copy rfl (.tmp 34) (.tmp 36) rfl HX6.out 2 rfl 3 32 32 (by simp [Act.eval]) ax m cx xs (by simp [Act.eval]) HMX.out (by have := HM32.out; omega) HLc.out (fun h => (HV6.out.1 h).1) HV6.out.2 ?_; intro wx h; simp only [List.set_cons_zero, List.set_cons_succ] at h; rw [ntC_copy (⟨c, 0, 0, zsum, 0, []⟩ : Nte) nilV rfl xs m HMX.out HM32.out] at h; have h := h.drop 1; simp only [List.drop_succ_cons, List.drop_zero] at h; have HC6 : Hid (Own.St w.heap.size w wx (TR q r2 b5 (⟨c, 0, 0, pad xs, 0, []⟩ : Nte) nilV b2 z [])) := h; clear h))
   have HSP : Hid ((pad xs).length = 32) := by
    show _ = 32
    have h1 := HMX.out
    unfold pad
    rw [List.length_append, List.length_replicate]
    have := HM32.out
    omega
   clear HX6 HV6 HLc HR2 H5b
   go_wp2_with (fail)
   refine (Cod.rnum_st HC6.out 0 rfl 4 HR3.out HL2.out).mono ?_
   rintro e w7 ⟨rfl, h7⟩
   simp only [List.set_cons_zero] at h7
   have HA7 : Hid (Own.St w.heap.size w w7 (TR q r3 b5 (⟨c, 0, 0, pad xs, 0, []⟩ : Nte) nilV b2 z [])) := h7
   have qc := HA7.out.cellV 1 rfl 35 (ntC_kn _ _ HSP.out)
   have H7 : Hid (Own.St w.heap.size w (w7.setCell ⟨b5, 35, none⟩ (.int .u32 (kn : Int))) (TR q r3 b5 (⟨c, 0, 0, pad xs, kn, []⟩ : Nte) nilV b2 z [])) := by
    have h := HA7.out.storeV 1 rfl 35 (.int .u32 (kn : Int))
    rw [ntC_setN _ _ HSP.out] at h
    exact h
   clear h7 HA7 HR3 HC6
   go_wp2_with (fail)
   clear qc
   refine (Cod.rblob_st H7.out 0 rfl 300 (by decide) HR4.out HLY.out HL3.out).mono ?_
   rintro e w8 ⟨ay, cy, rfl, h8⟩
   simp only [List.set_cons_zero] at h8
   have hq8 := h8.perm (List.perm_append_comm (l₁ := [Cod.AB ay l cy ys]) (l₂ := TR q r4 b5 (⟨c, 0, 0, pad xs, kn, []⟩ : Nte) nilV b2 z []))
   have HA8 : Hid (Own.St w.heap.size w w8 (TR q r4 b5 (⟨c, 0, 0, pad xs, kn, []⟩ : Nte) nilV b2 z [AB ay l cy ys])) := hq8
   have qc := HA8.out.cellV 1 rfl 36 (ntC_data _ _ HSP.out)
   have H8 : Hid (Own.St w.heap.size w (w8.setCell ⟨b5, 36, none⟩ (.slice ay l cy)) (TR q r4 b5 (⟨c, 0, 0, pad xs, kn, ys⟩ : Nte) (.slice ay l cy) b2 z [AB ay l cy ys])) := by
    have h := HA8.out.storeV 1 rfl 36 (.slice ay l cy)
    rw [ntC_setD _ _ _ HSP.out] at h
    exact h
   clear h8 hq8 HA8 HR4 H7
   go_wp2_with (fail)
   clear qc
   obtain ⟨fn, hfn⟩ : ∃ f, f = r4.fin := ⟨_, rfl⟩
   have CE := Cod.end_st H8.out 0 rfl
   rw [<- hfn] at CE
   refine CE.mono ?_
   clear CE
   rintro e w20 ⟨rfl, rfl⟩
   have HFN := Lib.hid hfn
   clear hfn
   obtain ⟨W20, hW20⟩ : ∃ W, W = (w8.setCell ⟨b5, 36, none⟩ (.slice ay l cy)) := ⟨_, rfl⟩
   have H20 := H8.out
   clear H8
   rw [<- hW20] at H20 ⊢
   have H20 := Lib.hid H20
   clear hW20
   by_cases hf : fn = 0
   · subst hf
     obtain ⟨c9, hc9⟩ : ∃ x, x = ntC (⟨c, 0, 0, pad xs, kn, ys⟩ : Nte) (.slice ay l cy) := ⟨_, rfl⟩
     have H21 : Hid (Own.St w.heap.size w W20 (Cod.AR q r4 :: AVals b5 54 c9 :: AVals b2 54 z :: [AB ay l cy ys])) := by rw [hc9]; exact H20.out
     have NL : Hid (c9.length = 37) := by show _ = 37; rw [hc9]; exact ntC_len _ _ HSP.out
     have RN : Hid (W20.rangeAt b5 0 c9) := fun j v hv => by rw [Nat.zero_add]; exact (H21.out.cellV 1 rfl j hv).1
     obtain ⟨rt, hrt⟩ : ∃ b, b = right (⟨c, 0, 0, pad xs, kn, ys⟩ : Nte) := ⟨_, rfl⟩
     have CR : Hid (Calls Tryz.prog 48 #[.agg c9.toArray] W20 fun e w' => e = .returned (.bool rt) /\ Below W20.heap.size W20 w') := by
      rw [hc9, hrt]
      exact lRight_any (⟨c, 0, 0, pad xs, kn, ys⟩ : Nte) HSP.out ay l cy HLY.out (by omega) W20
     have HRT := Lib.hid hrt
     have HC9 := Lib.hid hc9
     clear hc9 hrt H20
     go_wp2_with (refine wpList_val rfl (load_note c9 NL.out rfl _ (b := b5) (k := 0) RN.out rfl) ?_)
     refine CR.out.mono ?_
     clear CR
     rintro e w22 ⟨rfl, h22⟩
     have H22 := Lib.hid (H21.out.later h22)
     clear h22 H21 RN
     cases rt
     · have HE : Hid (X = (zeroN, 100)) := by show X = _; rw [HP.out, if_neg]; rintro ⟨_, h⟩; rw [<- HRT.out] at h; cases h
       have IOz : Hid ((Tryz.prog.info? 54).map (·.size) = some z.toArray.size) := info_noteA z HZL.out
       have OOz : Hid (z.toArray.all (·.oneCell') = true) := by show _ = true; rw [HZ.out]; exact all_oneCell_toArray (ntC_one rfl)
       have THz : Hid (w22.there b2 0 z.toArray.size) := H22.out.thereV 2 rfl (by simp)
       have hset := Own.St.setAll 2 z 0 w22 _ z H22.out rfl (by simp)
       obtain ⟨W30, hW30⟩ : ∃ W, W = w22.setCells b2 0 z.toArray.toList := ⟨_, rfl⟩
       have HW30 := Lib.hid hW30
       have e30 : W30 = w22.setCells b2 0 z := by rw [hW30, List.toList_toArray]
       rw [<- e30] at hset
       simp only [List.set_cons_zero, List.set_cons_succ, List.take_zero, List.nil_append] at hset
       have H30 := Lib.hid hset
       clear hset hW30 e30
       go_wp2_with (first
        | (refine Own.wpList_built rfl 54 #[] rfl z.toArray ?_ ?_; · (simp only [List.map_toArray, List.map_nil, List.toList_toArray]; exact HZ0.out))
        | (refine wpList_store_mid rfl 54 (.tmp 2) (.tmp 57) rfl b2 0 z.toArray rfl rfl THz.out IOz.out OOz.out ?_; rw [<- HW30.out]))
       refine bodyPost_ret (results_cell_two rfl _ _ b2 54 _ (0, 0) _ _ rfl rfl (H30.out.rowV 2 rfl) Tryz.underlying54 rfl (info_note z HZL.out)) rfl ?_
       exact takeNew_err HE.out H30.out.below HZ.out
     · have HE : Hid (X = ((⟨c, 0, 0, pad xs, kn, ys⟩ : Nte), 0)) := by show X = _; rw [HP.out, if_pos ⟨HFN.out.symm, HRT.out.symm⟩]
       have RN : Hid (w22.rangeAt b5 0 c9) := fun j v hv => by rw [Nat.zero_add]; exact (H22.out.cellV 1 rfl j hv).1
       have IO9 : Hid ((Tryz.prog.info? 54).map (·.size) = some c9.toArray.size) := info_noteA c9 NL.out
       have OO9 : Hid (c9.toArray.all (·.oneCell') = true) := by show _ = true; rw [HC9.out]; exact all_oneCell_toArray (ntC_one rfl)
       have TH9 : Hid (w22.there b2 0 c9.toArray.size) := H22.out.thereV 2 rfl (by rw [List.size_toArray, NL.out, HZL.out]; exact Nat.le_refl _)
       have hset := Own.St.setAll 2 c9 0 w22 _ z H22.out rfl (by rw [NL.out, HZL.out])
       simp only [List.set_cons_zero, List.set_cons_succ, List.take_zero, List.nil_append] at hset
       obtain ⟨W30, hW30⟩ : ∃ W, W = w22.setCells b2 0 c9.toArray.toList := ⟨_, rfl⟩
       have HW30 := Lib.hid hW30
       have H30 : Hid (Own.St w.heap.size w W30 (Cod.AR q r4 :: AVals b5 54 c9 :: AVals b2 54 c9 :: [AB ay l cy ys])) := by rw [hW30, List.toList_toArray]; exact hset
       clear hset hW30
       go_wp2_with (first
        | (refine wpList_val rfl (load_note c9 NL.out rfl _ (b := b5) (k := 0) RN.out rfl) ?_)
        | (refine wpList_store_mid rfl 54 (.tmp 2) (.tmp 58) rfl b2 0 c9.toArray rfl rfl TH9.out IO9.out OO9.out ?_; rw [<- HW30.out]))
       refine bodyPost_ret (results_cell_two rfl _ _ b2 54 _ (0, 0) _ _ rfl rfl (H30.out.rowV 2 rfl) Tryz.underlying54 rfl (info_note c9 NL.out)) rfl ?_
       exact takeNew_some HE.out rfl HLY.out H30.out 3 rfl HC9.out
   · have g : (fn != 0) = true := by simpa using hf
     have HE : Hid (X = (zeroN, 100)) := by show X = _; rw [HP.out, if_neg]; rintro ⟨h, _⟩; rw [<- HFN.out] at h; exact hf h
     have IOz : Hid ((Tryz.prog.info? 54).map (·.size) = some z.toArray.size) := info_noteA z HZL.out
     have OOz : Hid (z.toArray.all (·.oneCell') = true) := by show _ = true; rw [HZ.out]; exact all_oneCell_toArray (ntC_one rfl)
     have THz : Hid (W20.there b2 0 z.toArray.size) := H20.out.thereV 2 rfl (by simp)
     have hset := Own.St.setAll 2 z 0 W20 _ z H20.out rfl (by simp)
     obtain ⟨W30, hW30⟩ : ∃ W, W = W20.setCells b2 0 z.toArray.toList := ⟨_, rfl⟩
     have HW30 := Lib.hid hW30
     have e30 : W30 = W20.setCells b2 0 z := by rw [hW30, List.toList_toArray]
     rw [<- e30] at hset
     simp only [List.set_cons_zero, List.set_cons_succ, List.take_zero, List.nil_append] at hset
     have H30 := Lib.hid hset
     clear hset hW30 e30
     go_wp2_with (first
      | (refine Own.wpList_built rfl 54 #[] rfl z.toArray ?_ ?_; · (simp only [List.map_toArray, List.map_nil, List.toList_toArray]; exact HZ0.out))
      | (refine wpList_store_mid rfl 54 (.tmp 2) (.tmp 57) rfl b2 0 z.toArray rfl rfl THz.out IOz.out OOz.out ?_; rw [<- HW30.out]))
     refine bodyPost_ret (results_cell_two rfl _ _ b2 54 _ (0, 0) _ _ rfl rfl (H30.out.rowV 2 rfl) Tryz.underlying54 rfl (info_note z HZL.out)) rfl ?_
     exact takeNew_err HE.out H30.out.below HZ.out
 have hk4 := hk
 clear hk
 · skip
   have HF : Hid (∀ w, Calls Tryz.prog 51 #[.int .u8 (c.toNat : Int)] w fun e w' => e = .returned (.int .u8 0) /\ w = w') := by
    intro w
    have h := fields_any c.toNat hx1 w
    have e : fieldsN c.toNat = 0 := by unfold fieldsN; rw [if_neg hk1, if_neg hk2, if_neg hk3, if_neg hk4]
    rw [e] at h
    exact h
   have HRF : Hid (right ({ zeroN with kind := c } : Nte) = false) := by
    show _ = false
    rw [right_by]
    unfold fieldsN
    rw [if_neg hk1, if_neg hk2, if_neg hk3, if_neg hk4]
    simp
   have HE : Hid (X = (zeroN, 100)) := by
    show X = _
    rw [HX.out, if_neg]
    rintro ⟨_, h⟩
    have hkk := right_kind h
    rw [parse_kind, HR1.out] at hkk
    simp only [UInt8.ofNat_toNat] at hkk
    obtain ⟨i1, i2, i3, i4⟩ := kind_is c
    rcases hkk with h | h | h | h
    · exact hk1 (i1.1 h)
    · exact hk2 (i2.1 h)
    · exact hk3 (i3.1 h)
    · exact hk4 (i4.1 h)
   clear hk1 hk2 hk3 hk4 hl1
   have d0 : W5.cell? ⟨b5, 0, none⟩ = some (.int .u8 (c.toNat : Int)) := (H5.out.cellV 1 rfl 0 rfl).1
   go_wp2_with (first
    | (refine Own.wpList_built rfl 54 #[(0, .tmp 11)] rfl cs.toArray ?_ ?_; · (simp only [List.map_toArray, List.map_cons, List.map_nil, List.toList_toArray]; exact BE.out))
    | (refine Own.wpList_allocZ rfl 54 rfl z.toArray HZ2.out ?_; rw [<- HB5.out, <- HW4.out])
    | (refine wpList_store_mid rfl 54 (.tmp 5) (.tmp 12) rfl b5 0 cs.toArray rfl rfl TH.out IO.out OO.out ?_; rw [<- HW5.out]))
   clear HB5 HW4 HW5 TH IO OO BE HCS
   refine (HF.out _).mono ?_
   clear d0
   rintro e wf ⟨rfl, rfl⟩
   go_wp2_with (fail)
   obtain ⟨fn, hfn⟩ : ∃ f, f = r1.fin := ⟨_, rfl⟩
   have CE := Cod.end_st H5.out 0 rfl
   rw [<- hfn] at CE
   refine CE.mono ?_
   clear CE
   rintro e w20 ⟨rfl, rfl⟩
   have HFN := Lib.hid hfn
   clear hfn
   by_cases hf : fn = 0
   · subst hf
     obtain ⟨c9, hc9⟩ : ∃ x, x = ntC (⟨c, 0, 0, zsum, 0, []⟩ : Nte) nilV := ⟨_, rfl⟩
     have H21 : Hid (Own.St w.heap.size w W5 (Cod.AR q r1 :: AVals b5 54 c9 :: AVals b2 54 z :: [])) := by rw [hc9]; exact H5.out
     have NL : Hid (c9.length = 37) := by show _ = 37; rw [hc9]; exact ntC_len _ _ HSZ.out
     have RN : Hid (W5.rangeAt b5 0 c9) := fun j v hv => by rw [Nat.zero_add]; exact (H21.out.cellV 1 rfl j hv).1
     obtain ⟨rt, hrt⟩ : ∃ b, b = right (⟨c, 0, 0, zsum, 0, []⟩ : Nte) := ⟨_, rfl⟩
     have CR : Hid (Calls Tryz.prog 48 #[.agg c9.toArray] W5 fun e w' => e = .returned (.bool rt) /\ Below W5.heap.size W5 w') := by
      rw [hc9, hrt]
      exact lRight_any (⟨c, 0, 0, zsum, 0, []⟩ : Nte) HSZ.out none 0 0 rfl (by omega) W5
     have HRT := Lib.hid hrt
     have HC9 := Lib.hid hc9
     clear hc9 hrt H5
     go_wp2_with (refine wpList_val rfl (load_note c9 NL.out rfl _ (b := b5) (k := 0) RN.out rfl) ?_)
     refine CR.out.mono ?_
     clear CR
     rintro e w22 ⟨rfl, h22⟩
     have H22 := Lib.hid (H21.out.later h22)
     clear h22 H21 RN
     have hrt := HRT.out
     have e := HRF.out
     rw [show right (⟨c, 0, 0, zsum, 0, []⟩ : Nte) = false from e] at hrt
     subst hrt
     have IOz : Hid ((Tryz.prog.info? 54).map (·.size) = some z.toArray.size) := info_noteA z HZL.out
     have OOz : Hid (z.toArray.all (·.oneCell') = true) := by show _ = true; rw [HZ.out]; exact all_oneCell_toArray (ntC_one rfl)
     have THz : Hid (w22.there b2 0 z.toArray.size) := H22.out.thereV 2 rfl (by simp)
     have hset := Own.St.setAll 2 z 0 w22 _ z H22.out rfl (by simp)
     obtain ⟨W30, hW30⟩ : ∃ W, W = w22.setCells b2 0 z.toArray.toList := ⟨_, rfl⟩
     have HW30 := Lib.hid hW30
     have e30 : W30 = w22.setCells b2 0 z := by rw [hW30, List.toList_toArray]
     rw [<- e30] at hset
     simp only [List.set_cons_zero, List.set_cons_succ, List.take_zero, List.nil_append] at hset
     have H30 := Lib.hid hset
     clear hset hW30 e30
     go_wp2_with (first
      | (refine Own.wpList_built rfl 54 #[] rfl z.toArray ?_ ?_; · (simp only [List.map_toArray, List.map_nil, List.toList_toArray]; exact HZ0.out))
      | (refine wpList_store_mid rfl 54 (.tmp 2) (.tmp 57) rfl b2 0 z.toArray rfl rfl THz.out IOz.out OOz.out ?_; rw [<- HW30.out]))
     refine bodyPost_ret (results_cell_two rfl _ _ b2 54 _ (0, 0) _ _ rfl rfl (H30.out.rowV 2 rfl) Tryz.underlying54 rfl (info_note z HZL.out)) rfl ?_
     exact takeNew_err HE.out H30.out.below HZ.out
   · have g : (fn != 0) = true := by simpa using hf
     have IOz : Hid ((Tryz.prog.info? 54).map (·.size) = some z.toArray.size) := info_noteA z HZL.out
     have OOz : Hid (z.toArray.all (·.oneCell') = true) := by show _ = true; rw [HZ.out]; exact all_oneCell_toArray (ntC_one rfl)
     have THz : Hid (W5.there b2 0 z.toArray.size) := H5.out.thereV 2 rfl (by simp)
     have hset := Own.St.setAll 2 z 0 W5 _ z H5.out rfl (by simp)
     obtain ⟨W30, hW30⟩ : ∃ W, W = W5.setCells b2 0 z.toArray.toList := ⟨_, rfl⟩
     have HW30 := Lib.hid hW30
     have e30 : W30 = W5.setCells b2 0 z := by rw [hW30, List.toList_toArray]
     rw [<- e30] at hset
     simp only [List.set_cons_zero, List.set_cons_succ, List.take_zero, List.nil_append] at hset
     have H30 := Lib.hid hset
     clear hset hW30 e30
     go_wp2_with (first
      | (refine Own.wpList_built rfl 54 #[] rfl z.toArray ?_ ?_; · (simp only [List.map_toArray, List.map_nil, List.toList_toArray]; exact HZ0.out))
      | (refine wpList_store_mid rfl 54 (.tmp 2) (.tmp 57) rfl b2 0 z.toArray rfl rfl THz.out IOz.out OOz.out ?_; rw [<- HW30.out]))
     refine bodyPost_ret (results_cell_two rfl _ _ b2 54 _ (0, 0) _ _ rfl rfl (H30.out.rowV 2 rfl) Tryz.underlying54 rfl (info_note z HZL.out)) rfl ?_
     exact takeNew_err HE.out H30.out.below HZ.out
end Rec
end Go.Proofs.YtahjjcmeocibbaaGreatDoor
end
section
namespace Go.Own
open Go.RowKit
structure Boxy (P : Program) (ty : TypeId) (c : Nat) : Prop where
 zero : ∃ z : Array Value, (P.info? ty).bind (·.zero) = some (.agg z) /\ z.size = c
 size : (P.info? ty).map (·.size) = some c
theorem boxy_of {P : Program} {ty : TypeId} {c : Nat} (z : Array Value) (h : (P.info? ty).bind (·.zero) = some (.agg z)) (hz : z.size = c) (hs : (P.info? ty).map (·.size) = some c) : Boxy P ty c := ⟨⟨z, h, hz⟩, hs⟩
section
variable {P : Program} {B : Nat} {w0 : World} {Ps : List Asn}
theorem wpList_box2 {ops : Array Oper} {rest : List Oper} {o1 o2 : Oper} {a : Act} {w : World} {Q : Exit -> Act -> World -> Prop} {ty : TypeId} {c : Nat} (O : Boxy P ty c) (hg1 : o1.guard = none) (hg2 : o2.guard = none) (ho1 : o1.op = .alloc ty) (x y : Operand) (ho2 : o2.op = .store ty x y) (hd2 : o2.dst = none)
 (cs : List Value) (hx : ∀ v, (a.put o1.dst v).eval x = v) (hy : ∀ v, (a.put o1.dst v).eval y = .agg cs.toArray) (hc : cs.length = c) (h1 : ∀ u ∈ cs, u.oneCell' = true) (H : St B w0 w Ps)
 (h : ∀ b w', St B w0 w' (AVals b ty cs :: Ps) -> wpList P ops Q rest (a.put o1.dst (.pointer (some ⟨b, 0, none⟩))) w') : wpList P ops Q (o1 :: o2 :: rest) a w := by
 obtain ⟨z, hz, hzl⟩ := O.zero
 refine wpList_allocZ hg1 ty ho1 z hz ?_
 have hb := H.boxV ty z.toList
 have hzz : z.toList.toArray = z := by simp
 rw [hzz] at hb
 have ht : (w.alloc (.cells z ty)).there w.heap.size 0 cs.toArray.size := hb.thereV 0 rfl (by rw [List.size_toArray, hc, Array.length_toList, hzl]; exact Nat.le_refl _)
 refine wpList_store_mid hg2 ty x y ho2 w.heap.size 0 cs.toArray (hx _) (hy _) ht (by rw [List.size_toArray, hc]; exact O.size) (all_oneCell_toArray h1) ?_
 have hs := St.setAll 0 cs 0 _ _ z.toList hb rfl (by rw [Nat.zero_add, hc, Array.length_toList, hzl])
 simp only [List.set_cons_zero, List.take_zero, List.nil_append] at hs
 rw [hd2, List.toList_toArray]
 exact h _ _ hs
theorem wpList_newZ {ops : Array Oper} {rest : List Oper} {o : Oper} {a : Act} {w : World} {Q : Exit -> Act -> World -> Prop} {ty : TypeId} (z : List Value) (hz : (P.info? ty).bind (·.zero) = some (.agg z.toArray)) (hg : o.guard = none) (ho : o.op = .alloc ty) (H : St B w0 w Ps)
 (h : ∀ b w', St B w0 w' (AVals b ty z :: Ps) -> wpList P ops Q rest (a.put o.dst (.pointer (some ⟨b, 0, none⟩))) w') : wpList P ops Q (o :: rest) a w :=
 wpList_allocZ hg ty ho z.toArray hz (h _ _ (H.boxV ty z))
theorem wpList_fill {ops : Array Oper} {rest : List Oper} {o : Oper} {a : Act} {w : World} {Q : Exit -> Act -> World -> Prop} {ty : TypeId} {c b : Nat} (O : Boxy P ty c) (hg : o.guard = none) (x y : Operand) (ho : o.op = .store ty x y) (hd : o.dst = none) (H : St B w0 w Ps) (i : Nat) {vs : List Value} (hi : Ps[i]? = some (AVals b ty vs)) (hv : vs.length = c)
 (cs : List Value) (hx : a.eval x = .pointer (some ⟨b, 0, none⟩)) (hy : a.eval y = .agg cs.toArray) (hc : cs.length = c) (h1 : ∀ u ∈ cs, u.oneCell' = true)
 (h : ∀ w', St B w0 w' (Ps.set i (AVals b ty cs)) -> wpList P ops Q rest a w') : wpList P ops Q (o :: rest) a w := by
 have ht : w.there b 0 cs.toArray.size := H.thereV i hi (by rw [List.size_toArray, hc, hv]; exact Nat.le_refl _)
 refine wpList_store_mid hg ty x y ho b 0 cs.toArray hx hy ht (by rw [List.size_toArray, hc]; exact O.size) (all_oneCell_toArray h1) ?_
 have hs := St.setAll i cs 0 w Ps vs H hi (by rw [Nat.zero_add, hc, hv])
 simp only [List.take_zero, List.nil_append] at hs
 rw [hd, List.toList_toArray]
 exact h _ hs
theorem St.boxRange {w : World} {b : Nat} {ty : TypeId} {cs : List Value} (H : St B w0 w Ps) (i : Nat) (hi : Ps[i]? = some (AVals b ty cs)) : w.rangeAt b 0 cs := fun j v hv => by rw [Nat.zero_add]; exact (H.cellV i hi j hv).1
end
end Go.Own
end
section
namespace Go.Proofs.YtahjjcmeocibbaaGreatDoor
open Go.RowKit Go.Own
namespace Lga
open Go.LogM Byt
abbrev errL (n : Nat) : Value := .int .i64 (n : Int)
theorem boxy_note : Boxy Tryz.prog 54 37 := boxy_of (Rec.ntC RecM.zeroN Rec.nilV).toArray Rec.zero_note rfl (by kernel_rfl)
theorem cut3 {ao : Option Addr} {m cap : Nat} (a b : Nat) (hab : a <= b) (hb : b <= m) (hm : m <= cap) (hc : cap <= maxLen) (hno : ao = none -> cap = 0) :
 ∃ a' c', (∀ (o : Oper) (x y z u : Tmp), o.op = .slice 69 (.tmp x) (some (.tmp y)) (some (.tmp z)) (some (.tmp u)) -> ∀ (ρ : Operand -> Value) w, ρ (.tmp x) = .slice ao m cap -> ρ (.tmp y) = .int .i64 (a : Int) -> ρ (.tmp z) = .int .i64 (b : Int) -> ρ (.tmp u) = .int .i64 (b : Int) -> (execOp ρ o).run Tryz.prog w = .ok (.value (.slice a' (b - a) c')) w) /\
  ∀ w L, GivenL w ao m cap L -> GivenL w a' (b - a) c' ((L.take b).drop a) := by
 have hc0 := hc
 unfold maxLen at hc
 cases ao with
 | none =>
  obtain rfl := hno rfl
  obtain rfl : m = 0 := by omega
  obtain rfl : b = 0 := by omega
  obtain rfl : a = 0 := by omega
  refine ⟨none, 0, fun o x y z u ho ρ w h0 h1 h2 h3 => ?_, fun w L h => ⟨by simp, ⟨Nat.le_refl _, Nat.zero_le _⟩, fun _ => rfl, fun j hj => absurd hj (Nat.not_lt_zero _)⟩⟩
  simp [execOp, ho, h0, h1, h2, h3, go_sem]
 | some ad =>
  by_cases hab2 : b = a
  · subst hab2
    refine ⟨some ad, 0, fun o x y z u ho ρ w h0 h1 h2 h3 => ?_, fun w L h => ⟨by rw [List.length_drop, List.length_take, h.size]; omega, ⟨by omega, Nat.zero_le _⟩, fun h => by (cases h), fun j hj => by omega⟩⟩
    simp [execOp, ho, h0, h1, h2, h3, go_sem]
    omega
  · refine ⟨some (ad.add a), b - a, fun o x y z u ho ρ w h0 h1 h2 h3 => ?_, fun w L h => ⟨by rw [List.length_drop, List.length_take, h.size]; omega, ⟨Nat.le_refl _, by omega⟩, fun h => by (cases h), fun j hj => ?_⟩⟩
    · simp [execOp, ho, h0, h1, h2, h3, go_sem]
      rw [if_pos (by omega), if_pos (by omega), if_neg hab2]
    · obtain ⟨g, o, aj, cj, h1, h2, h3, h4⟩ := h.rows (a + j) (by omega)
      cases h1
      have e : ((L.take b).drop a).getD j [] = L.getD (a + j) [] := by rw [List.getD_eq_getElem?_getD, List.getElem?_drop, List.getElem?_take_of_lt (by omega), <- List.getD_eq_getElem?_getD]
      rw [e]
      exact ⟨g, o + a, aj, cj, by rw [add_of], h2, by rw [Nat.add_assoc]; exact h3, h4⟩
theorem note1_fits {l : List PagM.Bs} {n : RecM.Nte} {k : Nat} (h : note1 l = some (n, k)) : RecM.Fits n /\ n.data.length <= 300 := by
 unfold note1 at h
 split at h
 · rename_i hc
   cases h
   have h2 := hc.2.2
   rw [Rec.take_parse] at h2 ⊢
   split
   · rename_i hp
     exact ⟨(Rec.parse_a hp.1 hp.2).1, RecM.right_data hp.2⟩
   · rename_i hp
     rw [if_neg hp] at h2
     cases h2
 · cases h
def NoteDone (x : RecM.Nte × Nat) (w : World) (e : Ending) (w' : World) : Prop := ∃ ao cap, e = .returned (.tuple #[Rec.ntV x.1 (.slice ao x.1.data.length cap), .int .i64 (x.2 : Int)]) /\ Given w' ao x.1.data.length cap x.1.data /\ View w' (fun k => w.heap.size <= k) ao x.1.data /\ Below w.heap.size w w'
theorem noteDone_none {x : RecM.Nte × Nat} (hx : x = (RecM.zeroN, 0)) {w w' : World} (h : Below w.heap.size w w') {z : List Value} (hz : z = Rec.ntC RecM.zeroN Rec.nilV) : NoteDone x w (.returned (.tuple #[.agg z.toArray, .int .i64 0])) w' := by
 subst hx hz
 exact ⟨none, 0, rfl, ⟨.inl rfl, rfl, ⟨Nat.le_refl _, Nat.zero_le _⟩, fun _ => rfl⟩, .inl rfl, h⟩
set_option maxRecDepth 6000 in
set_option maxHeartbeats 8000000 in
theorem noteAt_any (ao : Option Addr) (n cap : Nat) (L : List PagM.Bs) (a b : Nat) (w : World) (hg : GivenL w ao n cap L) (hn : n <= 1000) (hlen : ∀ p ∈ L, p.length <= 1000000) (hab : a <= b) (hbn : b <= n) :
 Calls Tryz.prog 82 #[.slice ao n cap, .int .i64 (a : Int), .int .i64 (b : Int)] w (NoteDone (resN (note1 ((L.take b).drop a))) w) := by
 have hroom := hg.room
 obtain ⟨a', c', hC1, hC2⟩ := cut3 a b hab hbn hroom.1 hroom.2 hg.nil
 obtain ⟨M, hM⟩ : ∃ M, M = (L.take b).drop a := ⟨_, rfl⟩
 obtain ⟨m, hm⟩ : ∃ m, m = b - a := ⟨_, rfl⟩
 rw [<- hm] at hC1 hC2
 have hgm := hC2 w L hg
 rw [<- hM] at hgm ⊢
 have CT := Lib.hid hC1
 obtain ⟨J, hJ⟩ : ∃ J, J = PagM.join M := ⟨_, rfl⟩
 have CJ : Hid (∀ wx, Below w.heap.size w wx -> Calls Tryz.prog 21 #[.slice a' m c'] wx (Pag.JoinDone J wx)) := fun wx hwx => by
  rw [hJ]
  exact Pag.joinP_any a' m c' M wx (hgm.later hwx) (by omega) (fun p hp => hlen p (by rw [hM] at hp; exact List.mem_of_mem_take (List.mem_of_mem_drop hp)))
 have hsz := join_size M
 obtain ⟨X, hX⟩ : ∃ X, X = resN (note1 M) := ⟨_, rfl⟩
 have hX2 : X = if J.2 = 0 /\ J.1.1 = 2 /\ (RecM.take J.1.2.1).2 = 0 then ((RecM.take J.1.2.1).1, J.1.2.2) else (RecM.zeroN, 0) := by
  rw [hX, hJ]
  unfold note1
  split <;> rfl
 rw [<- hX]
 rw [<- hJ] at hsz
 obtain ⟨⟨k, bs, u⟩, er⟩ := J
 simp only at hX2 hsz
 obtain ⟨hs1, hs2, _⟩ := hsz
 have hu : u <= 1000 := by rw [hgm.size] at hs2; omega
 obtain ⟨z, hz⟩ : ∃ z, z = Rec.ntC RecM.zeroN Rec.nilV := ⟨_, rfl⟩
 have HZ2 : Hid ((Tryz.prog.info? 54).bind (·.zero) = some (.agg z.toArray)) := by rw [hz]; exact Rec.zero_note
 have HZ0 : Hid (Tryz.prog.built 54 [] = some z.toArray) := by rw [hz]; exact Rec.built_note0
 have HZL : Hid (z.length = 37) := by show z.length = 37; rw [hz]; rfl
 have HZ1 : Hid (∀ v ∈ z, v.oneCell' = true) := by rw [hz]; exact Rec.ntC_one rfl
 have HZ := Lib.hid hz
 have HX := Lib.hid hX2
 have H0 := Lib.hid (Own.St.start w)
 obtain ⟨bl, hbl⟩ : ∃ l, l = bs.length := ⟨_, rfl⟩
 have hbl8 : bl <= 8000 := by omega
 obtain ⟨kn, hkn⟩ : ∃ x, x = k.toNat := ⟨_, rfl⟩
 have hk2 : k = 2 ↔ kn = 2 := by
  rw [hkn]
  constructor
  · rintro rfl; rfl
  · intro h; exact UInt8.toNat_inj.1 (by rw [h]; rfl)
 have HK2 := Lib.hid hk2
 have CJ2 : Hid (∀ wx, Below w.heap.size w wx -> Calls Tryz.prog 21 #[.slice a' m c'] wx fun e w' => ∃ aj cj, e = .returned (.tuple #[.int .u8 (kn : Int), .slice aj bl cj, .int .i64 (u : Int), .int .i64 (er : Int)]) /\ Given w' aj bl cj bs /\ Below wx.heap.size wx w') := by
  intro wx hwx
  rw [hkn, hbl]
  exact CJ.out wx hwx
 clear hC1 hC2 hM hgm hJ hX hX2 hs1 hs2 hz hbl hkn hk2 hg hlen CJ hm hab hbn hroom hn
 go_enter Tryz.func82, Tryz.ntmps82
 go_wp2_with (first
  | (refine wpList_newZ z HZ2.out rfl rfl H0.out ?_; intro b6 w1 h; have H1 := Lib.hid h; clear h)
  | (refine Byt.wpList_val rfl (CT.out _ 14 15 16 17 rfl _ _ rfl rfl rfl rfl) ?_))
 refine (CJ2.out _ H1.out.below).mono ?_
 clear CJ2 CT H0
 rintro e w2 ⟨aj, cj, rfl, hgj, hbj⟩
 have H2 := Lib.hid (H1.out.later hbj)
 have GJ := Lib.hid hgj
 clear hgj hbj H1
 by_cases her : er = 0
 · subst her
   by_cases hk : kn = 2
   · subst hk
     have HT := Lib.hid (Rec.lTake_any aj bl cj bs w2 GJ.out (by omega))
     have HXX : Hid (X = if (RecM.take bs).2 = 0 then ((RecM.take bs).1, u) else (RecM.zeroN, 0)) := by
      show X = _
      rw [HX.out]
      have hk22 := HK2.out.2 rfl
      by_cases h : (RecM.take bs).2 = 0
      · rw [if_pos ⟨rfl, hk22, h⟩, if_pos h]
      · rw [if_neg (fun g => h g.2.2), if_neg h]
     have HF : Hid ((RecM.take bs).1.sum.length = 32) := by
      show _ = 32
      rw [Rec.take_parse]
      split
      · rename_i hp
        exact (Rec.parse_a hp.1 hp.2).1.sum
      · exact (by simp [RecM.zeroN, RecM.zsum])
     obtain ⟨tk, htk⟩ : ∃ x, x = RecM.take bs := ⟨_, rfl⟩
     rw [<- htk] at HT HXX HF
     obtain ⟨nt, te⟩ := tk
     simp only at HXX HF
     have HT2 : Hid (Calls Tryz.prog 22 #[.slice aj bl cj] w2 fun e w' => ∃ at3 ct3 cs, e = .returned (.tuple #[.agg (List.toArray cs), .int .i64 (te : Int)]) /\ cs = Rec.ntC nt (.slice at3 nt.data.length ct3) /\ Given w' at3 nt.data.length ct3 nt.data /\ View w' (fun k => w2.heap.size <= k) at3 nt.data /\ Below w2.heap.size w2 w') :=
      HT.out.mono fun e w' ⟨a3, c3, h1, h2, h3, h4⟩ => ⟨a3, c3, _, h1, rfl, h2, h3, h4⟩
     clear HX HK2 htk GJ HT
     go_wp2_with (fail)
     refine HT2.out.mono ?_
     clear HT2
     rintro e w3 ⟨at3, ct3, cs, rfl, hcs, hg3, hv3, hb3⟩
     have CSL : Hid (cs.length = 37) := by show _ = 37; rw [hcs]; exact Rec.ntC_len _ _ HF.out
     have CS1 : Hid (∀ v ∈ cs, v.oneCell' = true) := by rw [hcs]; exact Rec.ntC_one rfl
     have H3 := Lib.hid (H2.out.later hb3)
     have H0' := H2.out.below.size
     have VN : Hid (View w3 (fun k => w.heap.size <= k) at3 nt.data) := hv3.mono (fun k hk => Nat.le_trans H0' hk)
     have HDJ : Hid (Own.St w.heap.size w w3 [AView at3 nt.data, AVals b6 54 z]) := H2.out.adoptView hb3 hv3
     have GN := Lib.hid hg3
     have HCS := Lib.hid hcs
     clear hg3 hv3 hb3 H2 H0' hcs H3
     by_cases ht : te = 0
     · subst ht
       have HXY : Hid (X = (nt, u)) := by show X = _; rw [HXX.out, if_pos rfl]
       clear HXX
       go_wp2_with (first
        | (refine wpList_box2 boxy_note rfl rfl rfl (.tmp 12) (.tmp 34) rfl rfl cs (fun _ => rfl) (fun _ => rfl) CSL.out CS1.out HDJ.out ?_; intro b12 w4 h; have H4 := Lib.hid h; clear h)
        | (refine wpList_val rfl (Rec.load_note cs CSL.out rfl _ (b := b12) (k := 0) (H4.out.boxRange 0 rfl) rfl) ?_)
        | (refine wpList_fill boxy_note rfl (.tmp 6) (.tmp 39) rfl rfl H4.out 2 rfl HZL.out cs rfl rfl CSL.out CS1.out ?_; intro w5 h; simp only [List.set_cons_zero, List.set_cons_succ] at h; have H5 := Lib.hid h; clear h))
       refine bodyPost_ret (results_cell_two rfl _ _ b6 54 _ (0, 0) _ _ rfl rfl (H5.out.rowV 2 rfl) Tryz.underlying54 rfl (Rec.info_note cs CSL.out)) rfl ?_
       rw [HXY.out, HCS.out]
       have hv := (H5.out.viewAt 1 rfl)
       obtain ⟨S5, hS5, hB5, _⟩ := H5.out.at 1 rfl
       exact ⟨at3, ct3, rfl, ⟨hv, rfl, GN.out.room, GN.out.nil⟩, hS5.1.mono hB5, H5.out.below⟩
     · have g1 : (((te : Int)) != 0) = true := by simp; omega
       have HXX' : Hid (X = (RecM.zeroN, 0)) := by show X = _; rw [HXX.out, if_neg ht]
       clear HXX
       have HXX := HXX'
       clear HXX'
       go_wp2_with (first
        | (refine wpList_box2 boxy_note rfl rfl rfl (.tmp 12) (.tmp 34) rfl rfl cs (fun _ => rfl) (fun _ => rfl) CSL.out CS1.out HDJ.out ?_; intro b12 w4 h; have H4 := Lib.hid h; clear h)
        | (refine Own.wpList_built rfl 54 #[] rfl z.toArray ?_ ?_; · (simp only [List.map_toArray, List.map_nil, List.toList_toArray]; exact HZ0.out))
        | (refine wpList_fill boxy_note rfl (.tmp 6) (.tmp 38) rfl rfl H4.out 2 rfl HZL.out z rfl rfl HZL.out HZ1.out ?_; intro w5 h; simp only [List.set_cons_zero, List.set_cons_succ] at h; have H5 := Lib.hid h; clear h))
       refine bodyPost_ret (results_cell_two rfl _ _ b6 54 _ (0, 0) _ _ rfl rfl (H5.out.rowV 2 rfl) Tryz.underlying54 rfl (Rec.info_note z HZL.out)) rfl ?_
       exact noteDone_none HXX.out H5.out.below HZ.out
   · have g1 : (((kn : Int)) != 2) = true := by simp; omega
     have HXX : Hid (X = (RecM.zeroN, 0)) := by show X = _; rw [HX.out, if_neg (fun g => hk (HK2.out.1 g.2.1))]
     clear HX HK2 hk GJ
     go_wp2_with (first
      | (refine Own.wpList_built rfl 54 #[] rfl z.toArray ?_ ?_; · (simp only [List.map_toArray, List.map_nil, List.toList_toArray]; exact HZ0.out))
      | (refine wpList_fill boxy_note rfl (.tmp 6) (.tmp 30) rfl rfl H2.out 0 rfl HZL.out z rfl rfl HZL.out HZ1.out ?_; intro w5 h; simp only [List.set_cons_zero] at h; have H5 := Lib.hid h; clear h))
     refine bodyPost_ret (results_cell_two rfl _ _ b6 54 _ (0, 0) _ _ rfl rfl (H5.out.rowV 0 rfl) Tryz.underlying54 rfl (Rec.info_note z HZL.out)) rfl ?_
     exact noteDone_none HXX.out H5.out.below HZ.out
 · have g1 : (((er : Int)) != 0) = true := by simp; omega
   have HXX : Hid (X = (RecM.zeroN, 0)) := by show X = _; rw [HX.out, if_neg (fun g => her g.1)]
   clear HX HK2 her GJ
   go_wp2_with (first
    | (refine Own.wpList_built rfl 54 #[] rfl z.toArray ?_ ?_; · (simp only [List.map_toArray, List.map_nil, List.toList_toArray]; exact HZ0.out))
    | (refine wpList_fill boxy_note rfl (.tmp 6) (.tmp 30) rfl rfl H2.out 0 rfl HZL.out z rfl rfl HZL.out HZ1.out ?_; intro w5 h; simp only [List.set_cons_zero] at h; have H5 := Lib.hid h; clear h))
   refine bodyPost_ret (results_cell_two rfl _ _ b6 54 _ (0, 0) _ _ rfl rfl (H5.out.rowV 0 rfl) Tryz.underlying54 rfl (Rec.info_note z HZL.out)) rfl ?_
   exact noteDone_none HXX.out H5.out.below HZ.out
end Lga
end Go.Proofs.YtahjjcmeocibbaaGreatDoor
end
section
namespace Go.Proofs.YtahjjcmeocibbaaGreatDoor
open Go.RowKit Go.Own
namespace Tba
open Go.TabM Tab
def AT (p : Nat) (v : Value) (t : T) : Asn := AJoin [AVals p 85 (tabC v t), RowG v t.rows]
def A (p : Nat) (t : T) : Asn := AEx fun v => AT p v t
def allF (k : Nat) : Nat -> List Sg -> List Nat
 | _, [] => []
 | i, s :: l => if s.kind = k then i :: allF k (i + 1) l else allF k (i + 1) l
def allL (k : Nat) (t : T) : List Nat := allF k 0 t.rows
theorem allF_at (k : Nat) {l : List Sg} {i : Nat} (hi : i < l.length) : allF k i (l.drop i) = if (at_ l i).kind = k then i :: allF k (i + 1) (l.drop (i + 1)) else allF k (i + 1) (l.drop (i + 1)) := by
 rw [List.drop_eq_getElem_cons hi, allF, at_lt hi]
theorem allF_cur : ∀ (l : List Sg) (i : Nat), curF i l = (allF 1 i l).head?
 | [], _ => rfl
 | s :: l, i => by
  unfold curF allF
  by_cases h : s.kind = 1
  · rw [if_pos h, if_pos h]; rfl
  · rw [if_neg h, if_neg h]; exact allF_cur l (i + 1)
theorem allF_len (k : Nat) : ∀ (l : List Sg) (i : Nat), (allF k i l).length = l.countP (fun s => decide (s.kind = k))
 | [], _ => rfl
 | s :: l, i => by
  unfold allF
  by_cases h : s.kind = k
  · rw [if_pos h, List.length_cons, allF_len k l, List.countP_cons_of_pos (by simpa using h)]
  · rw [if_neg h, allF_len k l, List.countP_cons_of_neg (by simpa using h)]
theorem allF_mem (k : Nat) : ∀ (l : List Sg) (i j : Nat), j ∈ allF k i l -> ∃ m s, j = i + m /\ l[m]? = some s /\ s.kind = k
 | [], _, _, h => by cases h
 | s :: l, i, j, h => by
  unfold allF at h
  have go : j ∈ allF k (i + 1) l -> ∃ m s', j = i + m /\ (s :: l)[m]? = some s' /\ s'.kind = k := fun h => by
   obtain ⟨m, s', e, h1, h2⟩ := allF_mem k l (i + 1) j h
   exact ⟨m + 1, s', by omega, h1, h2⟩
  by_cases hs : s.kind = k
  · rw [if_pos hs] at h
    rcases List.mem_cons.1 h with rfl | h
    · exact ⟨0, s, rfl, rfl, hs⟩
    · exact go h
  · rw [if_neg hs] at h
    exact go h
theorem all_lt {k : Nat} {t : T} {j : Nat} (h : j ∈ allL k t) : j < t.rows.length /\ (at_ t.rows j).kind = k := by
 obtain ⟨m, s, e, h1, h2⟩ := allF_mem k _ _ _ h
 rw [Nat.zero_add] at e
 subst e
 exact ⟨(List.getElem?_eq_some_iff.1 h1).1, by rw [at_eq h1]; exact h2⟩
theorem boxy_seg : Boxy Tryz.prog 145 3 := boxy_of (sgC zS).toArray zero_seg rfl (by kernel_rfl)
section
variable {B : Nat} {w0 w : World} {Ps : List Asn} {p : Nat} {v : Value} {t : T} {N : Nat}
theorem at_open (h : Own.St B w0 w (AT p v t :: Ps)) : Own.St B w0 w (AVals p 85 (tabC v t) :: RowG v t.rows :: Ps) := h.openJ
theorem at_close (h : Own.St B w0 w (AVals p 85 (tabC v t) :: RowG v t.rows :: Ps)) : Own.St B w0 w (AT p v t :: Ps) := Own.St.closeJ (Qs := [_, _]) h
set_option maxHeartbeats 4000000 in
theorem all_any (H : Own.St B w0 w (AT p v t :: Ps)) (ok : Ok t N) (k : Nat) (hk : k <= 2) : Calls Tryz.prog 38 #[ptr p, .int .u8 (k : Int)] w fun e w' => ∃ ao c, e = .returned (.slice ao (allL k t).length c) /\ Own.St w.heap.size w w' [RowI (.slice ao (allL k t).length c) (allL k t) (allL k t).length] := by
 have h0 := at_open H
 obtain ⟨ao, cap, rfl⟩ := h0.rowForm 1 rfl
 have c0 := (h0.cellV 0 rfl 0 rfl).1
 have hlen := ok.len
 have HOK := Lib.hid ok
 obtain ⟨R, hR⟩ : ∃ R, R = allL k t := ⟨_, rfl⟩
 rw [<- hR]
 have HR0 : Hid (R = [] ++ allF k 0 (t.rows.drop 0)) := hR
 obtain ⟨n, hn⟩ : ∃ n, n = t.rows.length := ⟨_, rfl⟩
 have HN := Lib.hid hn
 rw [<- hn] at c0 hlen
 have hst : Own.St w.heap.size w w [RowI (.slice none 0 0) [] 0] := (Own.St.start w).rowFresh
 have htb : Own.St B w0 w (AVals p 85 (tabC (.slice ao n cap) t) :: RowG (.slice ao n cap) t.rows :: Ps) := by rw [hn]; exact h0
 have HTB := Lib.hid htb
 have HST := Lib.hid hst
 clear H h0 ok hn hR hst htb
 go_enter Tryz.func38, Tryz.ntmps38
 go_wp2
 go_loopw [5, 15] (fun v5 v15 wr => ∃ (i m : Nat) (acc : List Nat) (a : Option Addr) (c : Nat), i <= n /\ v5 = .slice a m c /\ v15 = .int .i64 (i : Int) /\ acc.length = m /\ m <= i /\ R = acc ++ allF k i (t.rows.drop i) /\ Own.St w.heap.size w wr [RowI (.slice a m c) acc m]) (fun _ v15 _ => n - (intOf v15).toNat)
 case atStart => exact ⟨0, 0, [], none, 0, Nat.zero_le _, rfl, rfl, rfl, Nat.le_refl _, HR0.out, HST.out⟩
 case round =>
  obtain ⟨i, m, acc, a, c, hin, rfl, rfl, hm, hmi, hr, h⟩ := hrel
  have HM := Lib.hid hm
  have HRR := Lib.hid hr
  have HH := Lib.hid h
  have HT := Lib.hid (HTB.out.later h.below)
  clear hm hr h HST HR0 c0
  by_cases hi : (i : Int) < (n : Int)
  · have hil : i < t.rows.length := by rw [<- HN.out]; omega
    have hin2 : i < n := by omega
    obtain ⟨g, cc, e, ha⟩ := rowG_at HT.out 1 rfl i hil
    simp only [Value.slice.injEq] at e
    obtain ⟨rfl, hnn, rfl⟩ := e
    clear hnn
    have HSA := Lib.hid (HRR.out.trans (congrArg (acc ++ ·) (allF_at k hil)))
    obtain ⟨s, hs⟩ : ∃ s, s = at_ t.rows i := ⟨_, rfl⟩
    rw [<- hs] at ha HSA
    have a0 := ha.c0
    have a1 := ha.c1
    have a2 := ha.c2
    obtain ⟨kk, hkk⟩ : ∃ k, k = s.kind := ⟨_, rfl⟩
    have hk2 : kk <= 2 := by rw [hkk, hs]; exact HOK.out.kind _ (at_mem hil)
    obtain ⟨cs, hcs⟩ : ∃ cs, cs = sgC s := ⟨_, rfl⟩
    have CL : Hid (cs.length = 3) := by rw [hcs]; exact rfl
    have CO : Hid (∀ u ∈ cs, u.oneCell' = true) := by
     intro u hu
     rw [hcs] at hu
     simp [sgC] at hu
     rcases hu with rfl | rfl | rfl <;> rfl
    have K0 : Hid (cs[0]? = some (.int .u8 (kk : Int))) := by rw [hcs, hkk]; exact rfl
    have CE : Hid (Value.agg #[.int .u8 (kk : Int), .int .u64 (s.seq : Int), .int .u32 (s.wear : Int)] = .agg cs.toArray) := by rw [hcs, hkk]; exact rfl
    rw [<- hkk] at a0 HSA
    clear ha hkk hs hcs HRR
    by_cases h1 : kk = k
    · have hb : ((kk : Int) == (k : Int)) = true := by simp; omega
      have HSB : Hid (R = (acc ++ [i]) ++ allF k (i + 1) (t.rows.drop (i + 1))) := by show _ = _; rw [HSA.out, if_pos h1]; simp
      obtain ⟨hx1, hx2, hx3, hx4⟩ := HH.out.rowLen 0 rfl
      have hc63 : c <= 9223372036854775807 := by unfold maxLen at hx3; omega
      clear HSA hx1 hx3 hx4 h1
      go_wp2_with (first
       | (refine wpList_newZ (sgC zS) zero_seg rfl rfl HH.out ?_; intro b7 w7 h; have H7 := Lib.hid h; clear h)
       | (refine wpList_fill boxy_seg rfl (.tmp 7) (.tmp 19) rfl rfl H7.out 0 rfl rfl cs rfl CE.out CL.out CO.out ?_; intro w8 h; simp only [List.set_cons_zero] at h; have H8 := Lib.hid h; have d0 := (h.cellV 0 rfl 0 K0.out).1; have HK := Lib.hid (h.alloc (.cells #[.int .i64 (i : Int)] 3)); have ONE := Lib.hid (one_cellI w8 i); clear h)
       | (at_builtin; refine wpList_many_append manyInt rfl (.tmp 24) (.tmp 26) rfl HK.out 1 rfl rfl (some ⟨w8.heap.size, 0, none⟩) 1 1 [iV i] rfl (by intro h; cases h) rfl ONE.out (by intro u hu; simp at hu; subst hu; rfl) (by omega) (by decide) ?_; intro a9 c9 w9 h9; simp only [List.set_cons_zero, List.set_cons_succ] at h9 ⊢; have H9 := Lib.hid h9; clear h9))
      go_roundw
      case rel =>
       refine ⟨i + 1, m + 1, acc ++ [i], a9, c9, by omega, rfl, by go_num, by rw [List.length_append, HM.out]; rfl, by omega, HSB.out, ?_⟩
       have h := H9.out.drop 1
       simp only [List.drop_succ_cons, List.drop_zero] at h
       show Own.St _ _ _ [ARow 3 1 (.slice a9 (m + 1) c9) (m + 1) ((acc ++ [i]).map iV)]
       rw [show (acc ++ [i]).map iV = acc.map iV ++ [iV i] by simp]
       exact h
      case measure => simp [intOf]; omega
    · have hb : ((kk : Int) == (k : Int)) = false := by simp; omega
      have HSB : Hid (R = acc ++ allF k (i + 1) (t.rows.drop (i + 1))) := by show _ = _; rw [HSA.out, if_neg h1]
      clear HSA h1
      go_wp2_with (first
       | (refine wpList_newZ (sgC zS) zero_seg rfl rfl HH.out ?_; intro b7 w7 h; have H7 := Lib.hid h; clear h)
       | (refine wpList_fill boxy_seg rfl (.tmp 7) (.tmp 19) rfl rfl H7.out 0 rfl rfl cs rfl CE.out CL.out CO.out ?_; intro w8 h; simp only [List.set_cons_zero] at h; have H8 := Lib.hid h; have d0 := (h.cellV 0 rfl 0 K0.out).1; clear h))
      go_roundw
      case rel =>
       refine ⟨i + 1, m, acc, a, c, by omega, rfl, by go_num, HM.out, by omega, HSB.out, ?_⟩
       have h := H8.out.drop 1
       simp only [List.drop_succ_cons, List.drop_zero] at h
       exact h
      case measure => simp [intOf]; omega
  · have HE : Hid (R = acc) := by
     show _ = _
     rw [HRR.out, List.drop_of_length_le (by rw [<- HN.out]; omega)]
     simp [allF]
    clear HRR
    go_wp2
    go_ret
    rw [HE.out, HM.out]
    refine ⟨a, c, rfl, ?_⟩
    exact HH.out
end
end Tba
end Go.Proofs.YtahjjcmeocibbaaGreatDoor
end
section
namespace Go.Own
open Go.RowKit
section
variable {P : Program}
theorem run_copy_size (w : World) (dT sT ty elem : TypeId) (size b o dLen dCap : Nat) (a : Addr) (sLen sCap n : Nat) (cs : List Value)
 (hu : P.underlying dT = some (.slice elem)) (hs : (P.info? elem).map (·.size) = some size) (hn : Nat.min sLen dLen = n) (hl : cs.length = n * size)
 (hsrc : ∀ j v, cs[j]? = some v -> w.cell? (a.add j) = some v) (hc : ∀ j, j < cs.length -> (w.cell? ⟨b, o + j, none⟩).isSome = true) (hf : ∀ j, j < cs.length -> w.frozen? ⟨b, o + j, none⟩ = false) (h1 : ∀ v ∈ cs, v.oneCell' = true) :
 (Builtin.copy_ #[dT, sT] ty #[.slice (some ⟨b, o, none⟩) dLen dCap, .slice (some a) sLen sCap]).run P w = .ok (goInt n) (w.setCells b o cs) := by
 have hfc := run_firstCells_some (P := P) w size n a sLen sCap cs hl hsrc
 have hst := run_storeCells_cells (P := P) b o cs 0 w (by simpa using hc) (by simpa using hf) h1
 cases hq : P.info? elem with
 | none => simp [hq] at hs
 | some i =>
  have hi : i.size = size := by simpa [hq] using hs
  have hst' : (storeCells ⟨b, o, none⟩ cs.toArray.toList).run P w = .ok () (w.setCells b o cs) := by simpa using hst
  simp only [Builtin.firstCells] at hfc
  simp [Builtin.copy_, run_underlying hu, Builtin.lenOf, Builtin.firstCells, sizeOf, typeInfo, hq, hi, hn, hfc, hst]
theorem run_copy_size_none (w : World) (dT sT ty elem : TypeId) (size : Nat) (d : Option Addr) (dLen dCap sCap : Nat) (hu : P.underlying dT = some (.slice elem)) (hs : (P.info? elem).map (·.size) = some size) :
 (Builtin.copy_ #[dT, sT] ty #[.slice d dLen dCap, .slice none 0 sCap]).run P w = .ok (goInt 0) w := by
 cases hq : P.info? elem with
 | none => simp [hq] at hs
 | some i => cases d <;> simp [Builtin.copy_, run_underlying hu, Builtin.lenOf, Builtin.firstCells, sizeOf, typeInfo, hq, storeCells]
end
section
variable {P : Program} {t e : TypeId} {size bytes : Nat} {B : Nat} {w0 : World} {Ps : List Asn}
theorem wpList_row_copy {ops : Array Oper} {rest : List Oper} {o : Oper} {a : Act} {w : World} {Q : Exit -> Act -> World -> Prop} (O : Many P t e size bytes) (hgd : o.guard = none) (d s : Operand) (t2 : TypeId)
 (ho : o.op = .call { callee := .builtin .copy, args := #[d, s], argTypes := #[t, t2] }) (H : St B w0 w Ps) (i : Nat) {g n cap : Nat} {xs : List Value} (hi : Ps[i]? = some (ARow e size (.slice (some ⟨g, 0, none⟩) n cap) n xs)) (hd : a.eval d = .slice (some ⟨g, 0, none⟩) n cap)
 (bo : Option Addr) (m c : Nat) (news : List Value) (hx : a.eval s = .slice bo m c) (hl : news.length = m * size) (hmn : m <= n) (hno : bo = none -> m = 0)
 (hc : ∀ a, bo = some a -> ∀ j u, news[j]? = some u -> w.cell? (a.add j) = some u) (h1 : ∀ v ∈ news, v.oneCell' = true)
 (h : ∀ w', St B w0 w' (Ps.set i (ARow e size (.slice (some ⟨g, 0, none⟩) n cap) n (news ++ xs.drop (m * size)))) -> wpList P ops Q rest (a.put o.dst (goInt m)) w') : wpList P ops Q (o :: rest) a w := by
 have hs : (P.info? e).map (·.size) = some size := by
  obtain ⟨i0, hi0, hq⟩ := Option.map_eq_some_iff.1 O.info
  simp only [Prod.mk.injEq] at hq
  rw [hi0]
  exact congrArg some hq.2.1
 have hms : m * size <= n * size := Nat.mul_le_mul_right _ hmn
 refine wpList_plain hgd fun K hK => ?_
 have hset := St.rowCells i news 0 w Ps xs H hi (by omega)
 rw [List.take_zero, List.nil_append, Nat.zero_add, hl] at hset
 have hcells : ∀ j, j < news.length -> (w.cell? ⟨g, 0 + j, none⟩).isSome = true /\ w.frozen? ⟨g, 0 + j, none⟩ = false := by
  intro j hj
  obtain ⟨hlen, _⟩ := H.rowLen i hi
  obtain ⟨h1, h2⟩ := St.rowRange H i hi j (by omega)
  rw [Nat.zero_add]
  refine ⟨?_, h2⟩
  rw [h1, List.getElem?_eq_getElem (by omega)]
  rfl
 have hrun : (Builtin.copy_ #[t, t2] o.type #[.slice (some ⟨g, 0, none⟩) n cap, .slice bo m c]).run P w = .ok (goInt m) (w.setCells g 0 news) := by
  cases bo with
  | none =>
   have hm := hno rfl
   subst hm
   obtain rfl : news = [] := List.eq_nil_of_length_eq_zero (by rw [hl, Nat.zero_mul])
   exact run_copy_size_none w t t2 o.type e size _ n cap c O.slice hs
  | some ad => exact run_copy_size w t t2 o.type e size g 0 n cap ad m c m news O.slice hs (Nat.min_eq_left hmn) hl (hc ad rfl) (fun j hj => (hcells j hj).1) (fun j hj => (hcells j hj).2) h1
 unfold Oper.wp
 simp [execOp, ho, resolve, invoke, builtin, hd, hx, hrun, Result.andThen]
 exact hK _ _ (h _ hset)
end
end Go.Own
end
section
namespace Go.Proofs.YtahjjcmeocibbaaGreatDoor
open Go.RowKit Go.Own
namespace Tba
open Go.TabM Tab
theorem curV_some {t : T} {j : Nat} {l : List Nat} (h : allL 1 t = j :: l) : curV t = .tuple #[.int .i64 (j : Int), .bool true] := by
 have : cur t = some j := by unfold cur; rw [allF_cur]; unfold allL at h; rw [h]; rfl
 unfold curV; rw [this]; rfl
theorem curV_none {t : T} (h : allL 1 t = []) : curV t = .tuple #[.int .i64 0, .bool false] := by
 have : cur t = none := by unfold cur; rw [allF_cur]; unfold allL at h; rw [h]; rfl
 unfold curV; rw [this]; rfl
theorem sgC_one (l : List Sg) : ∀ v ∈ l.flatMap sgC, v.oneCell' = true := by
 intro v hv
 obtain ⟨s, _, h⟩ := List.mem_flatMap.1 hv
 simp [sgC] at h
 rcases h with rfl | rfl | rfl <;> rfl
theorem flat_len3 (l : List Sg) : (l.flatMap sgC).length = l.length * 3 := by
 induction l with
 | nil => rfl
 | cons s l ih => rw [List.flatMap_cons, List.length_append, ih]; show 3 + _ = _; simp; omega
section
variable {B : Nat} {w0 w : World} {Ps : List Asn} {p : Nat} {v : Value} {t : T} {N : Nat}
set_option maxHeartbeats 1600000 in
theorem cur_any (H : Own.St B w0 w (AT p v t :: Ps)) (ok : Ok t N) : Calls Tryz.prog 15 #[ptr p] w fun e w' => e = .returned (curV t) /\ Below w.heap.size w w' := by
 have CC := Lib.hid (all_any H ok 1 (by decide))
 obtain ⟨L, hL⟩ : ∃ L, L = allL 1 t := ⟨_, rfl⟩
 rw [<- hL] at CC
 have hlen : L.length <= 256 := by rw [hL]; unfold allL; rw [allF_len]; exact Nat.le_trans List.countP_le_length ok.len
 clear H ok
 cases L with
 | nil =>
  rw [curV_none hL.symm]
  clear hL hlen
  go_enter Tryz.func15, Tryz.ntmps15
  go_wp2_with (fail)
  refine CC.out.mono ?_
  clear CC
  rintro e w' ⟨ao, c, rfl, h⟩
  have g := h.below
  have HG := Lib.hid g
  clear g h
  go_wp2
  go_ret2
  exact ⟨rfl, HG.out⟩
 | cons j l =>
  rw [curV_some hL.symm]
  clear hL
  obtain ⟨n, hn⟩ : ∃ n, n = (j :: l).length := ⟨_, rfl⟩
  have hn1 : 0 < n := by rw [hn]; exact Nat.succ_pos _
  rw [<- hn] at CC hlen
  clear hn
  go_enter Tryz.func15, Tryz.ntmps15
  go_wp2_with (fail)
  refine CC.out.mono ?_
  clear CC
  rintro e w' ⟨ao, c, rfl, h⟩
  have HG := Lib.hid h.below
  obtain ⟨g, rfl, ⟨u, hu, d0⟩, _, _⟩ := h.rowAt 0 rfl 0 (by omega)
  rw [List.map_cons] at hu
  cases hu
  clear h
  have hgt : (n : Int) > 0 := by omega
  go_wp2
  go_ret2
  exact ⟨rfl, HG.out⟩
theorem copied_any (H : Own.St B w0 w Ps) (ao : Option Addr) (n c : Nat) (rows : List Sg) (hn : rows.length = n) (hn2 : n <= 256) (hno : ao = none -> n = 0)
 (hc : ∀ w', Below w.heap.size w w' -> ∀ a, ao = some a -> ∀ j u, (rows.flatMap sgC)[j]? = some u -> w'.cell? (a.add j) = some u) :
 Calls Tryz.prog 64 #[.slice ao n c] w fun e w' => ∃ g, e = .returned (.slice (some ⟨g, 0, none⟩) n n) /\ Own.St B w0 w' (RowG (.slice (some ⟨g, 0, none⟩) n n) rows :: Ps) := by
 obtain ⟨w2, g, hmk, hst⟩ := St.manyMake (zs := sgC zS) manySeg zero_seg rfl H .i64 .i64 n (by omega) (by decide)
 obtain ⟨zz, hzz⟩ : ∃ z, z = (List.replicate n (sgC zS)).flatten := ⟨_, rfl⟩
 have hzl : zz.length = n * 3 := by rw [hzz]; simp
 rw [<- hzz] at hst
 have HS := Lib.hid hst
 have hstep := (hst.below)
 have HC := Lib.hid hc
 have HF : Hid ((rows.flatMap sgC).length = n * 3) := by show _ = _; rw [flat_len3, hn]
 have HN := Lib.hid hn
 have HNO := Lib.hid hno
 have HO := Lib.hid (sgC_one rows)
 have HZ := Lib.hid hzl
 obtain ⟨w2', g', hmk', hst'⟩ := St.manyMake (zs := sgC zS) manySeg zero_seg rfl (Own.St.start w) .i64 .i64 n (by omega) (by decide)
 rw [hmk] at hmk'
 obtain ⟨-, rfl⟩ : _ /\ w2 = w2' := by simpa using hmk'
 have HB := Lib.hid hst'.below
 clear hmk' hst' hc hn hno hst hzz hzl H hstep
 go_enter Tryz.func64, Tryz.ntmps64
 go_wp2_with (refine wpList_row_copy manySeg rfl (.tmp 7) (.tmp 8) _ rfl HS.out 0 rfl rfl ao n c (rows.flatMap sgC) rfl HF.out (Nat.le_refl _) HNO.out (HC.out w2 HB.out) HO.out ?_; intro w3 h; simp only [List.set_cons_zero] at h; rw [List.drop_of_length_le (by rw [HZ.out]; exact Nat.le_refl _), List.append_nil] at h; have H3 := Lib.hid h; clear h)
 go_ret
 refine ⟨g, rfl, ?_⟩
 show Own.St B w0 w3 (ARow _ 3 _ rows.length _ :: Ps)
 rw [HN.out]
 exact H3.out
end
end Tba
end Go.Proofs.YtahjjcmeocibbaaGreatDoor
end
section
namespace Go.Own
open Go.RowKit
theorem St.adoptNew {B : Nat} {w0 w w' : World} {Ps : List Asn} {Q : Asn} (H : St B w0 w Ps) (h : St w.heap.size w w' [Q]) : St B w0 w' (Q :: Ps) := by
 obtain ⟨S, ⟨S1, S2, hQ, _, _, hS⟩, hB⟩ := h.own
 exact H.adopt h.below Q hQ (fun k hk => hB k ((hS k).2 (.inl hk)))
end Go.Own
namespace Go.Proofs.YtahjjcmeocibbaaGreatDoor
open Go.RowKit Go.Own
namespace Tba
open Go.TabM Tab
section
variable {B : Nat} {w0 w : World} {Ps : List Asn} {p : Nat} {v : Value} {t : T} {N : Nat}
set_option maxHeartbeats 1600000 in
theorem new_any (H : Own.St B w0 w Ps) (n : Int) (hn : -9223372036854775808 <= n /\ n <= 9223372036854775807) :
 Calls Tryz.prog 6 #[.int .i64 n] w fun e w' => if mayBe n = true then ∃ q v, e = .returned (.tuple #[ptr q, errT 0]) /\ Own.St B w0 w' (AT q v (fresh n.toNat) :: Ps) else e = .returned (.tuple #[.pointer none, errT 1]) /\ w' = w := by
 by_cases h1 : n < 0
 · have hm : mayBe n = false := by unfold TabM.mayBe; simp; omega
   simp only [hm, Bool.false_eq_true, if_false]
   have d1 : decide (n < 0) = true := decide_eq_true h1
   go_enter Tryz.func6, Tryz.ntmps6
   go_wp2
   go_ret2
   exact ⟨rfl, rfl⟩
 have d1 : decide (n < 0) = false := decide_eq_false h1
 by_cases h2 : 256 < n
 · have hm : mayBe n = false := by unfold TabM.mayBe; simp; omega
   simp only [hm, Bool.false_eq_true, if_false]
   have d2 : decide (256 < n) = true := decide_eq_true h2
   go_enter Tryz.func6, Tryz.ntmps6
   go_wp2
   go_ret2
   exact ⟨rfl, rfl⟩
 have d2 : decide (256 < n) = false := decide_eq_false h2
 have hm : mayBe n = true := by unfold TabM.mayBe; simp; omega
 simp only [hm, if_true]
 obtain ⟨k, rfl⟩ := Int.eq_ofNat_of_zero_le (show 0 <= n by omega)
 obtain ⟨w2, g, hmk, hst⟩ := St.manyMake (zs := sgC zS) manySeg zero_seg rfl H .i64 .i64 k (by omega) (by decide)
 rw [flat_fresh] at hst
 obtain ⟨q, hq⟩ : ∃ b, b = w2.heap.size := ⟨_, rfl⟩
 have hbx := hst.boxV 85 (tabC (.slice (some ⟨g, 0, none⟩) k k) (fresh k))
 rw [<- hq] at hbx
 have H9 : Hid (Own.St B w0 (w2.alloc (.cells #[.slice (some ⟨g, 0, none⟩) k k, .int .u64 1] 85)) (AT q (.slice (some ⟨g, 0, none⟩) k k) (fresh k) :: Ps)) := by
  refine at_close ?_
  have e : RowG (.slice (some ⟨g, 0, none⟩) k k) (fresh k).rows = ARow 145 3 (.slice (some ⟨g, 0, none⟩) k k) k ((List.replicate k zS).flatMap sgC) := by
   show ARow _ 3 _ (List.replicate k zS).length _ = _
   rw [List.length_replicate]
   rfl
  rw [e]
  exact hbx
 clear hst hbx H hm h1 h2
 go_enter Tryz.func6, Tryz.ntmps6
 go_wp2
 rw [<- hq]
 go_ret2
 exact ⟨q, _, rfl, H9.out⟩
set_option maxHeartbeats 1600000 in
theorem seal_any (H : Own.St B w0 w (AT p v t :: Ps)) (ok : Ok t N) : Calls Tryz.prog 93 #[ptr p] w fun e w' => e = .returned (errT (sealT t).2) /\ Own.St B w0 w' (AT p v (sealT t).1 :: Ps) := by
 have CC := Lib.hid (cur_any H ok)
 have hlen := ok.len
 have HH := Lib.hid H
 clear H ok
 cases hc : cur t with
 | none =>
  have e1 : curV t = .tuple #[.int .i64 0, .bool false] := by unfold curV; rw [hc]; rfl
  have e2 : sealT t = (t, 2) := by unfold sealT; rw [hc]
  rw [e1] at CC
  rw [e2]
  clear hc e1 e2
  go_enter Tryz.func93, Tryz.ntmps93
  go_wp2_with (fail)
  refine CC.out.mono ?_
  clear CC
  rintro e w1 ⟨rfl, hg⟩
  have H1 := Lib.hid (HH.out.later hg)
  clear hg
  go_wp2
  go_ret
  exact ⟨rfl, H1.out⟩
 | some i =>
  obtain ⟨hi, hk⟩ := cur_some hc
  have e1 : curV t = .tuple #[.int .i64 (i : Int), .bool true] := by unfold curV; rw [hc]; rfl
  have e2 : sealT t = (⟨t.rows.set i { at_ t.rows i with kind := 2 }, t.next⟩, 0) := by unfold sealT; rw [hc]
  rw [e1] at CC
  rw [e2]
  clear hc e1 e2 hk
  go_enter Tryz.func93, Tryz.ntmps93
  go_wp2_with (fail)
  refine CC.out.mono ?_
  clear CC
  rintro e w1 ⟨rfl, hg⟩
  have h0 := at_open (HH.out.later hg)
  obtain ⟨ao, cap, rfl⟩ := h0.rowForm 1 rfl
  have c0 := (h0.cellV 0 rfl 0 rfl).1
  obtain ⟨g, cc, e, ha⟩ := rowG_at h0 1 rfl i hi
  simp only [Value.slice.injEq, true_and] at e
  obtain ⟨rfl, rfl⟩ := e
  obtain ⟨fz, put⟩ := rowG_set h0 1 rfl i 0 { at_ t.rows i with kind := 2 } (.int .u8 2) hi (by omega) rfl
  have a0 := ha.c0
  simp only [List.set_cons_zero, List.set_cons_succ, Nat.add_zero] at fz put
  obtain ⟨n, hn⟩ : ∃ n, n = t.rows.length := ⟨_, rfl⟩
  rw [<- hn] at c0 hlen hi
  have P9 : Hid (Own.St B w0 (w1.setCell ⟨g, i * 3, none⟩ (.int .u8 2)) (AT p (.slice (some ⟨g, 0, none⟩) n cap) ⟨t.rows.set i { at_ t.rows i with kind := 2 }, t.next⟩ :: Ps)) := by
   refine at_close ?_
   rw [hn, show RowG (.slice (some ⟨g, 0, none⟩) t.rows.length cap) (T.rows ⟨t.rows.set i { at_ t.rows i with kind := 2 }, t.next⟩) = RowG (.slice (some ⟨g, 0, none⟩) t.rows.length cap) (t.rows.set i { at_ t.rows i with kind := 2 }) from rfl]
   exact put
  have HN := Lib.hid hn
  clear ha put hn hg h0 HH
  go_wp2
  go_ret
  refine ⟨rfl, ?_⟩
  have h := P9.out
  rw [HN.out] at h
  exact h
set_option maxHeartbeats 1600000 in
theorem rows_any (H : Own.St B w0 w (AT p v t :: Ps)) (ok : Ok t N) : Calls Tryz.prog 26 #[ptr p] w fun e w' => ∃ ao c, e = .returned (.slice ao t.rows.length c) /\ Own.St B w0 w' (ARow 145 3 (.slice ao t.rows.length c) t.rows.length (t.rows.flatMap sgC) :: AT p v t :: Ps) /\ Below w.heap.size w w' := by
 have h0 := at_open H
 obtain ⟨ao, cap, rfl⟩ := h0.rowForm 1 rfl
 have c0 := (h0.cellV 0 rfl 0 rfl).1
 have hno := (h0.rowLen 1 rfl).2.2.2
 have hnw := h0.rowNews 1 rfl
 have HH := Lib.hid H
 have CC := Lib.hid (copied_any (Own.St.start w) ao t.rows.length cap t.rows rfl ok.len (fun e => (hno e).1) (fun w' hw a ha j u hu => cellLater' (hnw a ha j u hu) hw))
 obtain ⟨n, hn⟩ : ∃ n, n = t.rows.length := ⟨_, rfl⟩
 rw [<- hn] at c0 CC ⊢
 have HN := Lib.hid hn
 clear H h0 hno hnw hn ok
 go_enter Tryz.func26, Tryz.ntmps26
 go_wp2_with (fail)
 refine CC.out.mono ?_
 clear CC
 rintro e w1 ⟨g, rfl, h⟩
 have HB := Lib.hid h.below
 have H1 := Lib.hid (HH.out.adoptNew h)
 clear h
 go_wp2
 go_ret
 refine ⟨_, _, rfl, ?_, HB.out⟩
 have h := H1.out
 have e : RowG (.slice (some ⟨g, 0, none⟩) n n) t.rows = ARow 145 3 (.slice (some ⟨g, 0, none⟩) n n) n (t.rows.flatMap sgC) := by rw [HN.out]
 rw [e, <- HN.out] at h
 exact h
end
end Tba
end Go.Proofs.YtahjjcmeocibbaaGreatDoor
end
section
namespace Go.Own
open Go.RowKit
theorem St.only {B : Nat} {w0 w : World} {P : Asn} {Ps : List Asn} (h : St B w0 w (P :: Ps)) : St B w0 w [P] := by
 have h2 := (h.perm (List.perm_append_comm (l₁ := [P]) (l₂ := Ps))).drop Ps.length
 rw [List.drop_left] at h2
 exact h2
end Go.Own
namespace Go.LogM
theorem take_small (p : Bs) : (PagM.take p).1.data.length <= 125 := by
 unfold PagM.take
 split
 · rename_i h
   obtain ⟨h1, h2, _⟩ := PagM.isPage_props h
   obtain ⟨_, g2⟩ := PagM.guess_small p h1 h2
   simp only
   omega
 · exact Nat.zero_le _
end Go.LogM
namespace Go.Proofs.YtahjjcmeocibbaaGreatDoor
open Go.RowKit Go.Own
namespace Lga
open Go.LogM Byt
open Cod (RS)
theorem num8 (l : List UInt8) : (RS.num ⟨l, 0⟩ 8).2.fin = 0 /\ l.length = 8 /\ (RS.num ⟨l, 0⟩ 8).1 = RecM.num l \/ (RS.num ⟨l, 0⟩ 8).2.fin ≠ 0 /\ l.length ≠ 8 := by
 unfold RS.num
 simp only [ne_eq, not_true_eq_false, if_false]
 rw [if_neg (by decide)]
 by_cases h : (l.length : Int) < 8
 · rw [if_pos h]
   refine .inr ⟨by simp [RS.fin], by omega⟩
 · rw [if_neg h]
   by_cases h8 : l.length = 8
   · refine .inl ⟨?_, h8, ?_⟩
     · have : l.drop 8 = [] := List.drop_eq_nil_of_le (by omega)
       simp [RS.fin, this]
     · show Cod.num (l.take 8) = _
       rw [Rec.cod_num, List.take_of_length_le (by omega)]
   · refine .inr ⟨?_, h8⟩
     have : l.drop 8 ≠ [] := fun e => by have := List.drop_eq_nil_iff.1 e; omega
     simp [RS.fin, this]
set_option maxRecDepth 6000 in
set_option maxHeartbeats 4000000 in
theorem first_any (q : Nat) (w : World) :
 Calls Tryz.prog 119 #[.int .u64 (q : Int)] w fun e w' => ∃ b, e = .returned (.slice (some ⟨b, 0, none⟩) 128 128) /\ Own.St w.heap.size w w' [ARow 113 1 (.slice (some ⟨b, 0, none⟩) 128 128) 128 ((hdr q).map byteV)] := by
 have C0 := Lib.hid (Cod.newWriter_st (Own.St.start w) 8 (by decide))
 obtain ⟨P, hP⟩ : ∃ P, P = hdr q := ⟨_, rfl⟩
 have C3 : Hid (∀ (ao : Option Addr) (cap : Nat) (wx : World), Given wx ao 8 cap (RecM.le q 8) -> Calls Tryz.prog 136 #[.agg #[.int .u8 1, .bool true, .bool true, .slice ao 8 cap]] wx fun e w' => ∃ b, e = .returned (.tuple #[.slice (some ⟨b, 0, none⟩) 128 128, .int .i64 0]) /\ Own.St wx.heap.size wx w' [ARow 113 1 (.slice (some ⟨b, 0, none⟩) 128 128) 128 (P.map byteV)]) := by
  intro ao cap wx hg
  rw [hP]
  exact Pag.layP_own ⟨1, true, true, RecM.le q 8⟩ ao 8 cap wx hg (by show (1 : UInt8).toNat <= 63; decide) (by decide)
 rw [<- hP]
 clear hP
 go_enter Tryz.func119, Tryz.ntmps119
 go_wp2_with (fail)
 refine C0.out.mono ?_
 clear C0
 rintro e w1 ⟨p, rfl, h1⟩
 rw [show max (8 : Int) 0 = 8 by decide] at h1
 have C1 := Cod.num_st h1 0 rfl q 8 (by decide)
 rw [show (8 : Int) = ((8 : Nat) : Int) from rfl, Cod.num_fits _ _ _ rfl (by decide) (by decide)] at C1
 have C1' := Lib.hid C1
 clear C1 h1
 go_wp2_with (fail)
 refine C1'.out.mono ?_
 clear C1'
 rintro e w2 ⟨rfl, h2⟩
 simp only [List.set_cons_zero, List.nil_append, Rec.cod_le] at h2
 have C2 := Lib.hid (Cod.out_st h2 0 rfl (n := 8) (by show (RecM.le q 8).length = 8; exact RecM.le_len q 8) (by decide))
 clear h2
 go_wp2_with (fail)
 refine C2.out.mono ?_
 clear C2
 rintro e w3 ⟨ao, cap, rfl, h3⟩
 have H3 := Lib.hid h3
 have G3 : Hid (Given w3 ao 8 cap (RecM.le q 8)) := given_own h3 0 rfl
 clear h3
 go_wp2_with (fail)
 refine (C3.out ao cap w3 G3.out).mono ?_
 clear C3
 rintro e w4 ⟨b, rfl, h4⟩
 have H4 := Lib.hid (H3.out.adoptNew h4).only
 clear h4
 go_wp2_with (fail)
 go_ret
 exact ⟨b, rfl, H4.out⟩
set_option maxRecDepth 6000 in
set_option maxHeartbeats 4000000 in
theorem seqOf_any (ao : Option Addr) (n cap : Nat) (p : PagM.Bs) (w : World) (hg : Given w ao n cap p) (hn : n <= 1000000) :
 Calls Tryz.prog 44 #[.slice ao n cap] w fun e w' => e = .returned (.int .u64 (headSeq p : Int)) /\ Below w.heap.size w w' := by
 have hts := take_small p
 obtain ⟨T, hT⟩ : ∃ T, T = PagM.take p := ⟨_, rfl⟩
 obtain ⟨X, hX⟩ : ∃ X, X = headSeq p := ⟨_, rfl⟩
 have CT := Pag.take_new ao n cap p w hg hn
 rw [<- hX]
 unfold headSeq at hX
 rw [<- hT] at hX CT hts
 obtain ⟨⟨fk, ff, fl, fd⟩, er⟩ := T
 unfold Pag.TakeNew at CT
 simp only at hX CT hts
 obtain ⟨kn, hkn⟩ : ∃ x, x = fk.toNat := ⟨_, rfl⟩
 have hk1 : fk = 1 ↔ kn = 1 := by
  rw [hkn]
  constructor
  · rintro rfl; rfl
  · intro h; exact UInt8.toNat_inj.1 (by rw [h]; rfl)
 obtain ⟨dl, hdl⟩ : ∃ x, x = fd.length := ⟨_, rfl⟩
 rw [<- hkn, <- hdl] at CT
 simp only [hk1, <- hdl] at hX
 have hN := num8 fd
 rw [<- hdl] at hN hts
 have CT1 := Lib.hid CT
 have HX := Lib.hid hX
 have HN := Lib.hid hN
 have HDL := Lib.hid hdl
 clear hX hT CT hkn hk1 hN hdl hg hn
 go_enter Tryz.func44, Tryz.ntmps44
 go_wp2_with (fail)
 refine CT1.out.mono ?_
 clear CT1
 rintro e w1 ⟨at1, ct1, rfl, hg1, _, hb1⟩
 obtain ⟨cs, hcs⟩ : ∃ cs : List Value, cs = [.int .u8 (kn : Int), .bool ff, .bool fl, .slice at1 dl ct1] := ⟨_, rfl⟩
 have hbx := ((Own.St.start w).later hb1).boxV 116 [.int .u8 (kn : Int), .bool ff, .bool fl, .slice at1 dl ct1]
 have HB := Lib.hid hbx.below
 have G1 := Lib.hid (hg1.later ((Own.St.start w1).alloc (.cells #[.int .u8 (kn : Int), .bool ff, .bool fl, .slice at1 dl ct1] 116)).below)
 clear hg1 hb1 hbx hcs cs
 by_cases her : er = 0
 · subst her
   by_cases hk : kn = 1
   · subst hk
     cases ff
     · have HXX : Hid (X = 0) := by show X = 0; rw [HX.out, if_neg (by simp)]
       clear HX
       go_wp2
       go_ret
       exact ⟨by rw [HXX.out]; rfl, HB.out⟩
     cases fl
     · have HXX : Hid (X = 0) := by show X = 0; rw [HX.out, if_neg (by simp)]
       clear HX
       go_wp2
       go_ret
       exact ⟨by rw [HXX.out]; rfl, HB.out⟩
     obtain ⟨x, r2, hr2⟩ : ∃ x r, RS.num ⟨fd, 0⟩ 8 = (x, r) := ⟨_, _, rfl⟩
     have HR2 := Lib.hid hr2
     have HNN := HN.out
     rw [hr2] at HNN
     simp only at HNN
     have HN2 := Lib.hid HNN
     obtain ⟨W2, hW2⟩ : ∃ W, W = w1.alloc (.cells #[.int .u8 1, .bool true, .bool true, .slice at1 dl ct1] 116) := ⟨_, rfl⟩
     have G2 := G1.out
     have HB2 := HB.out
     have C3 := Cod.newReader_old (Own.St.start W2) (ao := at1) (l := fd) ct1 (by rw [hW2]; exact G1.out.view) (by rw [<- HDL.out]; omega)
     rw [<- HDL.out] at C3
     have C3' := Lib.hid C3
     have HBB : Hid (Below w.heap.size w W2) := by rw [hW2]; exact HB.out
     have HW2 := Lib.hid hW2
     clear hr2 HNN G2 HB2 C3 HN hW2
     go_wp2_with (fail)
     rw [<- HW2.out]
     refine C3'.out.mono ?_
     clear C3' G1 HB HW2
     rintro e w3 ⟨q, rfl, h3⟩
     have C4 := Lib.hid (Cod.rnum_st h3 0 rfl 8 HR2.out (by show fd.length <= _; rw [<- HDL.out]; omega))
     clear h3
     go_wp2_with (fail)
     refine C4.out.mono ?_
     clear C4
     rintro e w4 ⟨rfl, h4⟩
     simp only [List.set_cons_zero] at h4
     obtain ⟨fn, hfn⟩ : ∃ f, f = r2.fin := ⟨_, rfl⟩
     have C5 := Cod.end_st h4 0 rfl
     rw [<- hfn] at C5
     have C5' := Lib.hid C5
     have H4 := Lib.hid h4
     have HFN := Lib.hid hfn
     clear h4 C5 hfn
     go_wp2_with (fail)
     refine C5'.out.mono ?_
     clear C5'
     rintro e w5 ⟨rfl, rfl⟩
     have HB5 : Hid (Below w.heap.size w w4) := HBB.out.trans (H4.out.below.mono HBB.out.size)
     by_cases hf : fn = 0
     · subst hf
       have HXX : Hid (X = x) := by
        show X = x
        rcases HN2.out with ⟨_, h2, h3⟩ | ⟨h2, _⟩
        · rw [HX.out, if_pos (by simp [h2]), h3]
        · exact absurd HFN.out.symm h2
       clear HX HN2
       go_wp2
       go_ret
       exact ⟨by rw [HXX.out]; rfl, HB5.out⟩
     · have g1 : (fn != 0) = true := by simpa using hf
       have HXX : Hid (X = 0) := by
        show X = 0
        rcases HN2.out with ⟨h2, _⟩ | ⟨_, h3⟩
        · rw [<- HFN.out] at h2; exact absurd h2 hf
        · rw [HX.out, if_neg]
          rintro ⟨_, _, _, _, h⟩
          exact h3 h
       clear HX HN2
       go_wp2
       go_ret
       exact ⟨by rw [HXX.out]; rfl, HB5.out⟩
   · have g1 : (((kn : Int)) != 1) = true := by simp; omega
     have HXX : Hid (X = 0) := by show X = 0; rw [HX.out, if_neg (fun g => hk g.2.1)]
     clear HX hk
     go_wp2
     go_ret
     exact ⟨by rw [HXX.out]; rfl, HB.out⟩
 · have g1 : (((er : Int)) != 0) = true := by simp; omega
   have HXX : Hid (X = 0) := by show X = 0; rw [HX.out, if_neg (fun g => her g.1)]
   clear HX her
   go_wp2
   go_ret
   exact ⟨by rw [HXX.out]; rfl, HB.out⟩
set_option maxRecDepth 6000 in
set_option maxHeartbeats 4000000 in
theorem pagesOf_any (n : RecM.Nte) (f : RecM.Fits n) (ao : Option Addr) (len cap : Nat) (w : World) (hg : Given w ao len cap n.data) (hb : len <= 1000000) :
 Calls Tryz.prog 28 #[Rec.ntV n (.slice ao len cap)] w fun e w' => if RecM.right n = true then ∃ al cl, e = .returned (.tuple #[.slice al (notePages n).length cl, errL 0]) /\ Own.St w.heap.size w w' [AGrid 37 113 byteV (.slice al (notePages n).length cl) (notePages n)] else e = .returned (.tuple #[.slice none 0 0, errL 1]) /\ Below w.heap.size w w' := by
 obtain ⟨cs, hcs⟩ : ∃ cs, cs = Rec.ntC n (.slice ao len cap) := ⟨_, rfl⟩
 show Calls Tryz.prog _ #[.agg (Rec.ntC n (.slice ao len cap)).toArray] w _
 have hbx := (Own.St.start w).boxV 54 cs
 obtain ⟨W1, hW1⟩ : ∃ W, W = w.alloc (.cells cs.toArray 54) := ⟨_, rfl⟩
 rw [<- hW1] at hbx
 have CSL : Hid (cs.length = 37) := by show _ = 37; rw [hcs]; exact Rec.ntC_len _ _ f.sum
 have RN : Hid (W1.rangeAt w.heap.size 0 cs) := hbx.boxRange 0 rfl
 have CL := Rec.lLay_any n f ao len cap W1 (hg.later hbx.below) hb
 rw [<- hcs] at CL ⊢
 have HB := Lib.hid hbx
 have HW1 := Lib.hid hW1
 by_cases hr : RecM.right n = true
 · rw [Rec.lay_of hr] at CL
   obtain ⟨D, hD⟩ : ∃ D, D = RecM.laid n := ⟨_, rfl⟩
   have hsm := laid_small f hr
   unfold Rec.LayDone at CL
   simp only at CL
   rw [<- hD] at CL hsm
   obtain ⟨dl, hdl⟩ : ∃ x, x = D.length := ⟨_, rfl⟩
   rw [<- hdl] at CL hsm
   obtain ⟨N, hN⟩ : ∃ N, N = (notePages n).length := ⟨_, rfl⟩
   have CS : Hid (∀ (a : Option Addr) (c : Nat) (wx : World), Given wx a dl c D -> Calls Tryz.prog 20 #[.int .u8 2, .slice a dl c] wx fun e w' => ∃ al cl, e = .returned (.tuple #[.slice al N cl, .int .i64 0]) /\ Own.St wx.heap.size wx w' [AGrid 37 113 byteV (.slice al N cl) (notePages n)]) := by
    intro a c wx h
    rw [hN]
    unfold notePages
    rw [<- hD]
    exact Pag.splitP_own 2 a dl c D wx h (by decide) (by omega)
   simp only [hr, if_true]
   rw [<- hN]
   have CL' := Lib.hid CL
   clear CL hbx hW1 hD hdl hN hsm hg hb hr hcs
   go_enter Tryz.func28, Tryz.ntmps28
   go_wp2_with (refine wpList_val rfl (Rec.load_note cs CSL.out rfl _ (b := w.heap.size) (k := 0) (by rw [<- HW1.out]; exact RN.out) rfl) ?_)
   rw [<- HW1.out]
   refine CL'.out.mono ?_
   clear CL'
   rintro e w2 ⟨a2, c2, rfl, hg2, hb2⟩
   have G2 := Lib.hid hg2
   have H2 := Lib.hid (HB.out.later hb2)
   clear hg2 hb2
   go_wp2_with (fail)
   refine (CS.out a2 c2 w2 G2.out).mono ?_
   clear CS
   rintro e w3 ⟨al, cl, rfl, h3⟩
   have H3 := Lib.hid (H2.out.adoptNew h3).only
   clear h3
   go_wp2_with (fail)
   go_ret2
   exact ⟨al, cl, rfl, H3.out⟩
 · have hr' : RecM.right n = false := by simpa using hr
   have hl : RecM.lay n = ([], 1) := by unfold RecM.lay; rw [hr']; rfl
   rw [hl] at CL
   unfold Rec.LayDone at CL
   simp only [List.length_nil] at CL
   simp only [hr', Bool.false_eq_true, if_false]
   have CL' := Lib.hid CL
   clear CL hbx hW1 hg hb hr hr' hl hcs
   go_enter Tryz.func28, Tryz.ntmps28
   go_wp2_with (refine wpList_val rfl (Rec.load_note cs CSL.out rfl _ (b := w.heap.size) (k := 0) (by rw [<- HW1.out]; exact RN.out) rfl) ?_)
   rw [<- HW1.out]
   refine CL'.out.mono ?_
   clear CL'
   rintro e w2 ⟨a2, c2, rfl, _, hb2⟩
   have H2 := Lib.hid (HB.out.later hb2)
   clear hb2
   go_wp2_with (fail)
   go_ret2
   exact ⟨rfl, H2.out.below⟩
end Lga
end Go.Proofs.YtahjjcmeocibbaaGreatDoor
end
section
namespace Go.LogM
def blk (f : List UInt8) (c : UInt8) : List UInt8 := f.take 256 ++ (List.replicate 256 c).drop (min 256 f.length)
theorem blk_len (f : List UInt8) (c : UInt8) : (blk f c).length = 256 := by
 unfold blk
 rw [List.length_append, List.length_take, List.length_drop, List.length_replicate]
 omega
end Go.LogM
namespace Go.Proofs.YtahjjcmeocibbaaGreatDoor
open Go.RowKit Go.Own
namespace Byt
theorem wpList_ab_copyM {B : Nat} {w0 w : World} {ops : Array Oper} {rest : List Oper} {o : Oper} {a : Act} {Q : Exit -> Act -> World -> Prop} {Ps : List Asn} (hgd : o.guard = none) (d s : Operand)
 (ho : o.op = .call { callee := .builtin .copy, args := #[d, s], argTypes := #[37, 37] }) (H : Own.St B w0 w Ps) (i : Nat) {g n cap : Nat} {l : List UInt8} (hi : Ps[i]? = some (AB (some ⟨g, 0, none⟩) n cap l)) (hd : a.eval d = .slice (some ⟨g, 0, none⟩) n cap)
 (bo : Option Addr) (m c k : Nat) (news : List UInt8) (hx : a.eval s = .slice bo m c) (hk : k = min n m) (hl : news.length = k) (hno : bo = none -> m = 0)
 (hc : ∀ a, bo = some a -> ∀ j u, (news.map byteV)[j]? = some u -> w.cell? (a.add j) = some u)
 (h : ∀ w', Own.St B w0 w' (Ps.set i (AB (some ⟨g, 0, none⟩) n cap (news ++ l.drop k))) -> wpList Tryz.prog ops Q rest (a.put o.dst (goInt k)) w') : wpList Tryz.prog ops Q (o :: rest) a w := by
 refine wpList_plain hgd fun K hK => ?_
 have hset := ab_setCells i news 0 w Ps l H hi (by omega)
 rw [List.take_zero, List.nil_append, Nat.zero_add, hl] at hset
 have hlen := (ab_len H i hi).1
 have hcells : ∀ j, j < (news.map byteV).length -> (w.cell? ⟨g, 0 + j, none⟩).isSome = true /\ w.frozen? ⟨g, 0 + j, none⟩ = false := by
  intro j hj
  rw [List.length_map] at hj
  obtain ⟨g', hg', h1, h2, _⟩ := ab_byte H i hi j (by omega)
  cases hg'
  rw [Nat.zero_add]
  exact ⟨by rw [h1]; rfl, h2⟩
 have hrun : (Builtin.copy_ #[37, 37] o.type #[.slice (some ⟨g, 0, none⟩) n cap, .slice bo m c]).run Tryz.prog w = .ok (goInt k) (w.setCells g 0 (news.map byteV)) := by
  cases bo with
  | none =>
   have hm := hno rfl
   subst hm
   obtain rfl : k = 0 := by omega
   obtain rfl : news = [] := List.eq_nil_of_length_eq_zero hl
   exact run_copy_none (P := Tryz.prog) w 37 37 o.type 5 _ none n cap 0 c Tryz.underlying37 info8 (Nat.min_eq_left (Nat.zero_le _))
  | some ad =>
   have := run_copy_cells (P := Tryz.prog) w 37 37 o.type 5 g 0 n cap ad m c (news.map byteV) Tryz.underlying37 info8 (by rw [List.length_map, hl, hk, Nat.min_comm]) (hc ad rfl) (fun j hj => (hcells j hj).1) (fun j hj => (hcells j hj).2) (byteV_one _)
   rw [List.length_map, hl] at this
   exact this
 unfold Oper.wp
 simp [execOp, ho, resolve, invoke, builtin, hd, hx, hrun, Result.andThen]
 exact hK _ _ (h _ hset)
end Byt
namespace Top
open Go.LogM Byt
set_option maxRecDepth 6000 in
set_option maxHeartbeats 4000000 in
theorem block_any {B : Nat} {w0 w : World} {Ps : List Asn} (H : Own.St B w0 w Ps) (ao : Option Addr) (n cap : Nat) (f : List UInt8) (c : UInt8) (hV : View w (fun k => k < B) ao f) (hn : f.length = n) (hno : ao = none -> n = 0) :
 Calls Tryz.prog 9 #[.slice ao n cap, .int .u8 (c.toNat : Int)] w fun e w' => ∃ g, e = .returned (.slice (some ⟨g, 0, none⟩) 256 256) /\ Own.St B w0 w' (AB (some ⟨g, 0, none⟩) 256 256 (blk f c) :: Ps) := by
 have HV : Hid (∀ wx Qs, Own.St B w0 wx Qs -> View wx (fun k => k < B) ao f) := fun wx Qs h => View.same hV (Below.both H.below h.below)
 have HN := Lib.hid hn
 have HNO := Lib.hid hno
 obtain ⟨cn, hcn⟩ : ∃ x, x = c.toNat := ⟨_, rfl⟩
 have hc8 : cn <= 255 := by have := c.toNat_lt; omega
 rw [<- hcn]
 have HCN := Lib.hid hcn
 obtain ⟨k, hk⟩ : ∃ k, k = min 256 n := ⟨_, rfl⟩
 have HK := Lib.hid hk
 clear hcn hV hn hno hk
 go_enter Tryz.func9, Tryz.ntmps9
 obtain ⟨w2, hmk, hst⟩ := ab_make H .i64 .i64 256 (by omega)
 obtain ⟨g, hg⟩ : ∃ g, g = w.heap.size := ⟨_, rfl⟩
 rw [<- hg] at hmk hst
 have hmk2 : (Instr.makeSlice 37 (.int .i64 256) (.int .i64 256)).run Tryz.prog w = .ok (.slice (some ⟨g, 0, none⟩) 256 256) w2 := hmk
 have HST := Lib.hid hst
 clear hst hg H hmk
 go_wp2
 clear hmk2
 go_loopw [10] (fun v wr => ∃ i : Nat, i <= 256 /\ v = .int .i64 (i : Int) /\ Own.St B w0 wr (AB (some ⟨g, 0, none⟩) 256 256 (ones c 256 i) :: Ps)) (fun v _ => 256 - (intOf v).toNat)
 case atStart => exact ⟨0, Nat.zero_le _, rfl, by rw [ones_zero]; exact HST.out⟩
 case round =>
  obtain ⟨i, hi256, rfl, H⟩ := hrel
  have H := Lib.hid H
  clear HST
  by_cases hi : (i : Int) < 256
  · have hin : i < 256 := by omega
    obtain ⟨g', hg', cb, fb, hput⟩ := ab_byte H.out 0 rfl i hin
    cases hg'
    have PUT : Hid (Own.St B w0 (wr.setCell ⟨g, i, none⟩ (.int .u8 (cn : Int))) (AB (some ⟨g, 0, none⟩) 256 256 (ones c 256 (i + 1)) :: Ps)) := by
     have h := hput c
     simp only [List.set_cons_zero] at h
     rw [ones_set c 256 i hin] at h
     rw [HCN.out]
     exact h
    clear hput H
    go_wp2
    go_roundw
    case rel => exact ⟨i + 1, by omega, by go_num, PUT.out⟩
    case measure => simp [intOf]; omega
  · have H2 : Hid (Own.St B w0 wr (AB (some ⟨g, 0, none⟩) 256 256 (List.replicate 256 c) :: Ps)) := by
     have h := H.out
     rw [show i = 256 by omega, ones_all] at h
     exact h
    have HKL : Hid ((f.take 256).length = k) := by show _ = k; rw [List.length_take, HK.out, HN.out]
    have HC := Lib.hid (vcells (vtake (HV.out _ _ H2.out) 256))
    clear H hi256
    go_wp2_with (refine wpList_ab_copyM rfl (.tmp 18) (.tmp 19) rfl H2.out 0 rfl rfl ao n cap k (f.take 256) rfl HK.out HKL.out HNO.out HC.out ?_; intro w7 h; simp only [List.set_cons_zero] at h; have H7 := Lib.hid h; clear h)
    go_ret
    refine ⟨g, rfl, ?_⟩
    have h := H7.out
    rw [HK.out] at h
    unfold blk
    rw [HN.out]
    exact h
def nT : RecM.Nte := ⟨2, 5, 9, RecM.zsum, 0, []⟩
theorem nT_fits : RecM.Fits nT := ⟨by decide, by decide, rfl, by decide⟩
theorem nT_right : RecM.right nT = true := by kernel_rfl
theorem nT_len : (RecM.laid nT).length = 13 := by rw [RecM.laid_len nT_fits]; kernel_rfl
theorem built_nT : Tryz.prog.built 54 [(0, .int .u8 2), (1, .int .u32 5), (2, .int .u64 9)] = some (Rec.ntC nT Rec.nilV).toArray := by kernel_rfl
set_option maxRecDepth 6000 in
set_option maxHeartbeats 8000000 in
theorem noted_any (w : World) : Calls Tryz.prog 4 #[] w fun e w' => e = .returned (.bool true) /\ Below w.heap.size w w' := by
 obtain ⟨cs, hcs⟩ : ∃ cs, cs = Rec.ntC nT Rec.nilV := ⟨_, rfl⟩
 obtain ⟨D, hD⟩ : ∃ D, D = RecM.laid nT := ⟨_, rfl⟩
 have hDl : D.length = 13 := by rw [hD]; exact nT_len
 obtain ⟨L, hL⟩ : ∃ L, L = PagM.pages 2 D := ⟨_, rfl⟩
 have hLl : L.length = 1 := by rw [hL, PagM.pages_len, hDl]; rfl
 have BN : Hid (Tryz.prog.built 54 [(0, .int .u8 2), (1, .int .u32 5), (2, .int .u64 9)] = some cs.toArray) := by rw [hcs]; exact built_nT
 have C1 : Hid (Calls Tryz.prog 19 #[.agg cs.toArray] w fun e w' => ∃ a c, e = .returned (.tuple #[.slice a 13 c, .int .i64 0]) /\ Given w' a 13 c D /\ Below w.heap.size w w') := by
  have h := Rec.lLay_any nT nT_fits none 0 0 w ⟨.inl rfl, rfl, ⟨Nat.le_refl _, Nat.zero_le _⟩, fun _ => rfl⟩ (by decide)
  rw [Rec.lay_of nT_right, <- hD] at h
  unfold Rec.LayDone at h
  simp only [hDl] at h
  rw [hcs]
  exact h
 have C2 : Hid (∀ (wx : World) a c, Given wx a 13 c D -> Calls Tryz.prog 20 #[.int .u8 2, .slice a 13 c] wx fun e w' => ∃ al cl, e = .returned (.tuple #[.slice al 1 cl, .int .i64 0]) /\ GivenL w' al 1 cl L /\ Below wx.heap.size wx w') := fun wx a c hg => by
  have h := Pag.splitP_any 2 a 13 c D wx hg (by decide)
  have e : PagM.split 2 D = (L, 0) := by
   unfold PagM.split PagM.splitE
   rw [hL, if_pos]
   rw [if_neg (by decide), if_neg (by rw [hDl]; decide)]
  rw [e] at h
  unfold Pag.SplitDone at h
  simp only [hLl] at h
  exact h
 have hjn : PagM.join L = ((2, D, 1), 0) := by
  have h := PagM.join_split 2 D (by decide) (by rw [hDl]; decide) []
  rw [List.append_nil, <- hL, hLl] at h
  exact h
 have h128 : ∀ p ∈ L, p.length <= 1000000 := fun p hp => by
  have h := (notePages_page nT p (by unfold notePages; rw [<- hD, <- hL]; exact hp)).2
  omega
 have C3 : Hid (∀ (wx : World) al cl, GivenL wx al 1 cl L -> Calls Tryz.prog 21 #[.slice al 1 cl] wx fun e w' => ∃ a c, e = .returned (.tuple #[.int .u8 2, .slice a 13 c, .int .i64 1, .int .i64 0]) /\ Given w' a 13 c D /\ Below wx.heap.size wx w') := fun wx al cl hg => by
  have h := Pag.joinP_any al 1 cl L wx hg (by decide) h128
  rw [hjn] at h
  unfold Pag.JoinDone at h
  simp only [hDl] at h
  exact h
 have htk : RecM.take D = (nT, 0) := by rw [hD]; exact RecM.take_laid nT_fits nT_right
 have C4 : Hid (∀ (wx : World) a c, Given wx a 13 c D -> Calls Tryz.prog 22 #[.slice a 13 c] wx fun e w' => ∃ (c9 : List Value) (a9 : Option Addr) (k9 : Nat), c9 = Rec.ntC nT (.slice a9 0 k9) /\ e = .returned (.tuple #[.agg c9.toArray, .int .i64 0]) /\ Below wx.heap.size wx w') := fun wx a c hg => by
  have h := Rec.lTake_any a 13 c D wx hg (by decide)
  rw [htk] at h
  exact h.mono fun e w' ⟨a9, k9, h1, _, _, h4⟩ => ⟨_, a9, k9, rfl, h1, h4⟩
 clear hcs hD hDl hL hLl hjn h128 htk
 go_enter Tryz.func4, Tryz.ntmps4
 go_wp2_with (refine Own.wpList_built rfl 54 #[(0, .const (.int .u8 2)), (1, .const (.int .u32 5)), (2, .const (.int .u64 9))] rfl cs.toArray ?_ ?_; · (simp only [List.map_toArray, List.map_cons, List.map_nil, List.toList_toArray]; exact BN.out))
 refine C1.out.mono ?_
 clear C1
 rintro e w1 ⟨a1, c1, rfl, hg1, hb1⟩
 have G1 := Lib.hid hg1
 have HB1 := Lib.hid hb1
 clear hg1 hb1
 go_wp2_with (fail)
 refine (C2.out _ _ _ G1.out).mono ?_
 clear C2 G1
 rintro e w2 ⟨al, cl, rfl, hg2, hb2⟩
 have G2 := Lib.hid hg2
 have HB2 := Lib.hid (HB1.out.trans (hb2.mono HB1.out.size))
 clear hg2 hb2 HB1
 go_wp2_with (fail)
 refine (C3.out _ _ _ G2.out).mono ?_
 clear C3 G2
 rintro e w3 ⟨a3, c3, rfl, hg3, hb3⟩
 have G3 := Lib.hid hg3
 have HB3 := Lib.hid (HB2.out.trans (hb3.mono HB2.out.size))
 clear hg3 hb3 HB2
 go_wp2_with (fail)
 refine (C4.out _ _ _ G3.out).mono ?_
 clear C4 G3
 rintro e w4 ⟨c9, a9, k9, hc9, rfl, hb4⟩
 have H4 := Lib.hid ((Own.St.start w).later (HB3.out.trans (hb4.mono HB3.out.size)))
 have CSL : Hid (c9.length = 37) := by show _ = 37; rw [hc9]; exact Rec.ntC_len _ _ rfl
 have CS1 : Hid (∀ v ∈ c9, v.oneCell' = true) := by rw [hc9]; exact Rec.ntC_one rfl
 have K1 : Hid (c9[1]? = some (.int .u32 5)) := by rw [hc9]; exact rfl
 have K2 : Hid (c9[2]? = some (.int .u64 9)) := by rw [hc9]; exact rfl
 clear hc9 hb4 HB3
 go_wp2_with (refine wpList_box2 Lga.boxy_note rfl rfl rfl (.tmp 9) (.tmp 31) rfl rfl c9 (fun _ => rfl) (fun _ => rfl) CSL.out CS1.out H4.out ?_; intro b9 w5 h; have H5 := Lib.hid h; have d1 := (h.cellV 0 rfl 1 K1.out).1; have d2 := (h.cellV 0 rfl 2 K2.out).1; clear h)
 go_ret
 exact ⟨rfl, H5.out.below⟩
end Top
end Go.Proofs.YtahjjcmeocibbaaGreatDoor
end
section
namespace Go.Proofs.YtahjjcmeocibbaaGreatDoor
open Go.RowKit Go.Own
namespace Kec
open Go.KecM
def u64V (w : W) : Value := .int .u64 (w.toNat : Int)
theorem lf_lt : ∀ r : Fin 256, lf r.val < 256 := by decide +kernel
theorem lfs_lt (t : Nat) : lfs t < 256 := by
 induction t with
 | zero => decide
 | succ t ih => exact lf_lt ⟨lfs t, ih⟩
theorem wrap_u64' (n : Int) : IntKind.u64.wrap n = n % 18446744073709551616 := by simp [IntKind.wrap, IntKind.bits, IntKind.signed]
theorem turn_eq (w : W) (n : Nat) (hn : n < 64) : bits .or .u64 (IntKind.u64.wrap ((w.toNat : Int) * 2 ^ n)) ((w.toNat : Int) / 2 ^ (64 - n)) = ((rot w n).toNat : Int) := by
 have hw := w.isLt
 have h1 : w.toNat * 2 ^ n % 18446744073709551616 < 18446744073709551616 := Nat.mod_lt _ (by decide)
 have h2 : w.toNat / 2 ^ (64 - n) < 18446744073709551616 := Nat.lt_of_le_of_lt (Nat.div_le_self _ _) hw
 have e := u64_or_nat _ _ h1 h2
 have e1 : ((w.toNat * 2 ^ n % 18446744073709551616 : Nat) : Int) = (w.toNat : Int) * 2 ^ n % 18446744073709551616 := by simp
 have e2 : ((w.toNat / 2 ^ (64 - n) : Nat) : Int) = (w.toNat : Int) / 2 ^ (64 - n) := by simp
 rw [e1, e2] at e
 rw [wrap_u64', e]
 unfold rot
 rw [BitVec.toNat_or, BitVec.toNat_shiftLeft, BitVec.toNat_ushiftRight, Nat.shiftLeft_eq, Nat.shiftRight_eq_div_pow]
def markTo (r : Nat) : Nat -> Nat
 | 0 => 0
 | j + 1 => markTo r j + cbit ((j + 7 * r) % 255) * 2 ^ (2 ^ j - 1)
theorem sum_to (r n : Nat) : ((List.range n).map fun j => cbit ((j + 7 * r) % 255) * 2 ^ (2 ^ j - 1)).sum = markTo r n := by
 induction n with
 | zero => rfl
 | succ n ih => rw [List.range_succ, List.map_append, List.sum_append, ih]; simp [markTo]
theorem kmark_to (round : Nat) : kmark round = markTo (round % 255) 7 := sum_to _ 7
theorem cbit_le (t : Nat) : cbit t <= 1 := by unfold cbit; omega
theorem markTo_lt (r j : Nat) (hj : j <= 7) : markTo r j < 2 ^ (2 ^ j - 1) := by
 induction j with
 | zero => simp [markTo]
 | succ j ih =>
  have h1 := ih (by omega)
  have h2 := cbit_le ((j + 7 * r) % 255)
  have h3 : cbit ((j + 7 * r) % 255) * 2 ^ (2 ^ j - 1) <= 2 ^ (2 ^ j - 1) := by
   have := Nat.mul_le_mul_right (2 ^ (2 ^ j - 1)) h2
   simpa using this
  have h4 : 2 ^ (2 ^ j - 1) + 2 ^ (2 ^ j - 1) <= 2 ^ (2 ^ (j + 1) - 1) := by
   have hp : 0 < 2 ^ j := Nat.pow_pos (by decide)
   rw [<- Nat.two_mul, <- Nat.pow_succ']
   exact Nat.pow_le_pow_right (by decide) (by rw [Nat.pow_succ]; omega)
  simp only [markTo]
  omega
theorem markTo_7 (r : Nat) : markTo r 7 < 18446744073709551616 := by
 have h := markTo_lt r 6 (by omega)
 have h2 := cbit_le ((6 + 7 * r) % 255)
 have e : markTo r 7 = markTo r 6 + cbit ((6 + 7 * r) % 255) * 2 ^ (2 ^ 6 - 1) := rfl
 rw [e]
 have h3 : cbit ((6 + 7 * r) % 255) * 2 ^ (2 ^ 6 - 1) <= 1 * 2 ^ (2 ^ 6 - 1) := Nat.mul_le_mul_right _ h2
 have h4 : (2 : Nat) ^ (2 ^ 6 - 1) = 9223372036854775808 := by decide
 rw [h4] at h h3 ⊢
 omega
theorem markTo_64 (r j : Nat) (hj : j <= 7) : markTo r j < 18446744073709551616 := by
 by_cases h : j = 7
 · rw [h]; exact markTo_7 r
 · have h1 := markTo_lt r j hj
   have h2 : 2 ^ (2 ^ j - 1) <= 2 ^ (2 ^ 6 - 1) := Nat.pow_le_pow_right (by decide) (by
    have := Nat.pow_le_pow_right (show 2 > 0 by decide) (show j <= 6 by omega)
    omega)
   have h3 : (2 : Nat) ^ (2 ^ 6 - 1) = 9223372036854775808 := by decide
   omega
def markOf (round : Int) : W := if round < 0 then 0 else markW round.toNat
end Kec
end Go.Proofs.YtahjjcmeocibbaaGreatDoor
end
section
namespace Go.KecM
def fill (N : Nat) (ord : Nat -> Nat) (f : Nat -> W) (n : Nat) : List W := (List.range N).map fun i => if ord i < n then f i else 0
theorem fill_len (N : Nat) (ord : Nat -> Nat) (f : Nat -> W) (n : Nat) : (fill N ord f n).length = N := by simp [fill]
theorem fill_zero (N : Nat) (ord : Nat -> Nat) (f : Nat -> W) : fill N ord f 0 = List.replicate N 0 := by
 apply List.ext_getElem
 · simp [fill]
 · intro i h1 h2; simp [fill]
theorem fill_all (N : Nat) (ord : Nat -> Nat) (f : Nat -> W) (M : Nat) (h : ∀ i, i < N -> ord i < M) : fill N ord f M = (List.range N).map f := by
 apply List.ext_getElem
 · simp [fill]
 · intro i h1 h2
   have hi : i < N := by simpa [fill] using h1
   simp [fill, h i hi]
theorem fill_set (N : Nat) (ord : Nat -> Nat) (f : Nat -> W) (n p : Nat) (h1 : ord p = n) (h2 : ∀ i, i < N -> ord i = n -> i = p) : (fill N ord f n).set p (f p) = fill N ord f (n + 1) := by
 apply List.ext_getElem
 · simp [fill]
 · intro i g1 g2
   have hi : i < N := by simpa [fill] using g2
   by_cases hip : i = p
   · subst hip
     simp [fill, h1]
   · rw [List.getElem_set_ne (Ne.symm hip)]
     have : ord i ≠ n := fun h => hip (h2 i hi h)
     simp only [fill, List.getElem_map, List.getElem_range]
     by_cases h : ord i < n
     · rw [if_pos h, if_pos (by omega)]
     · rw [if_neg h, if_neg (by omega)]
def ord2 (i : Nat) : Nat := 5 * ((i % 5 + 3 * (i / 5)) % 5) + i % 5
theorem place2 : ∀ x y : Fin 5, ord2 (y.val + 5 * ((2 * x.val + 3 * y.val) % 5)) = 5 * x.val + y.val /\ ∀ i : Fin 25, ord2 i.val = 5 * x.val + y.val -> i.val = y.val + 5 * ((2 * x.val + 3 * y.val) % 5) := by decide +kernel
theorem all2 : ∀ i : Fin 25, ord2 i.val < 25 := by decide
def ord3 (i : Nat) : Nat := 5 * (i % 5) + i / 5
def fin3 (s : St) (i : Nat) : W := at' s (i % 5) (i / 5) ^^^ (at' s (i % 5 + 2) (i / 5) &&& ~~~ (at' s (i % 5 + 1) (i / 5)))
theorem theta_at (s : St) (x y : Nat) (hx : x < 5) (hy : y < 5) : at' (theta s) x y = at' s x y ^^^ par s (x + 4) ^^^ rot (par s (x + 1)) 1 := by
 unfold theta; rw [mk_at, Nat.mod_eq_of_lt hx, Nat.mod_eq_of_lt hy]
theorem par_mod (s : St) (x : Nat) : par s (x % 5) = par s x := by unfold par at'; rw [Nat.mod_mod]
theorem at_get (s : St) (x y : Nat) (hx : x < 5) (hy : y < 5) : s.getD (x + 5 * y) 0 = at' s x y := by unfold at'; rw [Nat.mod_eq_of_lt hx, Nat.mod_eq_of_lt hy]
end Go.KecM
end
section
namespace Go.Proofs.YtahjjcmeocibbaaGreatDoor
open Go.RowKit Go.Own
namespace Kec
open Go.KecM
def A64 (b : Nat) (t : TypeId) (ws : List W) : Asn := AVals b t (ws.map u64V)
theorem A64.cell {B : Nat} {w0 w : World} {Ps : List Asn} {b : Nat} {t : TypeId} {ws : List W} (h : Own.St B w0 w Ps) (i : Nat) (hi : Ps[i]? = some (A64 b t ws)) (j : Nat) (hj : j < ws.length) {v : W} (hv : ws.getD j 0 = v) : w.cell? ⟨b, j, none⟩ = some (.int .u64 (v.toNat : Int)) /\ w.frozen? ⟨b, j, none⟩ = false :=
 h.cellV i hi j (by simp [u64V, hj, <- hv])
theorem A64.store {B : Nat} {w0 w : World} {Ps : List Asn} {b : Nat} {t : TypeId} {ws : List W} (h : Own.St B w0 w Ps) (i : Nat) (hi : Ps[i]? = some (A64 b t ws)) (j : Nat) (v : W) : Own.St B w0 (w.setCell ⟨b, j, none⟩ (.int .u64 (v.toNat : Int))) (Ps.set i (A64 b t (ws.set j v))) := by
 have := h.storeV i hi j (u64V v)
 unfold A64
 rw [List.map_set]
 exact this
theorem A64.box {B : Nat} {w0 w : World} {Ps : List Asn} (h : Own.St B w0 w Ps) (t : TypeId) (ws : List W) : Own.St B w0 (w.alloc (.cells (ws.map u64V).toArray t)) (A64 w.heap.size t ws :: Ps) := h.boxV t _
theorem info_lanes (ws : List W) (h : ws.length = 25) : (Tryz.prog.info? 129).map (·.size) = some (ws.map u64V).toArray.size := by
 have e : (ws.map u64V).toArray.size = 25 := by simp [h]
 have h0 : (Tryz.prog.info? 129).map (fun i => i.size) = some 25 := by kernel_rfl
 rw [e]
 exact h0
theorem one_cells (ws : List W) : (ws.map u64V).toArray.all (·.oneCell') = true :=
 all_oneCell_toArray (fun v hv => by obtain ⟨x, _, rfl⟩ := List.mem_map.1 hv; rfl)
theorem A64.row {B : Nat} {w0 w : World} {Ps : List Asn} {b : Nat} {t : TypeId} {ws : List W} (h : Own.St B w0 w Ps) (i : Nat) (hi : Ps[i]? = some (A64 b t ws)) : w.heap[b]? = some (.cells (ws.map u64V).toArray t (0, 0)) := h.rowV i hi
theorem A64.there {B : Nat} {w0 w : World} {Ps : List Asn} {b : Nat} {t : TypeId} {ws : List W} (h : Own.St B w0 w Ps) (i : Nat) (hi : Ps[i]? = some (A64 b t ws)) (rs : List W) (hl : rs.length = ws.length) : w.there b 0 (rs.map u64V).toArray.size :=
 h.thereV i hi (by simp [hl])
theorem A64.setAll {B : Nat} {w0 w : World} {Ps : List Asn} {b : Nat} {t : TypeId} {ws : List W} (h : Own.St B w0 w Ps) (i : Nat) (hi : Ps[i]? = some (A64 b t ws)) (rs : List W) (hl : rs.length = ws.length) : Own.St B w0 (w.setCells b 0 (rs.map u64V).toArray.toList) (Ps.set i (A64 b t rs)) := by
 have := Own.St.setAll i (rs.map u64V) 0 w Ps (ws.map u64V) h hi (by simp [hl])
 simpa [A64] using this
theorem cell_later {W w : World} {a : Addr} {v : Value} (h : W.cell? a = some v) (hb : Below W.heap.size W w) : w.cell? a = some v := by
 rw [hb.cell (World.block_lt_of_cell? W a h)]; exact h
theorem idx5 {o : Oper} {x y : Tmp} (ho : o.op = .indexAddr 211 (.tmp x) (.tmp y)) (k : Nat) (hk : k < 5) (b : Nat) : ∀ (ρ : Operand -> Value) w, ρ (.tmp x) = .pointer (some ⟨b, 0, none⟩) -> ρ (.tmp y) = .int .i64 k -> (execOp ρ o).run Tryz.prog w = .ok (.value (.pointer (some ⟨b, k, none⟩))) w := by
 intro ρ w h0 h1
 have hk' : (k : Int) < 5 := by omega
 simp [execOp, ho, h0, h1, go_sem, hk']
theorem idx25 {o : Oper} {x y : Tmp} (ho : o.op = .indexAddr 129 (.tmp x) (.tmp y)) (k : Nat) (hk : k < 25) (b : Nat) : ∀ (ρ : Operand -> Value) w, ρ (.tmp x) = .pointer (some ⟨b, 0, none⟩) -> ρ (.tmp y) = .int .i64 k -> (execOp ρ o).run Tryz.prog w = .ok (.value (.pointer (some ⟨b, k, none⟩))) w := by
 intro ρ w h0 h1
 have hk' : (k : Int) < 25 := by omega
 simp [execOp, ho, h0, h1, go_sem, hk']
theorem load64 {o : Oper} {x : Tmp} (ho : o.op = .load 45 (.tmp x)) {a : Addr} {v : W} (ρ : Operand -> Value) {w : World} (hc : w.cell? a = some (.int .u64 (v.toNat : Int))) (h0 : ρ (.tmp x) = .pointer (some a)) : (execOp ρ o).run Tryz.prog w = .ok (.value (.int .u64 (v.toNat : Int))) w := by
 simp [execOp, ho, h0, go_sem, hc]
theorem add_lit (c : Nat) {o : Oper} {t : Tmp} (ho : o.op = .binOp .add 3 (.tmp t) (.const (.int .i64 (c : Int))) 3) (k : Nat) (hk : k <= 1000) (hcl : c <= 1000) : ∀ (ρ : Operand -> Value) w, ρ (.tmp t) = .int .i64 k -> (∀ c, ρ (.const c) = c) -> (execOp ρ o).run Tryz.prog w = .ok (.value (.int .i64 ((k + c : Nat) : Int))) w := by
 intro ρ w h0 hc
 have e : IntKind.i64.wrap ((k : Int) + (c : Int)) = (k : Int) + (c : Int) := IntWalk.i64_in _ (by omega)
 simp [execOp, ho, h0, hc, go_sem, e]
end Kec
end Go.Proofs.YtahjjcmeocibbaaGreatDoor
end
section
namespace Go.KecM
def mixd (N : Nat) (ord : Nat -> Nat) (f g : Nat -> W) (n : Nat) : List W := (List.range N).map fun i => if ord i < n then f i else g i
theorem mixd_len (N : Nat) (ord : Nat -> Nat) (f g : Nat -> W) (n : Nat) : (mixd N ord f g n).length = N := by simp [mixd]
theorem mixd_get (N : Nat) (ord : Nat -> Nat) (f g : Nat -> W) (n i : Nat) (hi : i < N) : (mixd N ord f g n).getD i 0 = if ord i < n then f i else g i := by simp [mixd, hi]
theorem mixd_zero (N : Nat) (ord : Nat -> Nat) (f : Nat -> W) (s : List W) (hs : s.length = N) : mixd N ord f (fun i => s.getD i 0) 0 = s := by
 apply List.ext_getElem
 · simp [mixd, hs]
 · intro i h1 h2; simp [mixd, h2]
theorem mixd_all (N : Nat) (ord : Nat -> Nat) (f g : Nat -> W) (M : Nat) (h : ∀ i, i < N -> ord i < M) : mixd N ord f g M = (List.range N).map f := by
 apply List.ext_getElem
 · simp [mixd]
 · intro i h1 h2
   have hi : i < N := by simpa [mixd] using h1
   simp [mixd, h i hi]
theorem mixd_set (N : Nat) (ord : Nat -> Nat) (f g : Nat -> W) (n p : Nat) (h1 : ord p = n) (h2 : ∀ i, i < N -> ord i = n -> i = p) : (mixd N ord f g n).set p (f p) = mixd N ord f g (n + 1) := by
 apply List.ext_getElem
 · simp [mixd]
 · intro i g1 g2
   have hi : i < N := by simpa [mixd] using g2
   by_cases hip : i = p
   · subst hip
     simp [mixd, h1]
   · rw [List.getElem_set_ne (Ne.symm hip)]
     have : ord i ≠ n := fun h => hip (h2 i hi h)
     simp only [mixd, List.getElem_map, List.getElem_range]
     by_cases h : ord i < n
     · rw [if_pos h, if_pos (by omega)]
     · rw [if_neg h, if_neg (by omega)]
def pacc (s : St) : Nat -> List W
 | 0 => List.replicate 5 0
 | i + 1 => (pacc s i).set (i % 5) ((pacc s i).getD (i % 5) 0 ^^^ s.getD i 0)
theorem pacc_len (s : St) (n : Nat) : (pacc s n).length = 5 := by
 induction n with
 | zero => rfl
 | succ n ih => simp [pacc, ih]
theorem pacc_all (s : St) : pacc s 25 = (List.range 5).map (par s) := by
 simp [pacc, par, at', List.range_succ, List.replicate]
theorem pacc_get (s : St) (x : Nat) (hx : x < 5) : (pacc s 25).getD x 0 = par s x := by rw [pacc_all]; simp [hx]
def thst (s : St) (n : Nat) : List W := mixd 25 ord3 (fun i => at' (theta s) (i % 5) (i / 5)) (fun i => s.getD i 0) n
theorem thst_zero (s : St) (hs : s.length = 25) : thst s 0 = s := mixd_zero _ _ _ _ hs
theorem thst_len (s : St) (n : Nat) : (thst s n).length = 25 := mixd_len _ _ _ _ _
theorem thst_get (s : St) (x y : Nat) (hx : x < 5) (hy : y < 5) : (thst s (5 * x + y)).getD (x + 5 * y) 0 = at' s x y := by
 unfold thst
 rw [mixd_get _ _ _ _ _ _ (by omega), if_neg (by unfold ord3; omega), at_get s x y hx hy]
theorem thst_set (s : St) (x y : Nat) (hx : x < 5) (hy : y < 5) : (thst s (5 * x + y)).set (x + 5 * y) (at' s x y ^^^ (par s (x + 4) ^^^ rot (par s (x + 1)) 1)) = thst s (5 * x + (y + 1)) := by
 have hf : (fun i => at' (theta s) (i % 5) (i / 5)) (x + 5 * y) = at' s x y ^^^ (par s (x + 4) ^^^ rot (par s (x + 1)) 1) := by
  show at' (theta s) ((x + 5 * y) % 5) ((x + 5 * y) / 5) = _
  rw [show (x + 5 * y) % 5 = x by omega, show (x + 5 * y) / 5 = y by omega, theta_at s x y hx hy, BitVec.xor_assoc]
 rw [<- hf]
 exact mixd_set 25 ord3 _ _ _ _ (by unfold ord3; omega) (fun i hi he => by unfold ord3 at he; omega)
theorem thst_all (s : St) : thst s 25 = theta s := by
 unfold thst
 rw [mixd_all 25 ord3 _ _ 25 (fun i hi => by unfold ord3; omega)]
 apply List.ext_getElem
 · simp [theta, mk]
 · intro i h1 h2
   have hi : i < 25 := by simpa using h1
   have h := mk_get (fun x y => at' s x y ^^^ par s (x + 4) ^^^ rot (par s (x + 1)) 1) i hi
   simp only [List.getElem_map, List.getElem_range]
   rw [theta_at s _ _ (Nat.mod_lt _ (by decide)) (by omega)]
   simp [theta, mk]
def rho (s : St) : St := (List.range 25).map fun i => rot (s.getD i 0) (turns.getD i 0)
def rhst (s : St) (n : Nat) : List W := mixd 25 id (fun i => rot (s.getD i 0) (turns.getD i 0)) (fun i => s.getD i 0) n
theorem rhst_zero (s : St) (hs : s.length = 25) : rhst s 0 = s := mixd_zero _ _ _ _ hs
theorem rhst_len (s : St) (n : Nat) : (rhst s n).length = 25 := mixd_len _ _ _ _ _
theorem rhst_get (s : St) (i : Nat) (hi : i < 25) : (rhst s i).getD i 0 = s.getD i 0 := by
 unfold rhst
 rw [mixd_get _ _ _ _ _ _ hi, if_neg (by simp)]
theorem rhst_set (s : St) (i : Nat) : (rhst s i).set i (rot (s.getD i 0) (turns.getD i 0)) = rhst s (i + 1) :=
 mixd_set 25 id (fun i => rot (s.getD i 0) (turns.getD i 0)) _ _ _ rfl (fun j hj he => he)
theorem rhst_all (s : St) : rhst s 25 = rho s := mixd_all 25 id _ _ 25 (fun i hi => hi)
theorem rho_len (s : St) : (rho s).length = 25 := by simp [rho]
theorem rho_at (s : St) (x y : Nat) : at' (rho s) x y = rot (at' s x y) (turn x y) := by
 have h : x % 5 + 5 * (y % 5) < 25 := by omega
 unfold at' turn rho
 simp [h]
def pim (s : St) : St := mk fun x y => at' s (x + 3 * y) x
def pist (s : St) (n : Nat) : List W := fill 25 ord2 (fun i => at' s (i % 5 + 3 * (i / 5)) (i % 5)) n
theorem pist_zero (s : St) : pist s 0 = List.replicate 25 0 := fill_zero _ _ _
theorem pist_len (s : St) (n : Nat) : (pist s n).length = 25 := fill_len _ _ _ _
theorem pist_set (s : St) (x y : Nat) (hx : x < 5) (hy : y < 5) : (pist s (5 * x + y)).set (y + 5 * ((2 * x + 3 * y) % 5)) (at' s x y) = pist s (5 * x + (y + 1)) := by
 have h := place2 ⟨x, hx⟩ ⟨y, hy⟩
 have hf : (fun i => at' s (i % 5 + 3 * (i / 5)) (i % 5)) (y + 5 * ((2 * x + 3 * y) % 5)) = at' s x y := by
  show at' s ((y + 5 * ((2 * x + 3 * y) % 5)) % 5 + 3 * ((y + 5 * ((2 * x + 3 * y) % 5)) / 5)) ((y + 5 * ((2 * x + 3 * y) % 5)) % 5) = at' s x y
  rw [show (y + 5 * ((2 * x + 3 * y) % 5)) % 5 = y by omega, show (y + 5 * ((2 * x + 3 * y) % 5)) / 5 = (2 * x + 3 * y) % 5 by omega]
  unfold at'
  rw [show (y + 3 * ((2 * x + 3 * y) % 5)) % 5 = x % 5 by omega]
 rw [<- hf]
 exact fill_set 25 ord2 _ _ _ h.1 (fun i hi he => h.2 ⟨i, hi⟩ he)
theorem pist_all (s : St) : pist s 25 = pim s := by
 unfold pist
 rw [fill_all 25 ord2 _ 25 (fun i hi => all2 ⟨i, hi⟩)]
 rfl
theorem pim_rho (s : St) : pim (rho s) = rhopi s := by
 unfold pim rhopi
 congr 1
 funext x y
 rw [rho_at]
def chst (s : St) (n : Nat) : List W := mixd 25 ord3 (fin3 s) (fun i => s.getD i 0) n
theorem chst_zero (s : St) (hs : s.length = 25) : chst s 0 = s := mixd_zero _ _ _ _ hs
theorem chst_len (s : St) (n : Nat) : (chst s n).length = 25 := mixd_len _ _ _ _ _
theorem chst_get (s : St) (x y : Nat) (hx : x < 5) (hy : y < 5) : (chst s (5 * x + y)).getD (x + 5 * y) 0 = at' s x y := by
 unfold chst
 rw [mixd_get _ _ _ _ _ _ (by omega), if_neg (by unfold ord3; omega), at_get s x y hx hy]
theorem chst_set (s : St) (x y : Nat) (hx : x < 5) (hy : y < 5) : (chst s (5 * x + y)).set (x + 5 * y) (at' s x y ^^^ (at' s (x + 2) y &&& ~~~ (at' s (x + 1) y))) = chst s (5 * x + (y + 1)) := by
 have hf : fin3 s (x + 5 * y) = at' s x y ^^^ (at' s (x + 2) y &&& ~~~ (at' s (x + 1) y)) := by
  unfold fin3
  rw [show (x + 5 * y) % 5 = x by omega, show (x + 5 * y) / 5 = y by omega]
 rw [<- hf]
 exact mixd_set 25 ord3 _ _ _ _ (by unfold ord3; omega) (fun i hi he => by unfold ord3 at he; omega)
theorem chst_all (s : St) : chst s 25 = chi s := by
 unfold chst
 rw [mixd_all 25 ord3 _ _ 25 (fun i hi => by unfold ord3; omega)]
 rfl
end Go.KecM
end
section
namespace Go.Proofs.YtahjjcmeocibbaaGreatDoor
open Go.RowKit Go.Own
namespace Kec
open Go.KecM
def Tab (w : World) : Prop := ∀ i : Nat, i < 25 -> w.cell? ⟨0, i, none⟩ = some (.int .i64 ((turns.getD i 0 : Nat) : Int))
theorem Tab.later {w w' : World} (h : Tab w) (g : Below w.heap.size w w') : Tab w' := fun i hi => cell_later (h i hi) g
theorem atK_nat (x y i : Nat) (hx : x <= 1000) (hy : y <= 1000) (hi : i = x % 5 + 5 * (y % 5)) (w : World) : Calls Tryz.prog 138 #[.int .i64 x, .int .i64 y] w fun e w' => e = .returned (.int .i64 i) /\ w = w' := by
 have HI : Hid ((x : Int) % 5 + (y : Int) % 5 * 5 = (i : Int)) := by
  show (x : Int) % 5 + (y : Int) % 5 * 5 = (i : Int)
  omega
 clear hi
 go_enter Tryz.func138, Tryz.ntmps138
 go_wp2
 go_ret
 exact ⟨by rw [<- HI.out]; rfl, rfl⟩
theorem u64_and63 (n : Nat) (hn : n < 64) : bits .and .u64 (n : Int) 63 = (n : Int) := by
 have h := u64_and_nat n 63 (by omega) (by omega)
 rw [show n &&& 63 = n % 64 from Nat.and_two_pow_sub_one_eq_mod n 6, Nat.mod_eq_of_lt hn] at h
 exact h
theorem rotK_any (x : W) (n : Nat) (hn : n < 64) (w : World) : Calls Tryz.prog 137 #[.int .u64 x.toNat, .int .i64 n] w fun e w' => e = .returned (.int .u64 (rot x n).toNat) /\ w = w' := by
 have h := turn_eq x n hn
 obtain ⟨y, hy⟩ : ∃ y, y = rot x n := ⟨_, rfl⟩
 rw [<- hy] at h ⊢
 have A63 := u64_and63 n hn
 clear hy
 go_enter Tryz.func137, Tryz.ntmps137
 go_wp2
 go_ret
 exact ⟨rfl, rfl⟩
theorem stepK_any (r : Nat) (hr : r < 256) (w : World) : Calls Tryz.prog 139 #[.int .u64 r] w fun e w' => e = .returned (.int .u64 ((lf r : Nat) : Int)) /\ w = w' := by
 by_cases h256 : 2 * r >= 256
 · have hx := u64_xor_nat (2 * r) 369 (by omega) (by omega)
   have hgo : decide ((256 : Int) <= (r : Int) * 2) = true := by simp; omega
   have HX : Hid (bits .xor .u64 ((r : Int) * 2) 369 = ((lf r : Nat) : Int)) := by
    show bits .xor .u64 ((r : Int) * 2) 369 = ((lf r : Nat) : Int)
    rw [show (r : Int) * 2 = ((2 * r : Nat) : Int) by omega]
    refine hx.trans ?_
    unfold lf
    rw [if_pos h256]
   clear hx
   go_enter Tryz.func139, Tryz.ntmps139
   go_wp2
   go_ret
   exact ⟨by rw [HX.out]; rfl, rfl⟩
 · have hgo : decide ((256 : Int) <= (r : Int) * 2) = false := by simp; omega
   have HX : Hid ((r : Int) * 2 = ((lf r : Nat) : Int)) := by
    show (r : Int) * 2 = ((lf r : Nat) : Int)
    unfold lf
    rw [if_neg h256]; omega
   go_enter Tryz.func139, Tryz.ntmps139
   go_wp2
   go_ret
   exact ⟨by rw [HX.out]; rfl, rfl⟩
theorem lfs_255 : lfs 255 = 1 := by decide +kernel
theorem lfs_per (t : Nat) : lfs (t + 255) = lfs t := by
 induction t with
 | zero => exact lfs_255
 | succ t ih =>
  rw [show t + 1 + 255 = t + 255 + 1 by omega]
  show lf (lfs (t + 255)) = lf (lfs t)
  rw [ih]
theorem lfs_mod (t : Nat) : lfs (t % 255) = lfs t := by
 have h : ∀ q r, lfs (r + 255 * q) = lfs r := by
  intro q r
  induction q with
  | zero => rfl
  | succ q ih => rw [show r + 255 * (q + 1) = r + 255 * q + 255 by omega, lfs_per, ih]
 have := h (t / 255) (t % 255)
 rw [Nat.mod_add_div] at this
 exact this.symm
theorem cbit_mod (t : Nat) : cbit (t % 255) = lfs t % 2 := by unfold cbit; rw [lfs_mod]
theorem or_add (m z e : Nat) (hm : m < 2 ^ e) : m ||| z * 2 ^ e = m + z * 2 ^ e := by
 have h := Nat.two_pow_add_eq_or_of_lt hm z
 rw [Nat.or_comm, Nat.mul_comm z, <- h, Nat.add_comm]
set_option maxHeartbeats 800000 in
theorem markK_any (round : Int) (h0 : -9223372036854775808 <= round) (h1 : round <= 9223372036854775807) (w : World) : Calls Tryz.prog 125 #[.int .i64 round] w fun e w' => e = .returned (.int .u64 (markOf round).toNat) /\ w = w' := by
 by_cases hneg : round < 0
 · have hm : markOf round = 0 := by unfold markOf; rw [if_pos hneg]
   rw [hm]
   go_enter Tryz.func125, Tryz.ntmps125
   go_wp2
   go_ret
   exact ⟨rfl, rfl⟩
 · obtain ⟨n, rfl⟩ := Int.eq_ofNat_of_zero_le (show 0 <= round by omega)
   obtain ⟨r, hr⟩ : ∃ r, r = n % 255 := ⟨_, rfl⟩
   have hri : (n : Int) % 255 = (r : Int) := by omega
   have hrl : r < 255 := by omega
   obtain ⟨x, hx⟩ : ∃ x, x = (markOf (n : Int)).toNat := ⟨_, rfl⟩
   have hx2 : x = markTo r 7 := by
    rw [hx]; unfold markOf markW
    rw [if_neg hneg, Int.toNat_natCast, BitVec.toNat_ofNat, kmark_to, <- hr]
    exact Nat.mod_eq_of_lt (markTo_7 r)
   rw [<- hx]
   have HX := Lib.hid hx2
   clear hx hx2 hr
   go_enter Tryz.func125, Tryz.ntmps125
   go_wp2
   go_loop [3, 11] (fun p i => ∃ k : Nat, k <= 7 * r /\ i = .int .i64 k /\ p = .int .u64 (lfs k)) (fun _ i => 7 * r - (intOf i).toNat)
   case atStart => exact ⟨0, by omega, rfl, rfl⟩
   case round =>
    obtain ⟨k, hk, rfl, rfl⟩ := hrel
    have hl := lfs_lt k
    obtain ⟨g, hg⟩ : ∃ g, g = lfs k := ⟨_, rfl⟩
    rw [<- hg] at hl ⊢
    have HG := Lib.hid hg
    clear hg
    by_cases hkm : (k : Int) < 7 * (r : Int)
    · have C := Lib.hid (stepK_any g hl w)
      go_wp2_with (fail)
      refine C.out.mono ?_
      rintro e w' ⟨rfl, rfl⟩
      go_wp2
      go_round
      case rel => exact ⟨k + 1, by omega, by go_num, by rw [HG.out]; rfl⟩
      case measure => simp [intOf]; omega
    · have HK : Hid (k = 7 * r) := by show k = 7 * r; omega
      clear hk
      go_wp2
      go_loop [3, 4, 16] (fun p m i => ∃ j : Nat, j <= 7 /\ i = .int .i64 j /\ m = .int .u64 (markTo r j) /\ p = .int .u64 (lfs (7 * r + j))) (fun _ _ i => 7 - (intOf i).toNat)
      case atStart => exact ⟨0, by omega, rfl, rfl, by rw [HG.out, HK.out]; rfl⟩
      case round =>
       obtain ⟨j, hj, rfl, rfl, rfl⟩ := hrel
       have hl2 := lfs_lt (7 * r + j)
       obtain ⟨q, hq⟩ : ∃ q, q = lfs (7 * r + j) := ⟨_, rfl⟩
       rw [<- hq] at hl2 ⊢
       have HQ := Lib.hid hq
       obtain ⟨m, hm⟩ : ∃ m, m = markTo r j := ⟨_, rfl⟩
       rw [<- hm]
       have HM := Lib.hid hm
       clear hm hq
       by_cases h7 : (j : Int) < 7
       · obtain ⟨p, hpd⟩ : ∃ p, p = 2 ^ j := ⟨_, rfl⟩
         have hp0 : 1 <= p := by rw [hpd]; exact Nat.pow_pos (by decide)
         have hp64 : p <= 64 := by rw [hpd]; exact Nat.pow_le_pow_right (show 2 > 0 by decide) (show j <= 6 by omega)
         have hpi : (2 : Int) ^ j = (p : Int) := by rw [hpd]; simp
         obtain ⟨e, he⟩ : ∃ e, e = p - 1 := ⟨_, rfl⟩
         have hpe : (p : Int) - 1 = (e : Int) := by omega
         have he63 : e <= 63 := by omega
         have HE : Hid (e = 2 ^ j - 1) := by show e = 2 ^ j - 1; rw [he, hpd]
         obtain ⟨z, hz⟩ : ∃ z, z = q % 2 := ⟨_, rfl⟩
         have HZ : Hid (z = cbit ((j + 7 * r) % 255)) := by
          show z = cbit ((j + 7 * r) % 255)
          rw [cbit_mod, Nat.add_comm, <- HQ.out, hz]
         have HA : Hid (bits .and .u64 (q : Int) 1 = (z : Int)) := by
          show bits .and .u64 (q : Int) 1 = (z : Int)
          have h := u64_and_nat q 1 (by omega) (by omega)
          rw [Nat.and_one_is_mod, <- hz] at h
          exact h
         have HS : Hid (bits .or .u64 (m : Int) (IntKind.u64.wrap ((z : Int) * 2 ^ e)) = (markTo r (j + 1) : Int)) := by
          show bits .or .u64 (m : Int) (IntKind.u64.wrap ((z : Int) * 2 ^ e)) = (markTo r (j + 1) : Int)
          have e1 : markTo r (j + 1) = m + z * 2 ^ e := by
           show markTo r j + cbit ((j + 7 * r) % 255) * 2 ^ (2 ^ j - 1) = _
           rw [<- HM.out, <- HZ.out, <- HE.out]
          have h2 := markTo_64 r (j + 1) (by omega)
          have h3 := markTo_lt r j (by omega)
          rw [<- HM.out, <- HE.out] at h3
          have h4 := or_add m z e h3
          rw [e1] at h2 ⊢
          have c1 : (z : Int) * 2 ^ e = ((z * 2 ^ e : Nat) : Int) := by simp
          rw [c1]
          generalize z * 2 ^ e = y at h2 h4 ⊢
          rw [IntWalk.u64_in (y : Int) (by omega), u64_or_nat _ _ (by omega) (by omega), h4]
         have C := Lib.hid (stepK_any q hl2 w)
         clear hz he hpd
         go_wp2_with (fail)
         refine C.out.mono ?_
         rintro e w' ⟨rfl, rfl⟩
         go_wp2
         go_round
         case rel => exact ⟨j + 1, by omega, by go_num, by rw [HA.out, HS.out], by rw [HQ.out]; rfl⟩
         case measure => simp [intOf]; omega
       · go_wp2
         go_ret
         exact ⟨by rw [HX.out, HM.out, show j = 7 by omega]; rfl, rfl⟩
end Kec
end Go.Proofs.YtahjjcmeocibbaaGreatDoor
end
