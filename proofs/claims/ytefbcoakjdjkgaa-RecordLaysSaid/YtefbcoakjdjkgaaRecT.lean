/- Layer 10, the document's answer: Take. -/
import Derived.Test.YtefbcoakjdjkgaaRecP
import Derived.Test.YtefbcoakjdjkgaaRecRa
import Derived.Test.YtefbcoakjdjkgaaRef1U
import Derived.Test.YtefbcoakjdjkgaaRoc
import Derived.Test.YtefbcoakjdjkgaaRes
namespace Go.Proofs.Ytefbcoakjdjkgaa
open Go.RowKit Go.Own
namespace Rec
open Go.RecM Byt
open Cod (RS ARR RefIn At)
abbrev nilV : Value := .slice none 0 0
abbrev ntV (n : Nte) (v : Value) : Value := .agg (ntC n v).toArray
/-- the objects of Take: the reader, the note, the answer -/
abbrev TS (q : Nat) (ao : Option Addr) (cap : Nat) (p : RecM.Bs) (i : Nat) (er : Int) (b5 : Nat) (n : Nte) (v : Value) (b2 : Nat) (z : List Value) (Ps : List Asn) : List Asn := ARR q ao cap p i er :: AVals b5 30 (ntC n v) :: AVals b2 30 z :: Ps
theorem built_note (k : Nat) : Try.prog.built 30 [(0, .int .u8 (k : Int))] = some (.int .u8 (k : Int) :: (ntC zeroN nilV).drop 1).toArray := by kernel_rfl
theorem built_note0 : Try.prog.built 30 [] = some (ntC zeroN nilV).toArray := by kernel_rfl
theorem zero_note : (Try.prog.info? 30).bind (·.zero) = some (.agg (ntC zeroN nilV).toArray) := by kernel_rfl
def padI (xs : RecM.Bs) (i : Nat) : RecM.Bs := xs.take i ++ List.replicate (32 - i) 0
theorem padI_len (xs : RecM.Bs) (i : Nat) (h : i ≤ xs.length) (h2 : i ≤ 32) : (padI xs i).length = 32 := by unfold padI; rw [List.length_append, List.length_take, List.length_replicate]; omega
theorem padI_zero (xs : RecM.Bs) : padI xs 0 = zsum := by unfold padI zsum; simp
theorem padI_end (xs : RecM.Bs) : padI xs xs.length = pad xs := by unfold padI pad; rw [List.take_length]
theorem padI_set (xs : RecM.Bs) (i : Nat) (h : i < xs.length) (h2 : i < 32) : (padI xs i).set i (xs.getD i 0) = padI xs (i + 1) := by
  unfold padI
  rw [show 32 - i = (32 - (i + 1)) + 1 by omega, List.replicate_succ, List.set_append_right _ _ (by rw [List.length_take]; omega), List.length_take, Nat.min_eq_left (by omega), Nat.sub_self, List.set_cons_zero, List.take_add_one, List.append_assoc]
  congr 1
  simp [h]
theorem ntC_setS (n : Nte) (v : Value) (i : Nat) (h : n.sum.length = 32) (hi : i < 32) (c : UInt8) : (ntC n v).set (3 + i) (byteV c) = ntC { n with sum := n.sum.set i c } v := by
  unfold ntC keyC
  rw [Nat.add_comm]
  show _ :: _ :: _ :: ((((n.sum.map byteV) ++ [Value.int .u32 (n.kn : Int)]) ++ [v]).set i (byteV c)) = _
  rw [List.append_assoc, List.set_append_left _ _ (by simp [h]; omega), List.append_assoc, List.map_set]
theorem ntC_setN (n : Nte) (v : Value) (h : n.sum.length = 32) (k : Nat) : (ntC n v).set 35 (.int .u32 (k : Int)) = ntC { n with kn := k } v := by
  unfold ntC keyC
  show _ :: _ :: _ :: ((((n.sum.map byteV) ++ [Value.int .u32 (n.kn : Int)]) ++ [v]).set 32 (.int .u32 (k : Int))) = _
  rw [List.append_assoc, List.set_append_right _ _ (by simp [h]), List.append_assoc, List.length_map, h]
  rfl
theorem ntC_setD (n : Nte) (v u : Value) (h : n.sum.length = 32) : (ntC n v).set 36 u = ntC n u := by
  unfold ntC
  show _ :: _ :: _ :: ((keyC n.sum n.kn ++ [v]).set 33 u) = _
  rw [List.set_append_right _ _ (by rw [keyC_len _ _ h]; omega), keyC_len _ _ h]
  rfl
theorem num_bound (r : RS) (k : Nat) (hk : k ≤ 8) : (r.num (k : Int)).1 < 2 ^ (8 * k) := by
  obtain ⟨l, e⟩ := r
  unfold RS.num
  split
  · exact Nat.two_pow_pos _
  split
  · exact Nat.two_pow_pos _
  simp only
  split
  · exact Nat.two_pow_pos _
  · simp only [Int.toNat_natCast]
    rw [cod_num]
    exact Nat.lt_of_lt_of_le (num_lt _) (Nat.pow_le_pow_right (by decide) (by rw [List.length_take]; omega))
theorem raw_size (r : RS) : (r.raw 32).1.length = 0 ∨ (r.raw 32).1.length = 32 := by
  obtain ⟨l, e⟩ := r
  unfold RS.raw
  split
  · exact .inl rfl
  split
  · exact .inl rfl
  simp only
  split
  · exact .inl rfl
  · rename_i h
    right
    rw [List.length_take]
    show min 32 l.length = 32
    omega
theorem blob_size (r : RS) : (r.blob 300).1.length ≤ 300 := by
  obtain ⟨l, e⟩ := r
  unfold RS.blob
  split
  · exact Nat.zero_le _
  simp only
  split
  · exact Nat.zero_le _
  · simp only
    rw [List.length_take]
    unfold Cod.blobSz
    split
    · exact Nat.zero_le _
    split
    · exact Nat.zero_le _
    split
    · exact Nat.zero_le _
    · simp only; omega
theorem sum_at (s : RecM.Bs) (h : s.length = 32) (i : Nat) (hi : i < 32) : (s.map byteV)[i]? = some (byteV (s.getD i 0)) := by
  rw [List.getElem?_map, List.getD_eq_getElem?_getD, List.getElem?_eq_getElem (by omega)]
  rfl
theorem At.len {p : RecM.Bs} {r : RS} {i : Nat} {e : Int} (h : At p r i e) : i ≤ p.length := h.2.2
set_option maxRecDepth 6000 in
set_option maxHeartbeats 16000000 in
theorem refTake_st {B : Nat} {w0 w : World} {Ps : List Asn} (H : Own.St B w0 w Ps) (ao : Option Addr) (n cap : Nat) (p : RecM.Bs) (hv : View w (fun k => k < B) ao p) (hn : p.length = n) (hc : n ≤ cap) (hm : cap ≤ maxLen) (h0 : ao = none → cap = 0) (hb : n ≤ 1000000) :
    Calls Try.prog 17 #[.slice ao n cap] w fun e w' => ∃ a c, e = .returned (.tuple #[ntV (RecM.take p).1 (.slice a (RecM.take p).1.data.length c), errN (RecM.take p).2]) ∧ View w' (fun k => k < B) a (RecM.take p).1.data ∧ Own.St B w0 w' Ps := by
  obtain ⟨X, hX⟩ : ∃ X, X = RecM.take p := ⟨_, rfl⟩
  rw [← hX]
  rw [take_parse] at hX
  have HX := Lib.hid hX
  obtain ⟨z, hz⟩ : ∃ z, z = ntC zeroN nilV := ⟨_, rfl⟩
  have HZ2 : Hid ((Try.prog.info? 30).bind (·.zero) = some (.agg z.toArray)) := by rw [hz]; exact zero_note
  have HZ0 : Hid (Try.prog.built 30 [] = some z.toArray) := by rw [hz]; exact built_note0
  have HZL : Hid (z.length = 37) := by show z.length = 37; rw [hz]; rfl
  have HZ := Lib.hid hz
  obtain ⟨b2, hb2⟩ : ∃ b, b = w.heap.size := ⟨_, rfl⟩
  obtain ⟨W1, hW1⟩ : ∃ W, W = w.alloc (.cells z.toArray 30) := ⟨_, rfl⟩
  have h1 : Own.St B w0 W1 (AVals b2 30 z :: Ps) := by rw [hb2, hW1]; exact H.boxV _ _
  obtain ⟨q, hq⟩ : ∃ b, b = W1.heap.size := ⟨_, rfl⟩
  obtain ⟨W2, hW2⟩ : ∃ W, W = W1.alloc (.cells #[.slice ao n cap, .int .i64 0, .int .i64 0] 58) := ⟨_, rfl⟩
  have h2 : Own.St B w0 W2 (ARR q ao cap p 0 0 :: AVals b2 30 z :: Ps) := by
    have e : ARR q ao cap p 0 0 = ABlk q (.cells #[.slice ao n cap, .int .i64 0, .int .i64 0] 58) := by unfold ARR; rw [hn]; rfl
    rw [e, hq, hW2]
    exact h1.box _
  have hin : RefIn B w ao cap p := ⟨hv, by omega, by omega, hm, h0⟩
  have HINL : Hid (∀ wx, Below B w0 wx → RefIn B wx ao cap p) := fun wx hwx => hin.later (Below.both H.below hwx)
  have hpl : p.length ≤ 1000000 := by omega
  have HPL := Lib.hid hpl
  obtain ⟨x1, r1, hr1⟩ : ∃ x y, RS.num ⟨p, 0⟩ 1 = (x, y) := ⟨_, _, rfl⟩
  have HR1 := Lib.hid hr1
  have AT0 : Hid (At p ⟨p, 0⟩ 0 0) := ⟨rfl, rfl, Nat.zero_le _⟩
  have hx1 : x1 < 256 := by
    have := num_bound ⟨p, 0⟩ 1 (by decide)
    rw [show ((1 : Nat) : Int) = 1 from rfl, hr1] at this
    exact this
  obtain ⟨c, hcc⟩ : ∃ c : UInt8, x1 = c.toNat := ⟨UInt8.ofNat x1, by simp; omega⟩
  subst hcc
  obtain ⟨cs, hcs⟩ : ∃ cs, cs = ntC { zeroN with kind := c } nilV := ⟨_, rfl⟩
  have BE : Hid (Try.prog.built 30 [(0, .int .u8 (c.toNat : Int))] = some cs.toArray) := by rw [hcs]; exact built_note c.toNat
  have HCS := Lib.hid hcs
  have HB2 := Lib.hid hb2
  have HW1 := Lib.hid hW1
  have HQ := Lib.hid hq
  have HW2 := Lib.hid hW2
  have H2 := Lib.hid h2
  clear hX hz hb2 hW1 h1 hq hW2 h2 hin hr1 hcs H hv h0 hm
  go_enter Try.func17, Try.ntmps17
  go_wp2_with (refine Own.wpList_allocZ rfl 30 rfl z.toArray HZ2.out ?_; rw [← HB2.out, ← HW1.out])
  rw [← HQ.out, ← HW2.out]
  refine (Cod.refnum_r H2.out 0 rfl (HINL.out _ H2.out.below) AT0.out 1 HR1.out (by simp)).mono ?_
  rintro e w3 ⟨i1, e1, rfl, hat, h3⟩
  simp only [List.set_cons_zero] at h3 hat
  have AT1 := Lib.hid hat
  obtain ⟨b5, hb5⟩ : ∃ b, b = w3.heap.size := ⟨_, rfl⟩
  obtain ⟨W4, hW4⟩ : ∃ W, W = w3.alloc (.cells z.toArray 30) := ⟨_, rfl⟩
  have h4 : Own.St B w0 W4 (AVals b5 30 z :: ARR q ao cap p i1 e1 :: AVals b2 30 z :: Ps) := by rw [hb5, hW4]; exact h3.boxV _ _
  have TH : Hid (W4.there b5 0 cs.toArray.size) := h4.thereV 0 rfl (by rw [List.size_toArray, HCS.out, HZL.out]; exact Nat.le_of_eq rfl)
  have hset := Own.St.setAll 0 cs 0 W4 _ z h4 rfl (by rw [HCS.out, HZL.out]; rfl)
  simp only [List.set_cons_zero, List.take_zero, List.nil_append] at hset
  obtain ⟨W5, hW5⟩ : ∃ W, W = W4.setCells b5 0 cs.toArray.toList := ⟨_, rfl⟩
  have H5 : Hid (Own.St B w0 W5 (TS q ao cap p i1 e1 b5 { zeroN with kind := c } nilV b2 z Ps)) := by
    rw [hW5, List.toList_toArray]
    rw [HCS.out] at hset ⊢
    exact hset.swap2
  have IO : Hid ((Try.prog.info? 30).map (·.size) = some cs.toArray.size) := info_noteA cs (by rw [HCS.out]; rfl)
  have OO : Hid (cs.toArray.all (·.oneCell') = true) := by show _ = true; rw [HCS.out]; exact all_oneCell_toArray (ntC_one rfl)
  have HB5 := Lib.hid hb5
  have HW4 := Lib.hid hW4
  have HW5 := Lib.hid hW5
  clear h3 hat h4 hset hb5 hW4 hW5 AT0 H2
  by_cases hk : c.toNat = 1
  · skip
    have KK : Hid ((c.toNat : Int) = 1) := by show _ = _; omega
    have HC : Hid (c = 1) := UInt8.toNat_inj.1 (by rw [hk]; rfl)
    obtain ⟨ad, r2, hr2⟩ : ∃ x y, RS.num r1 4 = (x, y) := ⟨_, _, rfl⟩
    have bad : ad < 4294967296 := by
      have := num_bound r1 4 (by decide)
      rw [show ((4 : Nat) : Int) = 4 from rfl, hr2] at this
      exact this
    obtain ⟨sq, r3, hr3⟩ : ∃ x y, RS.num r2 8 = (x, y) := ⟨_, _, rfl⟩
    have bsq : sq < 18446744073709551616 := by
      have := num_bound r2 8 (by decide)
      rw [show ((8 : Nat) : Int) = 8 from rfl, hr3] at this
      exact this
    obtain ⟨xs, r4, hr4⟩ : ∃ x y, RS.raw r3 32 = (x, y) := ⟨_, _, rfl⟩
    obtain ⟨m, hmx⟩ : ∃ m, xs.length = m := ⟨_, rfl⟩
    have hm32 : m = 0 ∨ m = 32 := by have := raw_size r3; rw [hr4] at this; rw [← hmx]; exact this
    have hm32l : m ≤ 32 := by omega
    have HMX := Lib.hid hmx
    obtain ⟨kn, r5, hr5⟩ : ∃ x y, RS.num r4 4 = (x, y) := ⟨_, _, rfl⟩
    have bkn : kn < 4294967296 := by
      have := num_bound r4 4 (by decide)
      rw [show ((4 : Nat) : Int) = 4 from rfl, hr5] at this
      exact this
    obtain ⟨ys, r6, hr6⟩ : ∃ x y, RS.blob r5 300 = (x, y) := ⟨_, _, rfl⟩
    obtain ⟨l, hly⟩ : ∃ m, ys.length = m := ⟨_, rfl⟩
    have hl300 : l ≤ 300 := by have := blob_size r5; rw [hr6] at this; rw [← hly]; exact this
    have HLY := Lib.hid hly
    have hp : parse p = (⟨1, ad, sq, pad xs, kn, ys⟩, r6) := by
      rw [parse_1 (by rw [HR1.out]; simp only; rw [HC.out]; rfl)]
      simp only [HR1.out, hr2, hr3, hr4, hr5, hr6]
    rw [← HC.out] at hp
    have HP : Hid (X = if r6.fin = 0 ∧ right ⟨c, ad, sq, pad xs, kn, ys⟩ = true then (⟨c, ad, sq, pad xs, kn, ys⟩, 0) else (zeroN, 100)) := by show X = _; rw [HX.out, hp]
    have HR2 := Lib.hid hr2
    have HR3 := Lib.hid hr3
    have HR4 := Lib.hid hr4
    have HR5 := Lib.hid hr5
    have HR6 := Lib.hid hr6
    clear hp hr2 hr3 hr4 hr5 hr6 hmx hm32 hly hk
    have d0 : (W5).cell? ⟨b5, 0, none⟩ = some (.int .u8 1) := by
      have h := (H5.out.cellV 1 rfl 0 rfl).1
      rw [← KK.out]
      exact h
    go_wp2_with (first
      | (refine Own.wpList_built rfl 30 #[(0, .tmp 13)] rfl cs.toArray ?_ ?_; · (simp only [List.map_toArray, List.map_cons, List.map_nil, List.toList_toArray]; exact BE.out))
      | (refine Own.wpList_allocZ rfl 30 rfl z.toArray HZ2.out ?_; rw [← HB5.out, ← HW4.out])
      | (refine wpList_store_mid rfl 30 (.tmp 5) (.tmp 14) rfl b5 0 cs.toArray rfl rfl TH.out IO.out OO.out ?_; rw [← HW5.out]))
    clear HB5 HW4 HW5 TH IO OO BE HCS
    refine (Cod.refnum_r H5.out 0 rfl (HINL.out _ H5.out.below) AT1.out 4 HR2.out (by simp)).mono ?_
    clear d0
    rintro e w6 ⟨i6, e6, rfl, hat, h6⟩
    simp only [List.set_cons_zero] at h6 hat
    have HA6 : Hid (Own.St B w0 w6 (TS q ao cap p i6 e6 b5 (⟨c, 0, 0, zsum, 0, []⟩ : Nte) nilV b2 z Ps)) := h6
    have AT6 := Lib.hid hat
    have qc := HA6.out.cellV 1 rfl 1 rfl
    have H6 : Hid (Own.St B w0 (w6.setCell ⟨b5, 1, none⟩ (.int .u32 (ad : Int))) (TS q ao cap p i6 e6 b5 (⟨c, ad, 0, zsum, 0, []⟩ : Nte) nilV b2 z Ps)) := by
      have h := HA6.out.storeV 1 rfl 1 (.int .u32 (ad : Int))
      exact h
    clear hat h6 HA6 HR2
    have d0 : (w6.setCell ⟨b5, 1, none⟩ (.int .u32 (ad : Int))).cell? ⟨b5, 0, none⟩ = some (.int .u8 1) := by
      have h := (H6.out.cellV 1 rfl 0 rfl).1
      rw [← KK.out]
      exact h
    go_wp2_with (fail)
    refine (Cod.refnum_r H6.out 0 rfl (HINL.out _ H6.out.below) AT6.out 8 HR3.out (by simp)).mono ?_
    clear d0
    rintro e w7 ⟨i7, e7, rfl, hat, h7⟩
    simp only [List.set_cons_zero] at h7 hat
    have HA7 : Hid (Own.St B w0 w7 (TS q ao cap p i7 e7 b5 (⟨c, ad, 0, zsum, 0, []⟩ : Nte) nilV b2 z Ps)) := h7
    have AT7 := Lib.hid hat
    have qc := HA7.out.cellV 1 rfl 2 rfl
    have H7 : Hid (Own.St B w0 (w7.setCell ⟨b5, 2, none⟩ (.int .u64 (sq : Int))) (TS q ao cap p i7 e7 b5 (⟨c, ad, sq, zsum, 0, []⟩ : Nte) nilV b2 z Ps)) := by
      have h := HA7.out.storeV 1 rfl 2 (.int .u64 (sq : Int))
      exact h
    clear hat h7 HA7 HR3
    have d0 : (w7.setCell ⟨b5, 2, none⟩ (.int .u64 (sq : Int))).cell? ⟨b5, 0, none⟩ = some (.int .u8 1) := by
      have h := (H7.out.cellV 1 rfl 0 rfl).1
      rw [← KK.out]
      exact h
    go_wp2_with (fail)
    refine (Cod.refraw_r H7.out 0 rfl (HINL.out _ H7.out.below) AT7.out 32 HR4.out HMX.out).mono ?_
    clear d0
    rintro e w8 ⟨ax, cx, i8, e8, rfl, hvx, hat, h8⟩
    simp only [List.set_cons_zero] at h8 hat
    have H8 : Hid (Own.St B w0 w8 (TS q ao cap p i8 e8 b5 (⟨c, ad, sq, zsum, 0, []⟩ : Nte) nilV b2 z Ps)) := h8
    have AT8 := Lib.hid hat
    have VX : Hid (∀ wx, Below B w0 wx → View wx (fun k => k < B) ax xs) := fun wx hwx => View.same hvx (fun k hk => (hwx.block k hk).trans (H8.out.below.block k hk).symm)
    clear hat hvx h8 HR4
    go_wp2_with (fail)
    go_loopw [7] (fun v wr => ∃ k : Nat, k ≤ m ∧ v = .int .i64 (k : Int) ∧ Own.St B w0 wr (TS q ao cap p i8 e8 b5 (⟨c, ad, sq, padI xs k, 0, []⟩ : Nte) nilV b2 z Ps)) (fun v _ => m - (intOf v).toNat)
    case atStart => exact ⟨0, Nat.zero_le _, rfl, by rw [padI_zero]; exact H8.out⟩
    case round =>
      obtain ⟨k, hkm, rfl, h⟩ := hrel
      have H := Lib.hid h
      clear h
      by_cases hkk : (k : Int) < (m : Int)
      · have hkn : k < m := by omega
        obtain ⟨bx, ox, hbx, _, _, cx0⟩ := vat (VX.out wr H.out.below) (k := k) (by rw [HMX.out]; exact hkn)
        subst hbx
        obtain ⟨y, hy⟩ : ∃ y, y = xs.getD k 0 := ⟨_, rfl⟩
        rw [← hy] at cx0
        have hpl2 := padI_len xs k (by rw [HMX.out]; exact hkm) (by omega)
        have qc := H.out.cellV 1 rfl (3 + k) (ntC_sum _ _ k _ (sum_at _ hpl2 k (by omega)))
        have PUT : Hid (Own.St B w0 (wr.setCell ⟨b5, 3 + k, none⟩ (.int .u8 (y.toNat : Int))) (TS q ao cap p i8 e8 b5 (⟨c, ad, sq, padI xs (k + 1), 0, []⟩ : Nte) nilV b2 z Ps)) := by
          have h := H.out.storeV 1 rfl (3 + k) (.int .u8 (y.toNat : Int))
          have e := ntC_setS (⟨c, ad, sq, padI xs k, 0, []⟩ : Nte) nilV k hpl2 (by omega) y
          rw [show (.int .u8 (y.toNat : Int) : Value) = byteV y from rfl, e] at h
          simp only [hy] at h
          rw [padI_set xs k (by rw [HMX.out]; exact hkn) (by omega)] at h
          rw [hy]
          exact h
        clear H hpl2 hy
        go_wp2
        go_roundw
        case rel => exact ⟨k + 1, by omega, by go_num, PUT.out⟩
        case measure => simp [intOf]; omega
      · have HSL : Hid ((pad xs).length = 32) := by
          show _ = 32
          rw [← padI_end]
          exact padI_len xs _ (Nat.le_refl _) (by rw [HMX.out]; omega)
        have HL : Hid (Own.St B w0 wr (TS q ao cap p i8 e8 b5 (⟨c, ad, sq, pad xs, 0, []⟩ : Nte) nilV b2 z Ps)) := by
          have h := H.out
          rw [show k = xs.length by rw [HMX.out]; omega, padI_end] at h
          exact h
        clear H hkm VX H8
        have d0 : (wr).cell? ⟨b5, 0, none⟩ = some (.int .u8 1) := by
          have h := (HL.out.cellV 1 rfl 0 rfl).1
          rw [← KK.out]
          exact h
        go_wp2_with (fail)
        refine (Cod.refnum_r HL.out 0 rfl (HINL.out _ HL.out.below) AT8.out 4 HR5.out (by simp)).mono ?_
        clear d0
        rintro e w9 ⟨i9, e9, rfl, hat, h9⟩
        simp only [List.set_cons_zero] at h9 hat
        have HA9 : Hid (Own.St B w0 w9 (TS q ao cap p i9 e9 b5 (⟨c, ad, sq, pad xs, 0, []⟩ : Nte) nilV b2 z Ps)) := h9
        have AT9 := Lib.hid hat
        have qc := HA9.out.cellV 1 rfl 35 (ntC_kn _ _ HSL.out)
        have H9 : Hid (Own.St B w0 (w9.setCell ⟨b5, 35, none⟩ (.int .u32 (kn : Int))) (TS q ao cap p i9 e9 b5 (⟨c, ad, sq, pad xs, kn, []⟩ : Nte) nilV b2 z Ps)) := by
          have h := HA9.out.storeV 1 rfl 35 (.int .u32 (kn : Int))
          rw [ntC_setN _ _ HSL.out] at h
          exact h
        clear hat h9 HA9 HR5
        have d0 : (w9.setCell ⟨b5, 35, none⟩ (.int .u32 (kn : Int))).cell? ⟨b5, 0, none⟩ = some (.int .u8 1) := by
          have h := (H9.out.cellV 1 rfl 0 rfl).1
          rw [← KK.out]
          exact h
        go_wp2_with (fail)
        refine (Cod.refblob_r H9.out 0 rfl (HINL.out _ H9.out.below) AT9.out 300 (by decide) HR6.out HLY.out).mono ?_
        clear d0
        rintro e w10 ⟨ay, cy, i10, e10, rfl, hvy, hat, h10⟩
        simp only [List.set_cons_zero] at h10 hat
        have HA10 : Hid (Own.St B w0 w10 (TS q ao cap p i10 e10 b5 (⟨c, ad, sq, pad xs, kn, []⟩ : Nte) nilV b2 z Ps)) := h10
        have AT10 := Lib.hid hat
        have qc := HA10.out.cellV 1 rfl 36 (ntC_data _ _ HSL.out)
        have H10 : Hid (Own.St B w0 (w10.setCell ⟨b5, 36, none⟩ (.slice ay l cy)) (TS q ao cap p i10 e10 b5 (⟨c, ad, sq, pad xs, kn, ys⟩ : Nte) (.slice ay l cy) b2 z Ps)) := by
          have h := HA10.out.storeV 1 rfl 36 (.slice ay l cy)
          rw [ntC_setD _ _ _ HSL.out] at h
          exact h
        have VY : Hid (∀ wx, Below B w0 wx → View wx (fun k => k < B) ay ys) := fun wx hwx => View.same hvy (fun k hk => (hwx.block k hk).trans (HA10.out.below.block k hk).symm)
        clear hat hvy h10 HA10 HR6
        go_wp2_with (fail)
        obtain ⟨fn, hfn⟩ : ∃ f, f = r6.fin := ⟨_, rfl⟩
        have CE := Cod.refend_st H10.out 0 rfl AT10.out HPL.out
        rw [← hfn] at CE
        refine CE.mono ?_
        clear CE
        rintro e w20 ⟨rfl, nq, rfl⟩
        have H20 := Lib.hid (H10.out.drewN nq)
        obtain ⟨W20, hW20⟩ : ∃ W, W = (w10.setCell ⟨b5, 36, none⟩ (.slice ay l cy)).drewN nq := ⟨_, rfl⟩
        rw [← hW20] at H20 ⊢
        have HFN := Lib.hid hfn
        clear hfn hW20 H10
        try clear qc
        try clear d0
        by_cases hf : fn = 0
        · subst hf
          obtain ⟨c9, hc9⟩ : ∃ x, x = ntC (⟨c, ad, sq, pad xs, kn, ys⟩ : Nte) (.slice ay l cy) := ⟨_, rfl⟩
          have H21 : Hid (Own.St B w0 W20 (ARR q ao cap p i10 e10 :: AVals b5 30 c9 :: AVals b2 30 z :: Ps)) := by rw [hc9]; exact H20.out
          have NL : Hid (c9.length = 37) := by show _ = 37; rw [hc9]; exact ntC_len _ _ HSL.out
          have RN : Hid (W20.rangeAt b5 0 c9) := fun j v hv => by rw [Nat.zero_add]; exact (H21.out.cellV 1 rfl j hv).1
          obtain ⟨rt, hrt⟩ : ∃ b, b = right (⟨c, ad, sq, pad xs, kn, ys⟩ : Nte) := ⟨_, rfl⟩
          have CR : Hid (Calls Try.prog 13 #[.agg c9.toArray] W20 fun e w' => e = .returned (.bool rt) ∧ Below W20.heap.size W20 w') := by
            rw [hc9, hrt]
            exact right_any (⟨c, ad, sq, pad xs, kn, ys⟩ : Nte) HSL.out ay l cy HLY.out (by omega) W20
          have HRT := Lib.hid hrt
          have HC9 := Lib.hid hc9
          clear hc9 hrt H20
          go_wp2_with (refine wpList_val rfl (load_note c9 NL.out rfl _ (b := b5) (k := 0) RN.out rfl) ?_)
          refine CR.out.mono ?_
          clear CR
          rintro e w22 ⟨rfl, h22⟩
          have H22 := Lib.hid (H21.out.later h22)
          clear h22 H21 RN
          cases rt
          · have HE : Hid (X = (zeroN, 100)) := by show X = _; rw [HP.out, if_neg]; rintro ⟨_, h⟩; rw [← HRT.out] at h; cases h
            have IOz : Hid ((Try.prog.info? 30).map (·.size) = some z.toArray.size) := info_noteA z HZL.out
            have OOz : Hid (z.toArray.all (·.oneCell') = true) := by show _ = true; rw [HZ.out]; exact all_oneCell_toArray (ntC_one rfl)
            have THz : Hid (w22.there b2 0 z.toArray.size) := H22.out.thereV 2 rfl (by simp)
            have hset := Own.St.setAll 2 z 0 w22 _ z H22.out rfl (by simp)
            simp only [List.set_cons_zero, List.set_cons_succ, List.take_zero, List.nil_append] at hset
            obtain ⟨W30, hW30⟩ : ∃ W, W = w22.setCells b2 0 z.toArray.toList := ⟨_, rfl⟩
            have HW30 := Lib.hid hW30
            have H30 : Hid (Own.St B w0 W30 (ARR q ao cap p i10 e10 :: AVals b5 30 c9 :: AVals b2 30 z :: Ps)) := by rw [hW30, List.toList_toArray]; exact hset
            clear hset hW30
            go_wp2_with (first
              | (refine Own.wpList_built rfl 30 #[] rfl z.toArray ?_ ?_; · (simp only [List.map_toArray, List.map_cons, List.map_nil, List.toList_toArray]; exact HZ0.out))
              | (refine wpList_store_mid rfl 30 (.tmp 2) (.tmp 73) rfl b2 0 z.toArray rfl rfl THz.out IOz.out OOz.out ?_; rw [← HW30.out]))
            refine bodyPost_ret (results_cell_two rfl _ _ b2 30 _ (0, 0) _ _ rfl rfl (H30.out.rowV 2 rfl) Try.underlying30 rfl (info_note z HZL.out)) rfl ?_
            rw [HE.out]
            refine ⟨none, 0, ?_, .inl rfl, H30.out.drop 3⟩
            rw [HZ.out]
            rfl
          · have HE : Hid (X = ((⟨c, ad, sq, pad xs, kn, ys⟩ : Nte), 0)) := by show X = _; rw [HP.out, if_pos ⟨HFN.out.symm, HRT.out.symm⟩]
            have RN : Hid (w22.rangeAt b5 0 c9) := fun j v hv => by rw [Nat.zero_add]; exact (H22.out.cellV 1 rfl j hv).1
            have IO9 : Hid ((Try.prog.info? 30).map (·.size) = some c9.toArray.size) := info_noteA c9 NL.out
            have OO9 : Hid (c9.toArray.all (·.oneCell') = true) := by show _ = true; rw [HC9.out]; exact all_oneCell_toArray (ntC_one rfl)
            have TH9 : Hid (w22.there b2 0 c9.toArray.size) := H22.out.thereV 2 rfl (by rw [List.size_toArray, NL.out, HZL.out]; exact Nat.le_refl _)
            have hset := Own.St.setAll 2 c9 0 w22 _ z H22.out rfl (by rw [NL.out, HZL.out])
            simp only [List.set_cons_zero, List.set_cons_succ, List.take_zero, List.nil_append] at hset
            obtain ⟨W30, hW30⟩ : ∃ W, W = w22.setCells b2 0 c9.toArray.toList := ⟨_, rfl⟩
            have HW30 := Lib.hid hW30
            have H30 : Hid (Own.St B w0 W30 (ARR q ao cap p i10 e10 :: AVals b5 30 c9 :: AVals b2 30 c9 :: Ps)) := by rw [hW30, List.toList_toArray]; exact hset
            clear hset hW30
            go_wp2_with (first
              | (refine wpList_val rfl (load_note c9 NL.out rfl _ (b := b5) (k := 0) RN.out rfl) ?_)
              | (refine wpList_store_mid rfl 30 (.tmp 2) (.tmp 74) rfl b2 0 c9.toArray rfl rfl TH9.out IO9.out OO9.out ?_; rw [← HW30.out]))
            refine bodyPost_ret (results_cell_two rfl _ _ b2 30 _ (0, 0) _ _ rfl rfl (H30.out.rowV 2 rfl) Try.underlying30 rfl (info_note c9 NL.out)) rfl ?_
            rw [HE.out]
            refine ⟨ay, cy, ?_, VY.out _ H30.out.below, H30.out.drop 3⟩
            rw [HC9.out]
            simp only [HLY.out]
            rfl
        · have g : (fn != 0) = true := by simpa using hf
          have HE : Hid (X = (zeroN, 100)) := by show X = _; rw [HP.out, if_neg]; rintro ⟨h, _⟩; rw [← HFN.out] at h; exact hf h
          clear hf
          have IOz : Hid ((Try.prog.info? 30).map (·.size) = some z.toArray.size) := info_noteA z HZL.out
          have OOz : Hid (z.toArray.all (·.oneCell') = true) := by show _ = true; rw [HZ.out]; exact all_oneCell_toArray (ntC_one rfl)
          have THz : Hid (W20.there b2 0 z.toArray.size) := H20.out.thereV 2 rfl (by simp)
          have hset := Own.St.setAll 2 z 0 W20 _ z H20.out rfl (by simp)
          simp only [List.set_cons_zero, List.set_cons_succ, List.take_zero, List.nil_append] at hset
          obtain ⟨W30, hW30⟩ : ∃ W, W = W20.setCells b2 0 z.toArray.toList := ⟨_, rfl⟩
          have HW30 := Lib.hid hW30
          have H30 : Hid (Own.St B w0 W30 (TS q ao cap p i10 e10 b5 (⟨c, ad, sq, pad xs, kn, ys⟩ : Nte) (.slice ay l cy) b2 z Ps)) := by rw [hW30, List.toList_toArray]; exact hset
          clear hset hW30
          go_wp2_with (first
            | (refine Own.wpList_built rfl 30 #[] rfl z.toArray ?_ ?_; · (simp only [List.map_toArray, List.map_cons, List.map_nil, List.toList_toArray]; exact HZ0.out))
            | (refine wpList_store_mid rfl 30 (.tmp 2) (.tmp 73) rfl b2 0 z.toArray rfl rfl THz.out IOz.out OOz.out ?_; rw [← HW30.out]))
          refine bodyPost_ret (results_cell_two rfl _ _ b2 30 _ (0, 0) _ _ rfl rfl (H30.out.rowV 2 rfl) Try.underlying30 rfl (info_note z HZL.out)) rfl ?_
          rw [HE.out]
          refine ⟨none, 0, ?_, .inl rfl, H30.out.drop 3⟩
          rw [HZ.out]
          rfl
  have hk1 := hk
  clear hk
  by_cases hk : c.toNat = 2
  · skip
    have KK : Hid ((c.toNat : Int) = 2) := by show _ = _; omega
    have HC : Hid (c = 2) := UInt8.toNat_inj.1 (by rw [hk]; rfl)
    obtain ⟨ad, r2, hr2⟩ : ∃ x y, RS.num r1 4 = (x, y) := ⟨_, _, rfl⟩
    have bad : ad < 4294967296 := by
      have := num_bound r1 4 (by decide)
      rw [show ((4 : Nat) : Int) = 4 from rfl, hr2] at this
      exact this
    obtain ⟨sq, r3, hr3⟩ : ∃ x y, RS.num r2 8 = (x, y) := ⟨_, _, rfl⟩
    have bsq : sq < 18446744073709551616 := by
      have := num_bound r2 8 (by decide)
      rw [show ((8 : Nat) : Int) = 8 from rfl, hr3] at this
      exact this
    have hp : parse p = (⟨2, ad, sq, zsum, 0, []⟩, r3) := by
      rw [parse_2 (by rw [HR1.out]; simp only; rw [HC.out]; rfl)]
      simp only [HR1.out, hr2, hr3]
    rw [← HC.out] at hp
    have HP : Hid (X = if r3.fin = 0 ∧ right ⟨c, ad, sq, zsum, 0, []⟩ = true then (⟨c, ad, sq, zsum, 0, []⟩, 0) else (zeroN, 100)) := by show X = _; rw [HX.out, hp]
    have HR2 := Lib.hid hr2
    have HR3 := Lib.hid hr3
    clear hp hr2 hr3 hk
    have d0 : (W5).cell? ⟨b5, 0, none⟩ = some (.int .u8 2) := by
      have h := (H5.out.cellV 1 rfl 0 rfl).1
      rw [← KK.out]
      exact h
    go_wp2_with (first
      | (refine Own.wpList_built rfl 30 #[(0, .tmp 13)] rfl cs.toArray ?_ ?_; · (simp only [List.map_toArray, List.map_cons, List.map_nil, List.toList_toArray]; exact BE.out))
      | (refine Own.wpList_allocZ rfl 30 rfl z.toArray HZ2.out ?_; rw [← HB5.out, ← HW4.out])
      | (refine wpList_store_mid rfl 30 (.tmp 5) (.tmp 14) rfl b5 0 cs.toArray rfl rfl TH.out IO.out OO.out ?_; rw [← HW5.out]))
    clear HB5 HW4 HW5 TH IO OO BE HCS
    refine (Cod.refnum_r H5.out 0 rfl (HINL.out _ H5.out.below) AT1.out 4 HR2.out (by simp)).mono ?_
    clear d0
    rintro e w6 ⟨i6, e6, rfl, hat, h6⟩
    simp only [List.set_cons_zero] at h6 hat
    have HA6 : Hid (Own.St B w0 w6 (TS q ao cap p i6 e6 b5 (⟨c, 0, 0, zsum, 0, []⟩ : Nte) nilV b2 z Ps)) := h6
    have AT6 := Lib.hid hat
    have qc := HA6.out.cellV 1 rfl 1 rfl
    have H6 : Hid (Own.St B w0 (w6.setCell ⟨b5, 1, none⟩ (.int .u32 (ad : Int))) (TS q ao cap p i6 e6 b5 (⟨c, ad, 0, zsum, 0, []⟩ : Nte) nilV b2 z Ps)) := by
      have h := HA6.out.storeV 1 rfl 1 (.int .u32 (ad : Int))
      exact h
    clear hat h6 HA6 HR2
    have d0 : (w6.setCell ⟨b5, 1, none⟩ (.int .u32 (ad : Int))).cell? ⟨b5, 0, none⟩ = some (.int .u8 2) := by
      have h := (H6.out.cellV 1 rfl 0 rfl).1
      rw [← KK.out]
      exact h
    go_wp2_with (fail)
    refine (Cod.refnum_r H6.out 0 rfl (HINL.out _ H6.out.below) AT6.out 8 HR3.out (by simp)).mono ?_
    clear d0
    rintro e w7 ⟨i7, e7, rfl, hat, h7⟩
    simp only [List.set_cons_zero] at h7 hat
    have HA7 : Hid (Own.St B w0 w7 (TS q ao cap p i7 e7 b5 (⟨c, ad, 0, zsum, 0, []⟩ : Nte) nilV b2 z Ps)) := h7
    have AT7 := Lib.hid hat
    have qc := HA7.out.cellV 1 rfl 2 rfl
    have H7 : Hid (Own.St B w0 (w7.setCell ⟨b5, 2, none⟩ (.int .u64 (sq : Int))) (TS q ao cap p i7 e7 b5 (⟨c, ad, sq, zsum, 0, []⟩ : Nte) nilV b2 z Ps)) := by
      have h := HA7.out.storeV 1 rfl 2 (.int .u64 (sq : Int))
      exact h
    clear hat h7 HA7 HR3
    have d0 : (w7.setCell ⟨b5, 2, none⟩ (.int .u64 (sq : Int))).cell? ⟨b5, 0, none⟩ = some (.int .u8 2) := by
      have h := (H7.out.cellV 1 rfl 0 rfl).1
      rw [← KK.out]
      exact h
    go_wp2_with (fail)
    obtain ⟨fn, hfn⟩ : ∃ f, f = r3.fin := ⟨_, rfl⟩
    have CE := Cod.refend_st H7.out 0 rfl AT7.out HPL.out
    rw [← hfn] at CE
    refine CE.mono ?_
    clear CE
    rintro e w20 ⟨rfl, nq, rfl⟩
    have H20 := Lib.hid (H7.out.drewN nq)
    obtain ⟨W20, hW20⟩ : ∃ W, W = (w7.setCell ⟨b5, 2, none⟩ (.int .u64 (sq : Int))).drewN nq := ⟨_, rfl⟩
    rw [← hW20] at H20 ⊢
    have HFN := Lib.hid hfn
    clear hfn hW20 H7
    try clear qc
    try clear d0
    by_cases hf : fn = 0
    · subst hf
      obtain ⟨c9, hc9⟩ : ∃ x, x = ntC (⟨c, ad, sq, zsum, 0, []⟩ : Nte) nilV := ⟨_, rfl⟩
      have H21 : Hid (Own.St B w0 W20 (ARR q ao cap p i7 e7 :: AVals b5 30 c9 :: AVals b2 30 z :: Ps)) := by rw [hc9]; exact H20.out
      have NL : Hid (c9.length = 37) := by show _ = 37; rw [hc9]; exact ntC_len _ _ zsum_len
      have RN : Hid (W20.rangeAt b5 0 c9) := fun j v hv => by rw [Nat.zero_add]; exact (H21.out.cellV 1 rfl j hv).1
      obtain ⟨rt, hrt⟩ : ∃ b, b = right (⟨c, ad, sq, zsum, 0, []⟩ : Nte) := ⟨_, rfl⟩
      have CR : Hid (Calls Try.prog 13 #[.agg c9.toArray] W20 fun e w' => e = .returned (.bool rt) ∧ Below W20.heap.size W20 w') := by
        rw [hc9, hrt]
        exact right_any (⟨c, ad, sq, zsum, 0, []⟩ : Nte) zsum_len none 0 0 rfl (by omega) W20
      have HRT := Lib.hid hrt
      have HC9 := Lib.hid hc9
      clear hc9 hrt H20
      go_wp2_with (refine wpList_val rfl (load_note c9 NL.out rfl _ (b := b5) (k := 0) RN.out rfl) ?_)
      refine CR.out.mono ?_
      clear CR
      rintro e w22 ⟨rfl, h22⟩
      have H22 := Lib.hid (H21.out.later h22)
      clear h22 H21 RN
      cases rt
      · have HE : Hid (X = (zeroN, 100)) := by show X = _; rw [HP.out, if_neg]; rintro ⟨_, h⟩; rw [← HRT.out] at h; cases h
        have IOz : Hid ((Try.prog.info? 30).map (·.size) = some z.toArray.size) := info_noteA z HZL.out
        have OOz : Hid (z.toArray.all (·.oneCell') = true) := by show _ = true; rw [HZ.out]; exact all_oneCell_toArray (ntC_one rfl)
        have THz : Hid (w22.there b2 0 z.toArray.size) := H22.out.thereV 2 rfl (by simp)
        have hset := Own.St.setAll 2 z 0 w22 _ z H22.out rfl (by simp)
        simp only [List.set_cons_zero, List.set_cons_succ, List.take_zero, List.nil_append] at hset
        obtain ⟨W30, hW30⟩ : ∃ W, W = w22.setCells b2 0 z.toArray.toList := ⟨_, rfl⟩
        have HW30 := Lib.hid hW30
        have H30 : Hid (Own.St B w0 W30 (ARR q ao cap p i7 e7 :: AVals b5 30 c9 :: AVals b2 30 z :: Ps)) := by rw [hW30, List.toList_toArray]; exact hset
        clear hset hW30
        go_wp2_with (first
          | (refine Own.wpList_built rfl 30 #[] rfl z.toArray ?_ ?_; · (simp only [List.map_toArray, List.map_cons, List.map_nil, List.toList_toArray]; exact HZ0.out))
          | (refine wpList_store_mid rfl 30 (.tmp 2) (.tmp 73) rfl b2 0 z.toArray rfl rfl THz.out IOz.out OOz.out ?_; rw [← HW30.out]))
        refine bodyPost_ret (results_cell_two rfl _ _ b2 30 _ (0, 0) _ _ rfl rfl (H30.out.rowV 2 rfl) Try.underlying30 rfl (info_note z HZL.out)) rfl ?_
        rw [HE.out]
        refine ⟨none, 0, ?_, .inl rfl, H30.out.drop 3⟩
        rw [HZ.out]
        rfl
      · have HE : Hid (X = ((⟨c, ad, sq, zsum, 0, []⟩ : Nte), 0)) := by show X = _; rw [HP.out, if_pos ⟨HFN.out.symm, HRT.out.symm⟩]
        have RN : Hid (w22.rangeAt b5 0 c9) := fun j v hv => by rw [Nat.zero_add]; exact (H22.out.cellV 1 rfl j hv).1
        have IO9 : Hid ((Try.prog.info? 30).map (·.size) = some c9.toArray.size) := info_noteA c9 NL.out
        have OO9 : Hid (c9.toArray.all (·.oneCell') = true) := by show _ = true; rw [HC9.out]; exact all_oneCell_toArray (ntC_one rfl)
        have TH9 : Hid (w22.there b2 0 c9.toArray.size) := H22.out.thereV 2 rfl (by rw [List.size_toArray, NL.out, HZL.out]; exact Nat.le_refl _)
        have hset := Own.St.setAll 2 c9 0 w22 _ z H22.out rfl (by rw [NL.out, HZL.out])
        simp only [List.set_cons_zero, List.set_cons_succ, List.take_zero, List.nil_append] at hset
        obtain ⟨W30, hW30⟩ : ∃ W, W = w22.setCells b2 0 c9.toArray.toList := ⟨_, rfl⟩
        have HW30 := Lib.hid hW30
        have H30 : Hid (Own.St B w0 W30 (ARR q ao cap p i7 e7 :: AVals b5 30 c9 :: AVals b2 30 c9 :: Ps)) := by rw [hW30, List.toList_toArray]; exact hset
        clear hset hW30
        go_wp2_with (first
          | (refine wpList_val rfl (load_note c9 NL.out rfl _ (b := b5) (k := 0) RN.out rfl) ?_)
          | (refine wpList_store_mid rfl 30 (.tmp 2) (.tmp 74) rfl b2 0 c9.toArray rfl rfl TH9.out IO9.out OO9.out ?_; rw [← HW30.out]))
        refine bodyPost_ret (results_cell_two rfl _ _ b2 30 _ (0, 0) _ _ rfl rfl (H30.out.rowV 2 rfl) Try.underlying30 rfl (info_note c9 NL.out)) rfl ?_
        rw [HE.out]
        refine ⟨none, 0, ?_, .inl rfl, H30.out.drop 3⟩
        rw [HC9.out]
        rfl
    · have g : (fn != 0) = true := by simpa using hf
      have HE : Hid (X = (zeroN, 100)) := by show X = _; rw [HP.out, if_neg]; rintro ⟨h, _⟩; rw [← HFN.out] at h; exact hf h
      clear hf
      have IOz : Hid ((Try.prog.info? 30).map (·.size) = some z.toArray.size) := info_noteA z HZL.out
      have OOz : Hid (z.toArray.all (·.oneCell') = true) := by show _ = true; rw [HZ.out]; exact all_oneCell_toArray (ntC_one rfl)
      have THz : Hid (W20.there b2 0 z.toArray.size) := H20.out.thereV 2 rfl (by simp)
      have hset := Own.St.setAll 2 z 0 W20 _ z H20.out rfl (by simp)
      simp only [List.set_cons_zero, List.set_cons_succ, List.take_zero, List.nil_append] at hset
      obtain ⟨W30, hW30⟩ : ∃ W, W = W20.setCells b2 0 z.toArray.toList := ⟨_, rfl⟩
      have HW30 := Lib.hid hW30
      have H30 : Hid (Own.St B w0 W30 (TS q ao cap p i7 e7 b5 (⟨c, ad, sq, zsum, 0, []⟩ : Nte) nilV b2 z Ps)) := by rw [hW30, List.toList_toArray]; exact hset
      clear hset hW30
      go_wp2_with (first
        | (refine Own.wpList_built rfl 30 #[] rfl z.toArray ?_ ?_; · (simp only [List.map_toArray, List.map_cons, List.map_nil, List.toList_toArray]; exact HZ0.out))
        | (refine wpList_store_mid rfl 30 (.tmp 2) (.tmp 73) rfl b2 0 z.toArray rfl rfl THz.out IOz.out OOz.out ?_; rw [← HW30.out]))
      refine bodyPost_ret (results_cell_two rfl _ _ b2 30 _ (0, 0) _ _ rfl rfl (H30.out.rowV 2 rfl) Try.underlying30 rfl (info_note z HZL.out)) rfl ?_
      rw [HE.out]
      refine ⟨none, 0, ?_, .inl rfl, H30.out.drop 3⟩
      rw [HZ.out]
      rfl
  have hk2 := hk
  clear hk
  by_cases hk : c.toNat = 3
  · skip
    have KK : Hid ((c.toNat : Int) = 3) := by show _ = _; omega
    have HC : Hid (c = 3) := UInt8.toNat_inj.1 (by rw [hk]; rfl)
    obtain ⟨sq, r3, hr3⟩ : ∃ x y, RS.num r1 8 = (x, y) := ⟨_, _, rfl⟩
    have bsq : sq < 18446744073709551616 := by
      have := num_bound r1 8 (by decide)
      rw [show ((8 : Nat) : Int) = 8 from rfl, hr3] at this
      exact this
    have hp : parse p = (⟨3, 0, sq, zsum, 0, []⟩, r3) := by
      rw [parse_3 (by rw [HR1.out]; simp only; rw [HC.out]; rfl)]
      simp only [HR1.out, hr3]
    rw [← HC.out] at hp
    have HP : Hid (X = if r3.fin = 0 ∧ right ⟨c, 0, sq, zsum, 0, []⟩ = true then (⟨c, 0, sq, zsum, 0, []⟩, 0) else (zeroN, 100)) := by show X = _; rw [HX.out, hp]
    have HR3 := Lib.hid hr3
    clear hp hr3 hk
    have d0 : (W5).cell? ⟨b5, 0, none⟩ = some (.int .u8 3) := by
      have h := (H5.out.cellV 1 rfl 0 rfl).1
      rw [← KK.out]
      exact h
    go_wp2_with (first
      | (refine Own.wpList_built rfl 30 #[(0, .tmp 13)] rfl cs.toArray ?_ ?_; · (simp only [List.map_toArray, List.map_cons, List.map_nil, List.toList_toArray]; exact BE.out))
      | (refine Own.wpList_allocZ rfl 30 rfl z.toArray HZ2.out ?_; rw [← HB5.out, ← HW4.out])
      | (refine wpList_store_mid rfl 30 (.tmp 5) (.tmp 14) rfl b5 0 cs.toArray rfl rfl TH.out IO.out OO.out ?_; rw [← HW5.out]))
    clear HB5 HW4 HW5 TH IO OO BE HCS
    refine (Cod.refnum_r H5.out 0 rfl (HINL.out _ H5.out.below) AT1.out 8 HR3.out (by simp)).mono ?_
    clear d0
    rintro e w6 ⟨i6, e6, rfl, hat, h6⟩
    simp only [List.set_cons_zero] at h6 hat
    have HA6 : Hid (Own.St B w0 w6 (TS q ao cap p i6 e6 b5 (⟨c, 0, 0, zsum, 0, []⟩ : Nte) nilV b2 z Ps)) := h6
    have AT6 := Lib.hid hat
    have qc := HA6.out.cellV 1 rfl 2 rfl
    have H6 : Hid (Own.St B w0 (w6.setCell ⟨b5, 2, none⟩ (.int .u64 (sq : Int))) (TS q ao cap p i6 e6 b5 (⟨c, 0, sq, zsum, 0, []⟩ : Nte) nilV b2 z Ps)) := by
      have h := HA6.out.storeV 1 rfl 2 (.int .u64 (sq : Int))
      exact h
    clear hat h6 HA6 HR3
    have d0 : (w6.setCell ⟨b5, 2, none⟩ (.int .u64 (sq : Int))).cell? ⟨b5, 0, none⟩ = some (.int .u8 3) := by
      have h := (H6.out.cellV 1 rfl 0 rfl).1
      rw [← KK.out]
      exact h
    go_wp2_with (fail)
    obtain ⟨fn, hfn⟩ : ∃ f, f = r3.fin := ⟨_, rfl⟩
    have CE := Cod.refend_st H6.out 0 rfl AT6.out HPL.out
    rw [← hfn] at CE
    refine CE.mono ?_
    clear CE
    rintro e w20 ⟨rfl, nq, rfl⟩
    have H20 := Lib.hid (H6.out.drewN nq)
    obtain ⟨W20, hW20⟩ : ∃ W, W = (w6.setCell ⟨b5, 2, none⟩ (.int .u64 (sq : Int))).drewN nq := ⟨_, rfl⟩
    rw [← hW20] at H20 ⊢
    have HFN := Lib.hid hfn
    clear hfn hW20 H6
    try clear qc
    try clear d0
    by_cases hf : fn = 0
    · subst hf
      obtain ⟨c9, hc9⟩ : ∃ x, x = ntC (⟨c, 0, sq, zsum, 0, []⟩ : Nte) nilV := ⟨_, rfl⟩
      have H21 : Hid (Own.St B w0 W20 (ARR q ao cap p i6 e6 :: AVals b5 30 c9 :: AVals b2 30 z :: Ps)) := by rw [hc9]; exact H20.out
      have NL : Hid (c9.length = 37) := by show _ = 37; rw [hc9]; exact ntC_len _ _ zsum_len
      have RN : Hid (W20.rangeAt b5 0 c9) := fun j v hv => by rw [Nat.zero_add]; exact (H21.out.cellV 1 rfl j hv).1
      obtain ⟨rt, hrt⟩ : ∃ b, b = right (⟨c, 0, sq, zsum, 0, []⟩ : Nte) := ⟨_, rfl⟩
      have CR : Hid (Calls Try.prog 13 #[.agg c9.toArray] W20 fun e w' => e = .returned (.bool rt) ∧ Below W20.heap.size W20 w') := by
        rw [hc9, hrt]
        exact right_any (⟨c, 0, sq, zsum, 0, []⟩ : Nte) zsum_len none 0 0 rfl (by omega) W20
      have HRT := Lib.hid hrt
      have HC9 := Lib.hid hc9
      clear hc9 hrt H20
      go_wp2_with (refine wpList_val rfl (load_note c9 NL.out rfl _ (b := b5) (k := 0) RN.out rfl) ?_)
      refine CR.out.mono ?_
      clear CR
      rintro e w22 ⟨rfl, h22⟩
      have H22 := Lib.hid (H21.out.later h22)
      clear h22 H21 RN
      cases rt
      · have HE : Hid (X = (zeroN, 100)) := by show X = _; rw [HP.out, if_neg]; rintro ⟨_, h⟩; rw [← HRT.out] at h; cases h
        have IOz : Hid ((Try.prog.info? 30).map (·.size) = some z.toArray.size) := info_noteA z HZL.out
        have OOz : Hid (z.toArray.all (·.oneCell') = true) := by show _ = true; rw [HZ.out]; exact all_oneCell_toArray (ntC_one rfl)
        have THz : Hid (w22.there b2 0 z.toArray.size) := H22.out.thereV 2 rfl (by simp)
        have hset := Own.St.setAll 2 z 0 w22 _ z H22.out rfl (by simp)
        simp only [List.set_cons_zero, List.set_cons_succ, List.take_zero, List.nil_append] at hset
        obtain ⟨W30, hW30⟩ : ∃ W, W = w22.setCells b2 0 z.toArray.toList := ⟨_, rfl⟩
        have HW30 := Lib.hid hW30
        have H30 : Hid (Own.St B w0 W30 (ARR q ao cap p i6 e6 :: AVals b5 30 c9 :: AVals b2 30 z :: Ps)) := by rw [hW30, List.toList_toArray]; exact hset
        clear hset hW30
        go_wp2_with (first
          | (refine Own.wpList_built rfl 30 #[] rfl z.toArray ?_ ?_; · (simp only [List.map_toArray, List.map_cons, List.map_nil, List.toList_toArray]; exact HZ0.out))
          | (refine wpList_store_mid rfl 30 (.tmp 2) (.tmp 73) rfl b2 0 z.toArray rfl rfl THz.out IOz.out OOz.out ?_; rw [← HW30.out]))
        refine bodyPost_ret (results_cell_two rfl _ _ b2 30 _ (0, 0) _ _ rfl rfl (H30.out.rowV 2 rfl) Try.underlying30 rfl (info_note z HZL.out)) rfl ?_
        rw [HE.out]
        refine ⟨none, 0, ?_, .inl rfl, H30.out.drop 3⟩
        rw [HZ.out]
        rfl
      · have HE : Hid (X = ((⟨c, 0, sq, zsum, 0, []⟩ : Nte), 0)) := by show X = _; rw [HP.out, if_pos ⟨HFN.out.symm, HRT.out.symm⟩]
        have RN : Hid (w22.rangeAt b5 0 c9) := fun j v hv => by rw [Nat.zero_add]; exact (H22.out.cellV 1 rfl j hv).1
        have IO9 : Hid ((Try.prog.info? 30).map (·.size) = some c9.toArray.size) := info_noteA c9 NL.out
        have OO9 : Hid (c9.toArray.all (·.oneCell') = true) := by show _ = true; rw [HC9.out]; exact all_oneCell_toArray (ntC_one rfl)
        have TH9 : Hid (w22.there b2 0 c9.toArray.size) := H22.out.thereV 2 rfl (by rw [List.size_toArray, NL.out, HZL.out]; exact Nat.le_refl _)
        have hset := Own.St.setAll 2 c9 0 w22 _ z H22.out rfl (by rw [NL.out, HZL.out])
        simp only [List.set_cons_zero, List.set_cons_succ, List.take_zero, List.nil_append] at hset
        obtain ⟨W30, hW30⟩ : ∃ W, W = w22.setCells b2 0 c9.toArray.toList := ⟨_, rfl⟩
        have HW30 := Lib.hid hW30
        have H30 : Hid (Own.St B w0 W30 (ARR q ao cap p i6 e6 :: AVals b5 30 c9 :: AVals b2 30 c9 :: Ps)) := by rw [hW30, List.toList_toArray]; exact hset
        clear hset hW30
        go_wp2_with (first
          | (refine wpList_val rfl (load_note c9 NL.out rfl _ (b := b5) (k := 0) RN.out rfl) ?_)
          | (refine wpList_store_mid rfl 30 (.tmp 2) (.tmp 74) rfl b2 0 c9.toArray rfl rfl TH9.out IO9.out OO9.out ?_; rw [← HW30.out]))
        refine bodyPost_ret (results_cell_two rfl _ _ b2 30 _ (0, 0) _ _ rfl rfl (H30.out.rowV 2 rfl) Try.underlying30 rfl (info_note c9 NL.out)) rfl ?_
        rw [HE.out]
        refine ⟨none, 0, ?_, .inl rfl, H30.out.drop 3⟩
        rw [HC9.out]
        rfl
    · have g : (fn != 0) = true := by simpa using hf
      have HE : Hid (X = (zeroN, 100)) := by show X = _; rw [HP.out, if_neg]; rintro ⟨h, _⟩; rw [← HFN.out] at h; exact hf h
      clear hf
      have IOz : Hid ((Try.prog.info? 30).map (·.size) = some z.toArray.size) := info_noteA z HZL.out
      have OOz : Hid (z.toArray.all (·.oneCell') = true) := by show _ = true; rw [HZ.out]; exact all_oneCell_toArray (ntC_one rfl)
      have THz : Hid (W20.there b2 0 z.toArray.size) := H20.out.thereV 2 rfl (by simp)
      have hset := Own.St.setAll 2 z 0 W20 _ z H20.out rfl (by simp)
      simp only [List.set_cons_zero, List.set_cons_succ, List.take_zero, List.nil_append] at hset
      obtain ⟨W30, hW30⟩ : ∃ W, W = W20.setCells b2 0 z.toArray.toList := ⟨_, rfl⟩
      have HW30 := Lib.hid hW30
      have H30 : Hid (Own.St B w0 W30 (TS q ao cap p i6 e6 b5 (⟨c, 0, sq, zsum, 0, []⟩ : Nte) nilV b2 z Ps)) := by rw [hW30, List.toList_toArray]; exact hset
      clear hset hW30
      go_wp2_with (first
        | (refine Own.wpList_built rfl 30 #[] rfl z.toArray ?_ ?_; · (simp only [List.map_toArray, List.map_cons, List.map_nil, List.toList_toArray]; exact HZ0.out))
        | (refine wpList_store_mid rfl 30 (.tmp 2) (.tmp 73) rfl b2 0 z.toArray rfl rfl THz.out IOz.out OOz.out ?_; rw [← HW30.out]))
      refine bodyPost_ret (results_cell_two rfl _ _ b2 30 _ (0, 0) _ _ rfl rfl (H30.out.rowV 2 rfl) Try.underlying30 rfl (info_note z HZL.out)) rfl ?_
      rw [HE.out]
      refine ⟨none, 0, ?_, .inl rfl, H30.out.drop 3⟩
      rw [HZ.out]
      rfl
  have hk3 := hk
  clear hk
  by_cases hk : c.toNat = 4
  · skip
    have KK : Hid ((c.toNat : Int) = 4) := by show _ = _; omega
    have HC : Hid (c = 4) := UInt8.toNat_inj.1 (by rw [hk]; rfl)
    obtain ⟨xs, r4, hr4⟩ : ∃ x y, RS.raw r1 32 = (x, y) := ⟨_, _, rfl⟩
    obtain ⟨m, hmx⟩ : ∃ m, xs.length = m := ⟨_, rfl⟩
    have hm32 : m = 0 ∨ m = 32 := by have := raw_size r1; rw [hr4] at this; rw [← hmx]; exact this
    have hm32l : m ≤ 32 := by omega
    have HMX := Lib.hid hmx
    obtain ⟨kn, r5, hr5⟩ : ∃ x y, RS.num r4 4 = (x, y) := ⟨_, _, rfl⟩
    have bkn : kn < 4294967296 := by
      have := num_bound r4 4 (by decide)
      rw [show ((4 : Nat) : Int) = 4 from rfl, hr5] at this
      exact this
    obtain ⟨ys, r6, hr6⟩ : ∃ x y, RS.blob r5 300 = (x, y) := ⟨_, _, rfl⟩
    obtain ⟨l, hly⟩ : ∃ m, ys.length = m := ⟨_, rfl⟩
    have hl300 : l ≤ 300 := by have := blob_size r5; rw [hr6] at this; rw [← hly]; exact this
    have HLY := Lib.hid hly
    have hp : parse p = (⟨4, 0, 0, pad xs, kn, ys⟩, r6) := by
      rw [parse_4 (by rw [HR1.out]; simp only; rw [HC.out]; rfl)]
      simp only [HR1.out, hr4, hr5, hr6]
    rw [← HC.out] at hp
    have HP : Hid (X = if r6.fin = 0 ∧ right ⟨c, 0, 0, pad xs, kn, ys⟩ = true then (⟨c, 0, 0, pad xs, kn, ys⟩, 0) else (zeroN, 100)) := by show X = _; rw [HX.out, hp]
    have HR4 := Lib.hid hr4
    have HR5 := Lib.hid hr5
    have HR6 := Lib.hid hr6
    clear hp hr4 hr5 hr6 hmx hm32 hly hk
    have d0 : (W5).cell? ⟨b5, 0, none⟩ = some (.int .u8 4) := by
      have h := (H5.out.cellV 1 rfl 0 rfl).1
      rw [← KK.out]
      exact h
    go_wp2_with (first
      | (refine Own.wpList_built rfl 30 #[(0, .tmp 13)] rfl cs.toArray ?_ ?_; · (simp only [List.map_toArray, List.map_cons, List.map_nil, List.toList_toArray]; exact BE.out))
      | (refine Own.wpList_allocZ rfl 30 rfl z.toArray HZ2.out ?_; rw [← HB5.out, ← HW4.out])
      | (refine wpList_store_mid rfl 30 (.tmp 5) (.tmp 14) rfl b5 0 cs.toArray rfl rfl TH.out IO.out OO.out ?_; rw [← HW5.out]))
    clear HB5 HW4 HW5 TH IO OO BE HCS
    refine (Cod.refraw_r H5.out 0 rfl (HINL.out _ H5.out.below) AT1.out 32 HR4.out HMX.out).mono ?_
    clear d0
    rintro e w6 ⟨ax, cx, i6, e6, rfl, hvx, hat, h6⟩
    simp only [List.set_cons_zero] at h6 hat
    have H6 : Hid (Own.St B w0 w6 (TS q ao cap p i6 e6 b5 (⟨c, 0, 0, zsum, 0, []⟩ : Nte) nilV b2 z Ps)) := h6
    have AT6 := Lib.hid hat
    have VX : Hid (∀ wx, Below B w0 wx → View wx (fun k => k < B) ax xs) := fun wx hwx => View.same hvx (fun k hk => (hwx.block k hk).trans (H6.out.below.block k hk).symm)
    clear hat hvx h6 HR4
    go_wp2_with (fail)
    go_loopw [7] (fun v wr => ∃ k : Nat, k ≤ m ∧ v = .int .i64 (k : Int) ∧ Own.St B w0 wr (TS q ao cap p i6 e6 b5 (⟨c, 0, 0, padI xs k, 0, []⟩ : Nte) nilV b2 z Ps)) (fun v _ => m - (intOf v).toNat)
    case atStart => exact ⟨0, Nat.zero_le _, rfl, by rw [padI_zero]; exact H6.out⟩
    case round =>
      obtain ⟨k, hkm, rfl, h⟩ := hrel
      have H := Lib.hid h
      clear h
      by_cases hkk : (k : Int) < (m : Int)
      · have hkn : k < m := by omega
        obtain ⟨bx, ox, hbx, _, _, cx0⟩ := vat (VX.out wr H.out.below) (k := k) (by rw [HMX.out]; exact hkn)
        subst hbx
        obtain ⟨y, hy⟩ : ∃ y, y = xs.getD k 0 := ⟨_, rfl⟩
        rw [← hy] at cx0
        have hpl2 := padI_len xs k (by rw [HMX.out]; exact hkm) (by omega)
        have qc := H.out.cellV 1 rfl (3 + k) (ntC_sum _ _ k _ (sum_at _ hpl2 k (by omega)))
        have PUT : Hid (Own.St B w0 (wr.setCell ⟨b5, 3 + k, none⟩ (.int .u8 (y.toNat : Int))) (TS q ao cap p i6 e6 b5 (⟨c, 0, 0, padI xs (k + 1), 0, []⟩ : Nte) nilV b2 z Ps)) := by
          have h := H.out.storeV 1 rfl (3 + k) (.int .u8 (y.toNat : Int))
          have e := ntC_setS (⟨c, 0, 0, padI xs k, 0, []⟩ : Nte) nilV k hpl2 (by omega) y
          rw [show (.int .u8 (y.toNat : Int) : Value) = byteV y from rfl, e] at h
          simp only [hy] at h
          rw [padI_set xs k (by rw [HMX.out]; exact hkn) (by omega)] at h
          rw [hy]
          exact h
        clear H hpl2 hy
        go_wp2
        go_roundw
        case rel => exact ⟨k + 1, by omega, by go_num, PUT.out⟩
        case measure => simp [intOf]; omega
      · have HSL : Hid ((pad xs).length = 32) := by
          show _ = 32
          rw [← padI_end]
          exact padI_len xs _ (Nat.le_refl _) (by rw [HMX.out]; omega)
        have HL : Hid (Own.St B w0 wr (TS q ao cap p i6 e6 b5 (⟨c, 0, 0, pad xs, 0, []⟩ : Nte) nilV b2 z Ps)) := by
          have h := H.out
          rw [show k = xs.length by rw [HMX.out]; omega, padI_end] at h
          exact h
        clear H hkm VX H6
        have d0 : (wr).cell? ⟨b5, 0, none⟩ = some (.int .u8 4) := by
          have h := (HL.out.cellV 1 rfl 0 rfl).1
          rw [← KK.out]
          exact h
        go_wp2_with (fail)
        refine (Cod.refnum_r HL.out 0 rfl (HINL.out _ HL.out.below) AT6.out 4 HR5.out (by simp)).mono ?_
        clear d0
        rintro e w7 ⟨i7, e7, rfl, hat, h7⟩
        simp only [List.set_cons_zero] at h7 hat
        have HA7 : Hid (Own.St B w0 w7 (TS q ao cap p i7 e7 b5 (⟨c, 0, 0, pad xs, 0, []⟩ : Nte) nilV b2 z Ps)) := h7
        have AT7 := Lib.hid hat
        have qc := HA7.out.cellV 1 rfl 35 (ntC_kn _ _ HSL.out)
        have H7 : Hid (Own.St B w0 (w7.setCell ⟨b5, 35, none⟩ (.int .u32 (kn : Int))) (TS q ao cap p i7 e7 b5 (⟨c, 0, 0, pad xs, kn, []⟩ : Nte) nilV b2 z Ps)) := by
          have h := HA7.out.storeV 1 rfl 35 (.int .u32 (kn : Int))
          rw [ntC_setN _ _ HSL.out] at h
          exact h
        clear hat h7 HA7 HR5
        have d0 : (w7.setCell ⟨b5, 35, none⟩ (.int .u32 (kn : Int))).cell? ⟨b5, 0, none⟩ = some (.int .u8 4) := by
          have h := (H7.out.cellV 1 rfl 0 rfl).1
          rw [← KK.out]
          exact h
        go_wp2_with (fail)
        refine (Cod.refblob_r H7.out 0 rfl (HINL.out _ H7.out.below) AT7.out 300 (by decide) HR6.out HLY.out).mono ?_
        clear d0
        rintro e w8 ⟨ay, cy, i8, e8, rfl, hvy, hat, h8⟩
        simp only [List.set_cons_zero] at h8 hat
        have HA8 : Hid (Own.St B w0 w8 (TS q ao cap p i8 e8 b5 (⟨c, 0, 0, pad xs, kn, []⟩ : Nte) nilV b2 z Ps)) := h8
        have AT8 := Lib.hid hat
        have qc := HA8.out.cellV 1 rfl 36 (ntC_data _ _ HSL.out)
        have H8 : Hid (Own.St B w0 (w8.setCell ⟨b5, 36, none⟩ (.slice ay l cy)) (TS q ao cap p i8 e8 b5 (⟨c, 0, 0, pad xs, kn, ys⟩ : Nte) (.slice ay l cy) b2 z Ps)) := by
          have h := HA8.out.storeV 1 rfl 36 (.slice ay l cy)
          rw [ntC_setD _ _ _ HSL.out] at h
          exact h
        have VY : Hid (∀ wx, Below B w0 wx → View wx (fun k => k < B) ay ys) := fun wx hwx => View.same hvy (fun k hk => (hwx.block k hk).trans (HA8.out.below.block k hk).symm)
        clear hat hvy h8 HA8 HR6
        go_wp2_with (fail)
        obtain ⟨fn, hfn⟩ : ∃ f, f = r6.fin := ⟨_, rfl⟩
        have CE := Cod.refend_st H8.out 0 rfl AT8.out HPL.out
        rw [← hfn] at CE
        refine CE.mono ?_
        clear CE
        rintro e w20 ⟨rfl, nq, rfl⟩
        have H20 := Lib.hid (H8.out.drewN nq)
        obtain ⟨W20, hW20⟩ : ∃ W, W = (w8.setCell ⟨b5, 36, none⟩ (.slice ay l cy)).drewN nq := ⟨_, rfl⟩
        rw [← hW20] at H20 ⊢
        have HFN := Lib.hid hfn
        clear hfn hW20 H8
        try clear qc
        try clear d0
        by_cases hf : fn = 0
        · subst hf
          obtain ⟨c9, hc9⟩ : ∃ x, x = ntC (⟨c, 0, 0, pad xs, kn, ys⟩ : Nte) (.slice ay l cy) := ⟨_, rfl⟩
          have H21 : Hid (Own.St B w0 W20 (ARR q ao cap p i8 e8 :: AVals b5 30 c9 :: AVals b2 30 z :: Ps)) := by rw [hc9]; exact H20.out
          have NL : Hid (c9.length = 37) := by show _ = 37; rw [hc9]; exact ntC_len _ _ HSL.out
          have RN : Hid (W20.rangeAt b5 0 c9) := fun j v hv => by rw [Nat.zero_add]; exact (H21.out.cellV 1 rfl j hv).1
          obtain ⟨rt, hrt⟩ : ∃ b, b = right (⟨c, 0, 0, pad xs, kn, ys⟩ : Nte) := ⟨_, rfl⟩
          have CR : Hid (Calls Try.prog 13 #[.agg c9.toArray] W20 fun e w' => e = .returned (.bool rt) ∧ Below W20.heap.size W20 w') := by
            rw [hc9, hrt]
            exact right_any (⟨c, 0, 0, pad xs, kn, ys⟩ : Nte) HSL.out ay l cy HLY.out (by omega) W20
          have HRT := Lib.hid hrt
          have HC9 := Lib.hid hc9
          clear hc9 hrt H20
          go_wp2_with (refine wpList_val rfl (load_note c9 NL.out rfl _ (b := b5) (k := 0) RN.out rfl) ?_)
          refine CR.out.mono ?_
          clear CR
          rintro e w22 ⟨rfl, h22⟩
          have H22 := Lib.hid (H21.out.later h22)
          clear h22 H21 RN
          cases rt
          · have HE : Hid (X = (zeroN, 100)) := by show X = _; rw [HP.out, if_neg]; rintro ⟨_, h⟩; rw [← HRT.out] at h; cases h
            have IOz : Hid ((Try.prog.info? 30).map (·.size) = some z.toArray.size) := info_noteA z HZL.out
            have OOz : Hid (z.toArray.all (·.oneCell') = true) := by show _ = true; rw [HZ.out]; exact all_oneCell_toArray (ntC_one rfl)
            have THz : Hid (w22.there b2 0 z.toArray.size) := H22.out.thereV 2 rfl (by simp)
            have hset := Own.St.setAll 2 z 0 w22 _ z H22.out rfl (by simp)
            simp only [List.set_cons_zero, List.set_cons_succ, List.take_zero, List.nil_append] at hset
            obtain ⟨W30, hW30⟩ : ∃ W, W = w22.setCells b2 0 z.toArray.toList := ⟨_, rfl⟩
            have HW30 := Lib.hid hW30
            have H30 : Hid (Own.St B w0 W30 (ARR q ao cap p i8 e8 :: AVals b5 30 c9 :: AVals b2 30 z :: Ps)) := by rw [hW30, List.toList_toArray]; exact hset
            clear hset hW30
            go_wp2_with (first
              | (refine Own.wpList_built rfl 30 #[] rfl z.toArray ?_ ?_; · (simp only [List.map_toArray, List.map_cons, List.map_nil, List.toList_toArray]; exact HZ0.out))
              | (refine wpList_store_mid rfl 30 (.tmp 2) (.tmp 73) rfl b2 0 z.toArray rfl rfl THz.out IOz.out OOz.out ?_; rw [← HW30.out]))
            refine bodyPost_ret (results_cell_two rfl _ _ b2 30 _ (0, 0) _ _ rfl rfl (H30.out.rowV 2 rfl) Try.underlying30 rfl (info_note z HZL.out)) rfl ?_
            rw [HE.out]
            refine ⟨none, 0, ?_, .inl rfl, H30.out.drop 3⟩
            rw [HZ.out]
            rfl
          · have HE : Hid (X = ((⟨c, 0, 0, pad xs, kn, ys⟩ : Nte), 0)) := by show X = _; rw [HP.out, if_pos ⟨HFN.out.symm, HRT.out.symm⟩]
            have RN : Hid (w22.rangeAt b5 0 c9) := fun j v hv => by rw [Nat.zero_add]; exact (H22.out.cellV 1 rfl j hv).1
            have IO9 : Hid ((Try.prog.info? 30).map (·.size) = some c9.toArray.size) := info_noteA c9 NL.out
            have OO9 : Hid (c9.toArray.all (·.oneCell') = true) := by show _ = true; rw [HC9.out]; exact all_oneCell_toArray (ntC_one rfl)
            have TH9 : Hid (w22.there b2 0 c9.toArray.size) := H22.out.thereV 2 rfl (by rw [List.size_toArray, NL.out, HZL.out]; exact Nat.le_refl _)
            have hset := Own.St.setAll 2 c9 0 w22 _ z H22.out rfl (by rw [NL.out, HZL.out])
            simp only [List.set_cons_zero, List.set_cons_succ, List.take_zero, List.nil_append] at hset
            obtain ⟨W30, hW30⟩ : ∃ W, W = w22.setCells b2 0 c9.toArray.toList := ⟨_, rfl⟩
            have HW30 := Lib.hid hW30
            have H30 : Hid (Own.St B w0 W30 (ARR q ao cap p i8 e8 :: AVals b5 30 c9 :: AVals b2 30 c9 :: Ps)) := by rw [hW30, List.toList_toArray]; exact hset
            clear hset hW30
            go_wp2_with (first
              | (refine wpList_val rfl (load_note c9 NL.out rfl _ (b := b5) (k := 0) RN.out rfl) ?_)
              | (refine wpList_store_mid rfl 30 (.tmp 2) (.tmp 74) rfl b2 0 c9.toArray rfl rfl TH9.out IO9.out OO9.out ?_; rw [← HW30.out]))
            refine bodyPost_ret (results_cell_two rfl _ _ b2 30 _ (0, 0) _ _ rfl rfl (H30.out.rowV 2 rfl) Try.underlying30 rfl (info_note c9 NL.out)) rfl ?_
            rw [HE.out]
            refine ⟨ay, cy, ?_, VY.out _ H30.out.below, H30.out.drop 3⟩
            rw [HC9.out]
            simp only [HLY.out]
            rfl
        · have g : (fn != 0) = true := by simpa using hf
          have HE : Hid (X = (zeroN, 100)) := by show X = _; rw [HP.out, if_neg]; rintro ⟨h, _⟩; rw [← HFN.out] at h; exact hf h
          clear hf
          have IOz : Hid ((Try.prog.info? 30).map (·.size) = some z.toArray.size) := info_noteA z HZL.out
          have OOz : Hid (z.toArray.all (·.oneCell') = true) := by show _ = true; rw [HZ.out]; exact all_oneCell_toArray (ntC_one rfl)
          have THz : Hid (W20.there b2 0 z.toArray.size) := H20.out.thereV 2 rfl (by simp)
          have hset := Own.St.setAll 2 z 0 W20 _ z H20.out rfl (by simp)
          simp only [List.set_cons_zero, List.set_cons_succ, List.take_zero, List.nil_append] at hset
          obtain ⟨W30, hW30⟩ : ∃ W, W = W20.setCells b2 0 z.toArray.toList := ⟨_, rfl⟩
          have HW30 := Lib.hid hW30
          have H30 : Hid (Own.St B w0 W30 (TS q ao cap p i8 e8 b5 (⟨c, 0, 0, pad xs, kn, ys⟩ : Nte) (.slice ay l cy) b2 z Ps)) := by rw [hW30, List.toList_toArray]; exact hset
          clear hset hW30
          go_wp2_with (first
            | (refine Own.wpList_built rfl 30 #[] rfl z.toArray ?_ ?_; · (simp only [List.map_toArray, List.map_cons, List.map_nil, List.toList_toArray]; exact HZ0.out))
            | (refine wpList_store_mid rfl 30 (.tmp 2) (.tmp 73) rfl b2 0 z.toArray rfl rfl THz.out IOz.out OOz.out ?_; rw [← HW30.out]))
          refine bodyPost_ret (results_cell_two rfl _ _ b2 30 _ (0, 0) _ _ rfl rfl (H30.out.rowV 2 rfl) Try.underlying30 rfl (info_note z HZL.out)) rfl ?_
          rw [HE.out]
          refine ⟨none, 0, ?_, .inl rfl, H30.out.drop 3⟩
          rw [HZ.out]
          rfl
  have hk4 := hk
  clear hk
  have g1 : ((c.toNat : Int) == 1) = false := by simp; omega
  have g2 : ((c.toNat : Int) == 2) = false := by simp; omega
  have g4 : ((c.toNat : Int) == 4) = false := by simp; omega
  have g4n : ((c.toNat : Int) != 4) = true := by simp; omega
  have HC : Hid (¬ c = 1 ∧ ¬ c = 2 ∧ ¬ c = 4) := ⟨fun h => hk1 (by rw [h]; rfl), fun h => hk2 (by rw [h]; rfl), fun h => hk4 (by rw [h]; rfl)⟩
  obtain ⟨sq, r3, hr3⟩ : ∃ x y, RS.num r1 8 = (x, y) := ⟨_, _, rfl⟩
  have bsq : sq < 18446744073709551616 := by
    have := num_bound r1 8 (by decide)
    rw [show ((8 : Nat) : Int) = 8 from rfl, hr3] at this
    exact this
  have hp : parse p = (⟨c, 0, sq, zsum, 0, []⟩, r3) := by
    unfold parse
    simp only [HR1.out, show UInt8.ofNat c.toNat = c from UInt8.toNat_inj.1 (by simp), HC.out.1, HC.out.2.1, HC.out.2.2, or_self, if_false, hr3]
  have HP : Hid (X = if r3.fin = 0 ∧ right ⟨c, 0, sq, zsum, 0, []⟩ = true then (⟨c, 0, sq, zsum, 0, []⟩, 0) else (zeroN, 100)) := by show X = _; rw [HX.out, hp]
  have HR3 := Lib.hid hr3
  clear hp hr3 hk1 hk2 hk3 hk4
  have d0 : (W5).cell? ⟨b5, 0, none⟩ = some (.int .u8 (c.toNat : Int)) := (H5.out.cellV 1 rfl 0 rfl).1
  go_wp2_with (first
    | (refine Own.wpList_built rfl 30 #[(0, .tmp 13)] rfl cs.toArray ?_ ?_; · (simp only [List.map_toArray, List.map_cons, List.map_nil, List.toList_toArray]; exact BE.out))
    | (refine Own.wpList_allocZ rfl 30 rfl z.toArray HZ2.out ?_; rw [← HB5.out, ← HW4.out])
    | (refine wpList_store_mid rfl 30 (.tmp 5) (.tmp 14) rfl b5 0 cs.toArray rfl rfl TH.out IO.out OO.out ?_; rw [← HW5.out]))
  clear HB5 HW4 HW5 TH IO OO BE HCS
  refine (Cod.refnum_r H5.out 0 rfl (HINL.out _ H5.out.below) AT1.out 8 HR3.out (by simp)).mono ?_
  clear d0
  rintro e w6 ⟨i6, e6, rfl, hat, h6⟩
  simp only [List.set_cons_zero] at h6 hat
  have HA6 : Hid (Own.St B w0 w6 (TS q ao cap p i6 e6 b5 (⟨c, 0, 0, zsum, 0, []⟩ : Nte) nilV b2 z Ps)) := h6
  have AT6 := Lib.hid hat
  have qc := HA6.out.cellV 1 rfl 2 rfl
  have H6 : Hid (Own.St B w0 (w6.setCell ⟨b5, 2, none⟩ (.int .u64 (sq : Int))) (TS q ao cap p i6 e6 b5 (⟨c, 0, sq, zsum, 0, []⟩ : Nte) nilV b2 z Ps)) := by
    have h := HA6.out.storeV 1 rfl 2 (.int .u64 (sq : Int))
    exact h
  clear hat h6 HA6 HR3
  have d0 : (w6.setCell ⟨b5, 2, none⟩ (.int .u64 (sq : Int))).cell? ⟨b5, 0, none⟩ = some (.int .u8 (c.toNat : Int)) := (H6.out.cellV 1 rfl 0 rfl).1
  go_wp2_with (fail)
  obtain ⟨fn, hfn⟩ : ∃ f, f = r3.fin := ⟨_, rfl⟩
  have CE := Cod.refend_st H6.out 0 rfl AT6.out HPL.out
  rw [← hfn] at CE
  refine CE.mono ?_
  clear CE
  rintro e w20 ⟨rfl, nq, rfl⟩
  have H20 := Lib.hid (H6.out.drewN nq)
  obtain ⟨W20, hW20⟩ : ∃ W, W = (w6.setCell ⟨b5, 2, none⟩ (.int .u64 (sq : Int))).drewN nq := ⟨_, rfl⟩
  rw [← hW20] at H20 ⊢
  have HFN := Lib.hid hfn
  clear hfn hW20 H6
  try clear qc
  try clear d0
  by_cases hf : fn = 0
  · subst hf
    obtain ⟨c9, hc9⟩ : ∃ x, x = ntC (⟨c, 0, sq, zsum, 0, []⟩ : Nte) nilV := ⟨_, rfl⟩
    have H21 : Hid (Own.St B w0 W20 (ARR q ao cap p i6 e6 :: AVals b5 30 c9 :: AVals b2 30 z :: Ps)) := by rw [hc9]; exact H20.out
    have NL : Hid (c9.length = 37) := by show _ = 37; rw [hc9]; exact ntC_len _ _ zsum_len
    have RN : Hid (W20.rangeAt b5 0 c9) := fun j v hv => by rw [Nat.zero_add]; exact (H21.out.cellV 1 rfl j hv).1
    obtain ⟨rt, hrt⟩ : ∃ b, b = right (⟨c, 0, sq, zsum, 0, []⟩ : Nte) := ⟨_, rfl⟩
    have CR : Hid (Calls Try.prog 13 #[.agg c9.toArray] W20 fun e w' => e = .returned (.bool rt) ∧ Below W20.heap.size W20 w') := by
      rw [hc9, hrt]
      exact right_any (⟨c, 0, sq, zsum, 0, []⟩ : Nte) zsum_len none 0 0 rfl (by omega) W20
    have HRT := Lib.hid hrt
    have HC9 := Lib.hid hc9
    clear hc9 hrt H20
    go_wp2_with (refine wpList_val rfl (load_note c9 NL.out rfl _ (b := b5) (k := 0) RN.out rfl) ?_)
    refine CR.out.mono ?_
    clear CR
    rintro e w22 ⟨rfl, h22⟩
    have H22 := Lib.hid (H21.out.later h22)
    clear h22 H21 RN
    cases rt
    · have HE : Hid (X = (zeroN, 100)) := by show X = _; rw [HP.out, if_neg]; rintro ⟨_, h⟩; rw [← HRT.out] at h; cases h
      have IOz : Hid ((Try.prog.info? 30).map (·.size) = some z.toArray.size) := info_noteA z HZL.out
      have OOz : Hid (z.toArray.all (·.oneCell') = true) := by show _ = true; rw [HZ.out]; exact all_oneCell_toArray (ntC_one rfl)
      have THz : Hid (w22.there b2 0 z.toArray.size) := H22.out.thereV 2 rfl (by simp)
      have hset := Own.St.setAll 2 z 0 w22 _ z H22.out rfl (by simp)
      simp only [List.set_cons_zero, List.set_cons_succ, List.take_zero, List.nil_append] at hset
      obtain ⟨W30, hW30⟩ : ∃ W, W = w22.setCells b2 0 z.toArray.toList := ⟨_, rfl⟩
      have HW30 := Lib.hid hW30
      have H30 : Hid (Own.St B w0 W30 (ARR q ao cap p i6 e6 :: AVals b5 30 c9 :: AVals b2 30 z :: Ps)) := by rw [hW30, List.toList_toArray]; exact hset
      clear hset hW30
      go_wp2_with (first
        | (refine Own.wpList_built rfl 30 #[] rfl z.toArray ?_ ?_; · (simp only [List.map_toArray, List.map_cons, List.map_nil, List.toList_toArray]; exact HZ0.out))
        | (refine wpList_store_mid rfl 30 (.tmp 2) (.tmp 73) rfl b2 0 z.toArray rfl rfl THz.out IOz.out OOz.out ?_; rw [← HW30.out]))
      refine bodyPost_ret (results_cell_two rfl _ _ b2 30 _ (0, 0) _ _ rfl rfl (H30.out.rowV 2 rfl) Try.underlying30 rfl (info_note z HZL.out)) rfl ?_
      rw [HE.out]
      refine ⟨none, 0, ?_, .inl rfl, H30.out.drop 3⟩
      rw [HZ.out]
      rfl
    · have HE : Hid (X = ((⟨c, 0, sq, zsum, 0, []⟩ : Nte), 0)) := by show X = _; rw [HP.out, if_pos ⟨HFN.out.symm, HRT.out.symm⟩]
      have RN : Hid (w22.rangeAt b5 0 c9) := fun j v hv => by rw [Nat.zero_add]; exact (H22.out.cellV 1 rfl j hv).1
      have IO9 : Hid ((Try.prog.info? 30).map (·.size) = some c9.toArray.size) := info_noteA c9 NL.out
      have OO9 : Hid (c9.toArray.all (·.oneCell') = true) := by show _ = true; rw [HC9.out]; exact all_oneCell_toArray (ntC_one rfl)
      have TH9 : Hid (w22.there b2 0 c9.toArray.size) := H22.out.thereV 2 rfl (by rw [List.size_toArray, NL.out, HZL.out]; exact Nat.le_refl _)
      have hset := Own.St.setAll 2 c9 0 w22 _ z H22.out rfl (by rw [NL.out, HZL.out])
      simp only [List.set_cons_zero, List.set_cons_succ, List.take_zero, List.nil_append] at hset
      obtain ⟨W30, hW30⟩ : ∃ W, W = w22.setCells b2 0 c9.toArray.toList := ⟨_, rfl⟩
      have HW30 := Lib.hid hW30
      have H30 : Hid (Own.St B w0 W30 (ARR q ao cap p i6 e6 :: AVals b5 30 c9 :: AVals b2 30 c9 :: Ps)) := by rw [hW30, List.toList_toArray]; exact hset
      clear hset hW30
      go_wp2_with (first
        | (refine wpList_val rfl (load_note c9 NL.out rfl _ (b := b5) (k := 0) RN.out rfl) ?_)
        | (refine wpList_store_mid rfl 30 (.tmp 2) (.tmp 74) rfl b2 0 c9.toArray rfl rfl TH9.out IO9.out OO9.out ?_; rw [← HW30.out]))
      refine bodyPost_ret (results_cell_two rfl _ _ b2 30 _ (0, 0) _ _ rfl rfl (H30.out.rowV 2 rfl) Try.underlying30 rfl (info_note c9 NL.out)) rfl ?_
      rw [HE.out]
      refine ⟨none, 0, ?_, .inl rfl, H30.out.drop 3⟩
      rw [HC9.out]
      rfl
  · have g : (fn != 0) = true := by simpa using hf
    have HE : Hid (X = (zeroN, 100)) := by show X = _; rw [HP.out, if_neg]; rintro ⟨h, _⟩; rw [← HFN.out] at h; exact hf h
    clear hf
    have IOz : Hid ((Try.prog.info? 30).map (·.size) = some z.toArray.size) := info_noteA z HZL.out
    have OOz : Hid (z.toArray.all (·.oneCell') = true) := by show _ = true; rw [HZ.out]; exact all_oneCell_toArray (ntC_one rfl)
    have THz : Hid (W20.there b2 0 z.toArray.size) := H20.out.thereV 2 rfl (by simp)
    have hset := Own.St.setAll 2 z 0 W20 _ z H20.out rfl (by simp)
    simp only [List.set_cons_zero, List.set_cons_succ, List.take_zero, List.nil_append] at hset
    obtain ⟨W30, hW30⟩ : ∃ W, W = W20.setCells b2 0 z.toArray.toList := ⟨_, rfl⟩
    have HW30 := Lib.hid hW30
    have H30 : Hid (Own.St B w0 W30 (TS q ao cap p i6 e6 b5 (⟨c, 0, sq, zsum, 0, []⟩ : Nte) nilV b2 z Ps)) := by rw [hW30, List.toList_toArray]; exact hset
    clear hset hW30
    go_wp2_with (first
      | (refine Own.wpList_built rfl 30 #[] rfl z.toArray ?_ ?_; · (simp only [List.map_toArray, List.map_cons, List.map_nil, List.toList_toArray]; exact HZ0.out))
      | (refine wpList_store_mid rfl 30 (.tmp 2) (.tmp 73) rfl b2 0 z.toArray rfl rfl THz.out IOz.out OOz.out ?_; rw [← HW30.out]))
    refine bodyPost_ret (results_cell_two rfl _ _ b2 30 _ (0, 0) _ _ rfl rfl (H30.out.rowV 2 rfl) Try.underlying30 rfl (info_note z HZL.out)) rfl ?_
    rw [HE.out]
    refine ⟨none, 0, ?_, .inl rfl, H30.out.drop 3⟩
    rw [HZ.out]
    rfl
end Rec
end Go.Proofs.Ytefbcoakjdjkgaa
