/- CrcTells: the walk. -/
import Derived.Test.YthbipankdbfdjaaLawTells
namespace Go.Proofs.Ythbipankdbfdjaa
open Go.RowKit Go.Own
namespace Crc
open Go.CrcM Cod

theorem bit_tmod (b : R) (k : Nat) : (((b.toNat : Int) / 2 ^ k).tmod 2 == 1) = b.getLsbD k := by
  have e : ((b.toNat : Int) / 2 ^ k) = ((b.toNat / 2 ^ k : Nat) : Int) := by simp
  rw [e, BitVec.getLsbD, Nat.testBit_eq_decide_div_mod_eq]
  show (((b.toNat / 2 ^ k % 2 : Nat) : Int) == 1) = _
  rw [Bool.eq_iff_iff]
  simp
  omega

theorem turn_fact (d : UInt8) (q : Nat) (hq : q < 8) : bits .xor .u8 (d.toNat : Int) (IntKind.u8.wrap (2 ^ q)) = ((turnBit d q).toNat : Int) := by
  have h2 : 2 ^ q < 2 ^ 8 := Nat.pow_lt_pow_right (by omega) hq
  have e : IntKind.u8.wrap (2 ^ q) = ((2 ^ q : Nat) : Int) := by
    have : ((2 : Int) ^ q) = ((2 ^ q : Nat) : Int) := by simp
    rw [this]
    generalize 2 ^ q = z at h2
    exact IntWalk.u8_in _ (by omega)
  rw [e, u8_xor_nat _ _ d.toNat_lt (by omega), turnBit_nat d q hq]

set_option maxHeartbeats 1600000 in
theorem walk_tells (a1 : Option Addr) (len1 cap1 : Nat) (x1 : List UInt8) {w : World} (w1 : inBytes x1 w.heap.size w [.slice a1 len1 cap1]) (a2 : Int) (w2 : (Lit.int .u64 a2).wf = true) (a3 : Int) (w3 : (Lit.int .u32 a3).wf = true) :
    Calls Try.prog 6 #[.slice a1 len1 cap1, .int .u64 a2, .int .u32 a3] w (RetTrue w) := by
  have h2 : 0 ≤ a2 ∧ a2 ≤ 18446744073709551615 := by simpa [Lit.wf, IntKind.min, IntKind.max, IntKind.signed, IntKind.bits] using w2
  obtain ⟨c, rfl⟩ := Int.eq_ofNat_of_zero_le h2.1
  obtain ⟨b, rfl⟩ := reg_of w3
  obtain ⟨m, hm⟩ : ∃ m, (fw x1).length = m := ⟨_, rfl⟩
  have hm5 : m ≤ 50000 := by rw [← hm, fw_len]; omega
  obtain ⟨n, hn⟩ : ∃ n, n = m + 4 := ⟨_, rfl⟩
  obtain ⟨f, hf, hfn⟩ : ∃ f : Nat, (c : Int) % (8 * ((n : Nat) : Int)) = (f : Int) ∧ f < 8 * n := ⟨c % (8 * n), by simp, Nat.mod_lt c (by omega)⟩
  have hn5 : n ≤ 50004 := by omega
  have hmn : (m : Int) + 4 = (n : Int) := by omega
  have HF := Lib.hid (fun (w2 : World) => few_in (w := w2) w1 hm)
  have HV := Lib.hid (in_few w1).2.2.2.2.2
  have HM := Lib.hid hm
  have HN := Lib.hid hn
  clear w1 w2 w3 hm hn
  go_enter Try.func6, Try.ntmps6
  go_wp2_with (fail)
  refine (shown_any w).mono ?_
  rintro e wa ⟨rfl, hb⟩
  have HBa := Lib.hid hb
  clear hb
  go_wp2_with (fail)
  refine (HF.out wa).mono ?_
  rintro e wb ⟨rfl, rfl⟩
  go_wp2_with (fail)
  have hc := seal_any _ a1 (fw x1) cap1 n wa (HV.out.below HBa.out) (by rw [HM.out]; omega) (by rw [HM.out, HN.out])
  rw [HM.out] at hc
  refine hc.mono ?_
  clear hc
  rintro e wb ⟨v, rfl, a9, c9, T9, rfl, hr9, hs9⟩
  have H0 : Hid (St w.heap.size w wb [AB a9 n c9 (sealed (fw x1))]) := (⟨HBa.out, HBa.out.size, fun _ => False, fun _ h => h, fun _ h => h.elim⟩ : St w.heap.size w wa []).new (S' := T9) (AB a9 n c9 (sealed (fw x1))) hr9 hs9
  have hsl : (sealed (fw x1)).length = n := by have := hr9.own.1; simpa using this
  have HSL := Lib.hid hsl
  clear hr9 hs9 hsl
  go_wp2_with (fail)
  obtain ⟨ss, hss⟩ : ∃ ss, ss = sealed (fw x1) := ⟨_, rfl⟩
  rw [← hss] at H0 HSL
  clear hf
  have HSS := Lib.hid hss
  clear hss
  go_loopw [11, 12] (fun t i wr => ∃ k : Nat, k ≤ 32 ∧ i = .int .i64 k ∧ t = .bool (turned (8 * n) f b k) ∧ St w.heap.size w wr [AB a9 n c9 (flips ss f b k)]) (fun _ i _ => 32 - (intOf i).toNat)
  case atStart => exact ⟨0, by omega, rfl, rfl, H0.out⟩
  case round =>
    obtain ⟨k, hk, rfl, rfl, H⟩ := hrel
    have H := Lib.hid H
    obtain ⟨tb, htb⟩ : ∃ tb, tb = turned (8 * n) f b k := ⟨_, rfl⟩
    rw [← htb]
    have HTB := Lib.hid htb
    clear htb
    by_cases hgo : (k : Int) < 32 ∧ (f : Int) + (k : Int) < 8 * (n : Int)
    · obtain ⟨g1, g2⟩ := hgo
      have hblt : b.toNat < 4294967296 := b.isLt
      by_cases hbit : b.getLsbD k = true
      · have hand : (((b.toNat : Int) / 2 ^ k).tmod 2 == 1) = true := by rw [bit_tmod, hbit]
        have hfl : f + k < 8 * n := by omega
        obtain ⟨p, hp⟩ : ∃ p, p = (f + k) / 8 := ⟨_, rfl⟩
        obtain ⟨q, hq⟩ : ∃ q, q = (f + k) % 8 := ⟨_, rfl⟩
        obtain ⟨fk, hfk⟩ : ∃ fk, fk = f + k := ⟨_, rfl⟩
        have hpn : p < n := by omega
        have hq8 : q < 8 := by omega
        obtain ⟨g, hg, c3, f3, put⟩ := own_byte H.out.drew 0 rfl p hpn
        subst hg
        have PUT : Hid (St w.heap.size w (wr.drew.setCell ⟨g, p, none⟩ (.int .u8 ((turnBit ((flips ss f b k).getD p 0) q).toNat : Int))) [AB (some ⟨g, 0, none⟩) n c9 (flips ss f b (k + 1))]) := by
          have h := put (turnBit ((flips ss f b k).getD p 0) q)
          have e : flips ss f b (k + 1) = (flips ss f b k).set p (turnBit ((flips ss f b k).getD p 0) q) := by
            rw [hp, hq, flips, if_pos ⟨by rw [HSL.out]; exact hfl, hbit⟩]
          rw [e]
          exact h
        have HT1 : Hid (turned (8 * n) f b (k + 1) = true) := by show turned (8 * n) f b (k + 1) = true; rw [turned, if_pos ⟨hfl, hbit⟩]
        obtain ⟨d, hd⟩ : ∃ d, d = (flips ss f b k).getD p 0 := ⟨_, rfl⟩
        rw [← hd] at c3 PUT
        obtain ⟨e1, he1⟩ : ∃ e, e = turnBit d q := ⟨_, rfl⟩
        rw [← he1] at PUT
        have s1 : IntKind.i64.wrap ((f : Int) + (k : Int)) = (fk : Int) := by rw [hfk]; exact IntWalk.i64_in _ (by omega)
        have s2 : ((fk : Int)).tdiv 8 = (p : Int) := by rw [hp, ← hfk]; rfl
        have s3 : ((fk : Int)).tmod 8 = (q : Int) := by rw [hq, ← hfk]; rfl
        have s4 : (fk : Int) < 8 * (n : Int) := by omega
        have sp : IntKind.i64.wrap (p : Int) = (p : Int) := IntWalk.i64_in _ (by omega)
        have sq : IntKind.i64.wrap (q : Int) = (q : Int) := IntWalk.i64_in _ (by omega)
        have t1 : (0 : Int) ≤ (p : Int) := by omega
        have t2 : (p : Int) < (n : Int) := by omega
        have t3 : (0 : Int) ≤ (q : Int) := by omega
        have t4 : (q : Int) < 8 := by omega
        have c3' : wr.cell? ⟨g, p, none⟩ = some (.int .u8 (d.toNat : Int)) := c3
        have HE1 := Lib.hid he1
        clear hp hq hfk hd he1 hfl put hbit
        have q1 : bits .xor .u8 (d.toNat : Int) (IntKind.u8.wrap (2 ^ q)) = (e1.toNat : Int) := by rw [HE1.out]; exact turn_fact d q hq8
        go_wp2
        go_still_tail 14, (by kernel_rfl)
        change wpList _ _ _ _ _ wr.drew
        clear c3' s1 s2 s3 sp sq q1
        generalize wr.drew = wd at c3 f3 PUT ⊢
        go_wp2
        go_roundw
        case rel => exact ⟨k + 1, by omega, by go_num, by rw [HT1.out], PUT.out⟩
        case measure => simp [intOf]; omega
      · have hand : (((b.toNat : Int) / 2 ^ k).tmod 2 == 1) = false := by rw [bit_tmod]; simpa using hbit
        have HF1 : Hid (flips ss f b (k + 1) = flips ss f b k) := by show flips ss f b (k + 1) = _; rw [flips, if_neg (fun h => hbit h.2)]
        have HT1 : Hid (turned (8 * n) f b (k + 1) = tb) := by show turned (8 * n) f b (k + 1) = _; rw [turned, if_neg (fun h => hbit h.2), HTB.out]
        clear hbit
        go_wp2
        go_roundw
        case rel => exact ⟨k + 1, by omega, by go_num, by rw [HT1.out], by rw [HF1.out]; exact H.out⟩
        case measure => simp [intOf]; omega
    · by_cases h32 : (k : Int) < 32
      · have hlim : ¬ (f : Int) + (k : Int) < 8 * (n : Int) := fun h => hgo ⟨h32, h⟩
        clear hgo
        have hend : k = 32 ∨ 8 * (sealed (fw x1)).length ≤ f + k := by rw [← HSS.out, HSL.out]; omega
        have ht := tells (fw x1) f b k hend hk
        rw [← HSS.out, HSL.out, ← HTB.out] at ht
        obtain ⟨S, hS, -⟩ := H.out.at 0 rfl
        have hfl : (flips ss f b k).length = n := by rw [flips_len]; exact HSL.out
        have hop := open_any S a9 (flips ss f b k) c9 wr (AB.view hS) (by omega)
        rw [hfl] at hop
        have HOP := Lib.hid hop
        have HT := Lib.hid ht
        have hnb : tb = false → openOf (flips ss f b k) = (fw x1, true) := by
          intro h
          rw [turned_none ss f b k (by rw [HSL.out, ← HTB.out]; exact h), HSS.out, openOf_sealed]
        have HNB := Lib.hid hnb
        clear hend ht hS hfl hop hnb
        cases tb with
        | true =>
          obtain ⟨y, hy⟩ : ∃ y, openOf (flips ss f b k) = (y, false) := ⟨_, Prod.ext rfl HT.out⟩
          have hop := HOP.out
          rw [hy] at hop
          have HOP := Lib.hid hop
          clear hy hop
          go_wp2_with (fail)
          refine HOP.out.mono ?_
          rintro e wz ⟨v, nz, rfl, hnz, az, cz, Tz, rfl, hrz, hsz⟩
          have HW := Lib.hid (H.out.below.trans ((below_of_step hsz).mono H.out.size))
          clear hnz hrz hsz
          go_wp2_with (fail)
          go_ret
          exact ⟨rfl, HW.out⟩
        | false =>
          have hop := HOP.out
          rw [HNB.out rfl] at hop
          have HOP := Lib.hid hop
          clear hop
          go_wp2_with (fail)
          refine HOP.out.mono ?_
          rintro e wz ⟨v, nz, rfl, hnz, az, cz, Tz, rfl, hrz, hsz⟩
          obtain rfl : m = nz := by rw [← HM.out]; exact hnz
          have HW := Lib.hid (H.out.below.trans ((below_of_step hsz).mono H.out.size))
          have hstr1 := tyB_str (l := fw x1) (n := m) ⟨az, cz, Tz, rfl, hrz⟩
          have hstr2 := str_old (W := w) HV.out HM.out cap1 HW.out
          clear hnz hrz hsz
          go_wp2_with (fail)
          go_ret
          exact ⟨rfl, HW.out⟩
      · clear hgo
        have hend : k = 32 ∨ 8 * (sealed (fw x1)).length ≤ f + k := by rw [← HSS.out, HSL.out]; omega
        have ht := tells (fw x1) f b k hend hk
        rw [← HSS.out, HSL.out, ← HTB.out] at ht
        obtain ⟨S, hS, -⟩ := H.out.at 0 rfl
        have hfl : (flips ss f b k).length = n := by rw [flips_len]; exact HSL.out
        have hop := open_any S a9 (flips ss f b k) c9 wr (AB.view hS) (by omega)
        rw [hfl] at hop
        have HOP := Lib.hid hop
        have HT := Lib.hid ht
        have hnb : tb = false → openOf (flips ss f b k) = (fw x1, true) := by
          intro h
          rw [turned_none ss f b k (by rw [HSL.out, ← HTB.out]; exact h), HSS.out, openOf_sealed]
        have HNB := Lib.hid hnb
        clear hend ht hS hfl hop hnb
        cases tb with
        | true =>
          obtain ⟨y, hy⟩ : ∃ y, openOf (flips ss f b k) = (y, false) := ⟨_, Prod.ext rfl HT.out⟩
          have hop := HOP.out
          rw [hy] at hop
          have HOP := Lib.hid hop
          clear hy hop
          go_wp2_with (fail)
          refine HOP.out.mono ?_
          rintro e wz ⟨v, nz, rfl, hnz, az, cz, Tz, rfl, hrz, hsz⟩
          have HW := Lib.hid (H.out.below.trans ((below_of_step hsz).mono H.out.size))
          clear hnz hrz hsz
          go_wp2_with (fail)
          go_ret
          exact ⟨rfl, HW.out⟩
        | false =>
          have hop := HOP.out
          rw [HNB.out rfl] at hop
          have HOP := Lib.hid hop
          clear hop
          go_wp2_with (fail)
          refine HOP.out.mono ?_
          rintro e wz ⟨v, nz, rfl, hnz, az, cz, Tz, rfl, hrz, hsz⟩
          obtain rfl : m = nz := by rw [← HM.out]; exact hnz
          have HW := Lib.hid (H.out.below.trans ((below_of_step hsz).mono H.out.size))
          have hstr1 := tyB_str (l := fw x1) (n := m) ⟨az, cz, Tz, rfl, hrz⟩
          have hstr2 := str_old (W := w) HV.out HM.out cap1 HW.out
          clear hnz hrz hsz
          go_wp2_with (fail)
          go_ret
          exact ⟨rfl, HW.out⟩

end Crc
end Go.Proofs.Ythbipankdbfdjaa
