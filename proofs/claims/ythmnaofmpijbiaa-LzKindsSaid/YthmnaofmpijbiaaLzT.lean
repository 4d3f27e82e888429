/- The landed repeat: bytes come again. -/
import Derived.Test.YthmnaofmpijbiaaLzP
import Derived.Test.YthmnaofmpijbiaaLaxG
import Derived.Lib.Hide
import Derived.Deep.RegionLaw
namespace Go.LzM
open Go.MatM
theorem ext_getD {a b : Bs} (hl : a.length = b.length) (h : ∀ i, i < a.length → a.getD i 0 = b.getD i 0) : a = b := by
  apply List.ext_getElem hl
  intro i h1 h2
  have := h i h1
  simpa [List.getD, h1, h2] using this
theorem copyN_add (d : Nat) : ∀ (a b : Nat) (out : Bs), copyN out d (a + b) = copyN (copyN out d a) d b
  | 0, b, out => by rw [Nat.zero_add]; rfl
  | a + 1, b, out => by
    rw [show a + 1 + b = (a + b) + 1 by omega]
    exact copyN_add d a b _
theorem copyN_per (d : Nat) (hd : 1 ≤ d) (n : Nat) (out : Bs) (hdl : d ≤ out.length) : ∀ (q p : Nat), out.length ≤ p + d → p + q * d < out.length + n → (copyN out d n).getD (p + q * d) 0 = (copyN out d n).getD p 0
  | 0, p, _, _ => by rw [Nat.zero_mul, Nat.add_zero]
  | q + 1, p, h1, h2 => by
    have e : p + (q + 1) * d = p + q * d + d := by rw [Nat.add_mul, Nat.one_mul, Nat.add_assoc]
    have h0 : 0 ≤ q * d := Nat.zero_le _
    rw [e] at h2 ⊢
    rw [copyN_at d hd n out hdl (p + q * d + d) (by omega) h2, Nat.add_sub_cancel]
    exact copyN_per d hd n out hdl q p h1 (by omega)
theorem copyN_block (d : Nat) (hd : 1 ≤ d) (out : Bs) (hdl : d ≤ out.length) (t c : Nat) (hdiv : d ∣ t) (hc : c ≤ t + d) : copyN out d (t + c) = copyN out d t ++ ((copyN out d t).drop (out.length - d)).take c := by
  have l1 := copyN_len d (t + c) out
  have l2 := copyN_len d t out
  apply ext_getD
  · rw [List.length_append, List.length_take, List.length_drop, l1, l2]; omega
  · intro i hi
    rw [l1] at hi
    have pre : ∀ j, j < out.length + t → (copyN out d (t + c)).getD j 0 = (copyN out d t).getD j 0 := by
      intro j hj
      rw [copyN_add]
      exact copyN_pre d c _ j (by rw [l2]; exact hj)
    by_cases h : i < out.length + t
    · rw [pre i h]
      simp [List.getD, List.getElem?_append_left (show i < (copyN out d t).length by rw [l2]; exact h)]
    · obtain ⟨q, rfl⟩ := hdiv
      obtain ⟨j, hj⟩ : ∃ j, i = out.length + d * q + j := ⟨i - (out.length + d * q), by omega⟩
      have e : i = (out.length - d + j) + (q + 1) * d := by rw [Nat.add_mul, Nat.one_mul, Nat.mul_comm q d]; omega
      have e2 : (q + 1) * d = d * q + d := by rw [Nat.add_mul, Nat.one_mul, Nat.mul_comm q d]
      have hper := copyN_per d hd (d * q + c) out hdl (q + 1) (out.length - d + j) (by omega) (by rw [← e]; omega)
      rw [← e, pre (out.length - d + j) (by omega)] at hper
      rw [hper, List.getD_eq_getElem?_getD, List.getD_eq_getElem?_getD, List.getElem?_append_right (by rw [l2]; omega), l2, List.getElem?_take_of_lt (by omega), List.getElem?_drop]
      congr 2
      omega
end Go.LzM
namespace Go.Proofs.Ythmnaofmpijbiaa
open Go.RowKit Go.Own
namespace Lz
open Go.MatM Go.LzM Byt

set_option maxHeartbeats 4000000 in
theorem repeat_st {B : Nat} {w0 w : World} {Ps : List Asn} {ax : Option Addr} {k cx : Nat} {out : Bs} (H : Own.St B w0 w (AB ax k cx out :: Ps)) (d m : Nat) (hd : 1 ≤ d) (hdk : d ≤ k) (hb : k + m ≤ 1000000000) :
    Calls Try.prog 32 #[.slice ax k cx, .int .i64 (d : Int), .int .i64 (m : Int)] w fun e w' => ∃ a' c', e = .returned (.slice a' (k + m) c') ∧ Own.St B w0 w' (AB a' (k + m) c' (copyN out d m) :: Ps) := by
  have H0 := Lib.hid H
  have HOL := Lib.hid (ab_len H 0 rfl).1
  obtain ⟨F, hF⟩ : ∃ F, F = k - d := ⟨_, rfl⟩
  have hFi : (k : Int) - (d : Int) = (F : Int) := by omega
  have HFF := Lib.hid hF
  have hFk : F < k := by omega
  obtain ⟨N, hN⟩ : ∃ N, k + m = N := ⟨_, rfl⟩
  have HNN := Lib.hid hN
  rw [hN] at hb ⊢
  have hN0 : 0 < N := by omega
  have hFb : F ≤ 1000000000 := by omega
  clear H hF hN
  go_enter Try.func32, Try.ntmps32
  go_wp2_with (at_builtin; refine Byt.wpList_ab_append_zeros rfl (.tmp 14) (.tmp 15) rfl H0.out 0 rfl rfl m rfl (by rw [HNN.out]; exact hb) N HNN.out ?_; intro a1 c1 w1 h1; simp only [List.set_cons_zero] at h1; obtain ⟨g, rfl, hx1⟩ := ab_byte h1 0 rfl 0 hN0; clear hx1; have H1 := Lib.hid h1; clear h1)
  have hcN : N ≤ c1 := (ab_len H1.out 0 rfl).2.1
  go_loopw [7] (fun v7 wr => ∃ t : Nat, t ≤ m ∧ v7 = .int .i64 ((k + t : Nat) : Int) ∧ (d ∣ t ∨ t = m) ∧ Own.St B w0 wr (AB (some ⟨g, 0, none⟩) N c1 (copyN out d t ++ List.replicate (m - t) 0) :: Ps)) (fun v7 _ => N - (intOf v7).toNat)
  case atStart => exact ⟨0, Nat.zero_le _, rfl, .inl (Nat.dvd_zero d), H1.out⟩
  case round =>
    obtain ⟨t, htm, rfl, hdiv, H⟩ := hrel
    have H := Lib.hid H
    clear H1
    obtain ⟨p, hp⟩ : ∃ p, p = k + t := ⟨_, rfl⟩
    rw [← hp]
    have HP := Lib.hid hp
    have hNk := HNN.out
    by_cases ht : p < N
    · have hdt : d ∣ t := by
        rcases hdiv with h | h
        · exact h
        · omega
      obtain ⟨full, hfull⟩ : ∃ f, f = copyN out d t ++ List.replicate (m - t) 0 := ⟨_, rfl⟩
      rw [← hfull] at H
      obtain ⟨c, hc⟩ : ∃ c, c = min (p - F) (N - p) := ⟨_, rfl⟩
      have hlen : (copyN out d t).length = p := by rw [copyN_len, HOL.out, hp]
      have hfl : full.length = N := (ab_len H.out 0 rfl).1
      have hcp : 1 ≤ c := by omega
      have hcN2 : p + c ≤ N := by omega
      have hct : c ≤ t + d := by have := HFF.out; omega
      obtain ⟨news, hnews⟩ : ∃ n, n = (full.drop F).take c := ⟨_, rfl⟩
      have hnl : news.length = c := by rw [hnews, List.length_take, List.length_drop, hfl]; omega
      have hne : news = ((copyN out d t).drop (out.length - d)).take c := by
        rw [hnews, hfull, List.drop_append_of_le_length (by rw [hlen]; omega), List.take_append_of_le_length (by rw [List.length_drop, hlen]; omega), HFF.out, HOL.out]
      have hres : full.take p ++ news ++ full.drop (p + news.length) = copyN out d (t + c) ++ List.replicate (m - (t + c)) 0 := by
        rw [copyN_block d hd out (by rw [HOL.out]; exact hdk) t c hdt hct, hne, hfull]
        rw [hne] at hnl
        rw [hnl]
        congr 1
        · congr 1
          rw [← hlen, List.take_left]
        · rw [← hlen, List.drop_append, List.drop_eq_nil_of_le (by omega), List.nil_append, List.drop_replicate]
          congr 1
          omega
      have hv := vtake (vdrop (ab_view H.out.drew 0 rfl) F) c
      rw [← hnews, Nat.zero_add] at hv
      have HC := Lib.hid (vcells hv _ rfl)
      have HNL := Lib.hid (show news.length = min (p - F) (N - p) by rw [hnl, hc])
      have HRES := Lib.hid hres
      have hpc1 : ¬ c1 = p := by omega
      have hpc2 : ¬ c1 = F := by omega
      have hpp : p ≤ N := by omega
      have hpp1 : p ≤ c1 := by omega
      obtain ⟨pc, hpc⟩ : ∃ pc, p + c = pc := ⟨_, rfl⟩
      have HPC := Lib.hid hpc
      have hwr : IntKind.i64.wrap ((p : Int) + (c : Int)) = (pc : Int) := by rw [IntKind.wrap_i64]; omega
      clear hpc
      have hFp : F ≤ p := by omega
      have HQ : Hid (goInt news.length = .int .i64 (c : Int)) := by show goInt news.length = _; rw [hnl]; rfl
      have HCC := Lib.hid hnl
      have HDT := Lib.hid hdt
      clear hne hres hnl hnews hfull hc hlen hv hdiv hdt hfl hp
      go_wp2
      go_region_law (refine step_ab_copy rfl (.tmp 24) (.tmp 28) rfl H.out.drew 0 rfl p (N - p) (c1 - p) (by simp [Act.eval, Act.put]) (by omega) ⟨g, F, none⟩ (p - F) (c1 - F) news (by simp [Act.eval, Act.put]) HNL.out HC.out ?_; intro w2 h2; simp only [List.set_cons_zero] at h2; rw [HQ.out]; have H2 := Lib.hid h2; clear h2)
      all_goals
        go_simp
        go_wp2
        go_roundw
        case rel =>
          have h1 := HP.out
          have h2 := HNL.out
          have h3 := HCC.out
          have h4 := HFF.out
          have h5 := HNN.out
          have h6 := HPC.out
          rw [h3] at h2
          refine ⟨t + c, by omega, by simp only [Value.int.injEq, true_and]; omega, ?_, by rw [← HRES.out]; exact H2.out⟩
          rcases Nat.lt_or_ge (t + c) m with h | h
          · left
            obtain ⟨q, hq⟩ := HDT.out
            exact ⟨2 * q + 1, by rw [Nat.mul_add, Nat.mul_one, Nat.mul_left_comm, ← hq]; omega⟩
          · exact .inr (by omega)
        case measure =>
          have := HPC.out
          simp [intOf]
          omega
    · have htm2 : t = m := by have := HNN.out; have := HP.out; omega
      have H2 : Hid (Own.St B w0 wr (AB (some ⟨g, 0, none⟩) N c1 (copyN out d m) :: Ps)) := by
        have h := H.out
        rw [htm2, Nat.sub_self, List.replicate_zero, List.append_nil] at h
        exact h
      clear H hdiv htm2
      go_wp2
      go_ret
      exact ⟨_, _, rfl, H2.out⟩
end Lz
end Go.Proofs.Ythmnaofmpijbiaa
