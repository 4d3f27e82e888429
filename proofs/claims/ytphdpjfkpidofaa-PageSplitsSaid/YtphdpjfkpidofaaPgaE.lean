/- The landed page: Split. -/
import Derived.Test.YtphdpjfkpidofaaPgaD
namespace Go.Proofs.Ytphdpjfkpidofaa
open Go.RowKit Go.Own
namespace Pag
open Go.PagM Byt
/-- what is still to come -/
def togoL (kind : UInt8) (last first : Bool) (b : PagM.Bs) : List PagM.Bs := if last = true then [] else rest kind first b
theorem togoL_step (kind : UInt8) (first : Bool) (b : PagM.Bs) : togoL kind false first b = laid ⟨kind, first, decide (b.length ≤ 125), b.take 125⟩ :: togoL kind (decide (b.length ≤ 125)) false (b.drop 125) := by
  unfold togoL
  rw [if_neg (by simp), rest_step]
  congr 1
  by_cases hl : b.length ≤ 125
  · rw [if_pos hl, if_pos (by simpa using hl)]
  · rw [if_neg hl, if_neg (by simpa using hl)]
set_option maxRecDepth 10000 in
set_option maxHeartbeats 8000000 in
theorem splitP_any (kind : UInt8) (ao : Option Addr) (n cap : Nat) (p : PagM.Bs) (w : World) (hg : Given w ao n cap p) (hb : n ≤ 1000000) :
    Calls Try.prog 17 #[.int .u8 (kind.toNat : Int), .slice ao n cap] w (SplitDone (split kind p) w) := by
  obtain ⟨k, hk⟩ : ∃ k, k = kind.toNat := ⟨_, rfl⟩
  rw [← hk]
  obtain ⟨X, hX⟩ : ∃ X, X = split kind p := ⟨_, rfl⟩
  rw [← hX]
  have HN := Lib.hid hg.size
  have hk255 : k ≤ 255 := by have := kind.toNat_lt; omega
  by_cases h63 : (63 : Int) < (k : Int)
  · have HX : Hid (X = ([], 1)) := by
      show X = _
      have e : splitE kind p = 1 := by unfold splitE; rw [if_pos (by omega)]
      rw [hX]; unfold split; rw [e]; rfl
    clear hX hk hg
    go_enter Try.func17, Try.ntmps17
    go_wp2
    go_ret2
    exact split_err X 1 HX.out w
  by_cases h8 : (8000 : Int) < (n : Int)
  · have HX : Hid (X = ([], 4)) := by
      show X = _
      have e : splitE kind p = 4 := by unfold splitE; rw [if_neg (by omega), if_pos (by rw [HN.out]; omega)]
      rw [hX]; unfold split; rw [e]; rfl
    clear hX hk hg
    go_enter Try.func17, Try.ntmps17
    go_wp2
    go_ret2
    exact split_err X 4 HX.out w
  obtain ⟨T, hT⟩ : ∃ T, T = rest kind true p := ⟨_, rfl⟩
  have HX : Hid (X = (T, 0)) := by
    show X = _
    have e : splitE kind p = 0 := by unfold splitE; rw [if_neg (by omega), if_neg (by rw [HN.out]; omega)]
    rw [hX]; unfold split; rw [e, hT]; rfl
  have HK := Lib.hid hk
  have HG := Lib.hid hg
  have HT := Lib.hid hT
  have HTL : Hid (T.length ≤ 70) := by
    show T.length ≤ 70
    rw [hT]
    have := pages_len kind p
    unfold pages at this
    unfold rest
    rw [this, HN.out]
    omega
  have hk63 : k ≤ 63 := by omega
  obtain ⟨z, hz⟩ : ∃ z, z = ((List.replicate 128 (0 : UInt8)).map byteV).toArray := ⟨_, rfl⟩
  have ZP : Hid ((Try.prog.info? 47).bind (·.zero) = some (.agg z)) := by rw [hz]; exact zero_page
  have HZ := Lib.hid hz
  have H0 : Hid (Own.St w.heap.size w w [AGrid 22 47 byteV (.slice none 0 0) []]) := St.gridNil (Own.St.start w)
  clear hX hk hg h63 hT hz
  go_enter Try.func17, Try.ntmps17
  go_wp2
  go_loopw [1, 6, 7] (fun v1 v6 v7 wr => ∃ (ab al : Option Addr) (nb cb cl ln : Nat) (lst : Bool) (q : PagM.Bs) (L : List PagM.Bs), v1 = .slice ab nb cb ∧ v6 = .slice al ln cl ∧ v7 = .bool lst ∧ ln = L.length ∧ Given w ab nb cb q ∧ nb ≤ n ∧ T = L ++ togoL kind lst (decide (ln = 0)) q ∧ (lst = true → nb = 0) ∧ Own.St w.heap.size w wr [AGrid 22 47 byteV (.slice al ln cl) L]) (fun v1 _ v7 _ => 2 * lenV v1 + 1 - boolN v7)
  case atStart => exact ⟨ao, none, n, cap, 0, 0, false, p, [], rfl, rfl, rfl, rfl, HG.out, Nat.le_refl _, by rw [HT.out]; rfl, by simp, H0.out⟩
  case round =>
    obtain ⟨ab, al, nb, cb, cl, ln, lst, q, L, rfl, rfl, rfl, hln, hgq, hnb, hTq, hlz, hH⟩ := hrel
    have G0 := Lib.hid hgq
    have G := Lib.hid (hgq.later hH.below)
    have H := Lib.hid hH
    have E := Lib.hid hTq
    have HLN := Lib.hid hln
    have HQL := Lib.hid hgq.size
    have hroom := hgq.room
    clear hgq hH hTq H0 HG hln
    cases lst
    · clear hlz
      obtain ⟨m, hm⟩ : ∃ m, m = min nb 125 := ⟨_, rfl⟩
      obtain ⟨nr, hnr⟩ : ∃ r, r = nb - m := ⟨_, rfl⟩
      obtain ⟨last, hlast⟩ : ∃ b, b = decide (nb ≤ 125) := ⟨_, rfl⟩
      obtain ⟨first, hfirst⟩ : ∃ b, b = decide (ln = 0) := ⟨_, rfl⟩
      have hmin : ∀ wx, (Builtin.min_ #[3, 3] 3 #[.int .i64 (nb : Int), .int .i64 125]).run Try.prog wx = .ok (.int .i64 (m : Int)) wx := by
        intro wx
        rw [show (m : Int) = min (nb : Int) 125 by omega]
        simp [Builtin.min_, Builtin.min2, go_sem]
        try omega
      have heq : ((nr : Int) == 0) = last := by rw [hlast, Bool.eq_iff_iff]; simp; omega
      have hff : ((ln : Int) == 0) = first := by rw [hfirst, Bool.eq_iff_iff]; simp
      have hmn : m ≤ nb := by omega
      have hm125 : m ≤ 125 := by omega
      have hrn : nr ≤ nb := by omega
      obtain ⟨P, hP⟩ : ∃ P, P = laid ⟨kind, first, last, q.take m⟩ := ⟨_, rfl⟩
      have hmq : q.take 125 = q.take m := by rw [hm, ← HQL.out, List.take_eq_take_iff]; omega
      have hdq : q.drop 125 = q.drop m := by
        by_cases h : nb ≤ 125
        · rw [List.drop_of_length_le (by rw [HQL.out]; exact h), List.drop_of_length_le (by rw [HQL.out]; omega)]
        · rw [show m = 125 by omega]
      have EN : Hid (T = (L ++ [P]) ++ togoL kind last (decide (ln + 1 = 0)) (q.drop m)) := by
        show T = _
        rw [E.out, togoL_step kind _ q, hmq, hdq, HQL.out, ← hlast, ← hfirst, ← hP, List.append_assoc, show decide (ln + 1 = 0) = false by simp]
        rfl
      have hPl : P.length = 128 := by rw [hP]; exact laid_len _ (by show (q.take m).length ≤ 125; rw [List.length_take]; omega)
      have LAY : Hid (Calls Try.prog 23 #[frV k first last (.slice ab m cb)] wr fun e w' => e = .returned (.agg (P.map byteV).toArray) ∧ Below wr.heap.size wr w') := by
        have h := lay_any ⟨kind, first, last, q.take m⟩ ab m cb wr (given_take G.out m hmn) (by show kind.toNat ≤ 63; rw [← HK.out]; exact hk63) hm125
        rw [← hP] at h
        rw [HK.out]
        exact h
      have CT := Lib.hid (cutTo (ao := ab) (l := q) (m := nb) (cap := cb) m HQL.out hmn hroom.1 hroom.2 G.out.nil).1
      obtain ⟨a5, c5, hF1, hF2⟩ := cutFrom (ao := ab) (l := q) (m := nb) (cap := cb) m HQL.out hmn hroom.1 hroom.2 G.out.nil
      rw [← hnr] at hF1 hF2
      have CF := Lib.hid hF1
      have CF2 := Lib.hid hF2
      have HLB : Hid (L.length + 1 ≤ 100000000) := by
        have h1 := HTL.out
        rw [EN.out] at h1
        simp at h1
        show L.length + 1 ≤ 100000000
        omega
      have HPL := Lib.hid hPl
      have IB := Lib.hid (info_page P hPl)
      have OB := Lib.hid (one8 P)
      have HMN : Hid (nr ≤ nb ∧ (last = false → nr < nb) ∧ (last = true → nr = 0)) := by
        refine ⟨hrn, fun h => ?_, fun h => ?_⟩
        · rw [hlast] at h; simp at h; omega
        · rw [hlast] at h; simp at h; omega
      clear hm hlast hfirst hP hmq hdq hF1 hF2 E HQL hnr hPl
      go_wp2_with (first
        | (refine Byt.wpList_val rfl (CT.out _ (.tmp 17) (.tmp 20) rfl _ _ rfl rfl) ?_)
        | (refine Byt.wpList_val rfl (CF.out _ (.tmp 22) (.tmp 24) rfl _ _ rfl rfl) ?_))
      refine LAY.out.mono ?_
      clear LAY
      rintro e w3 ⟨rfl, hb3⟩
      have h3 := H.out.later hb3
      obtain ⟨b9, hb9⟩ : ∃ b, b = w3.heap.size := ⟨_, rfl⟩
      obtain ⟨W4, hW4⟩ : ∃ W, W = w3.alloc (.cells z 47) := ⟨_, rfl⟩
      have h4 := A8.box h3 47 (List.replicate 128 0)
      rw [← HZ.out, ← hb9, ← hW4] at h4
      have TH := Lib.hid (A8.there h4 0 rfl P (by rw [HPL.out]; rfl))
      have h5 := A8.setAll h4 0 rfl P (by rw [HPL.out]; rfl)
      simp only [List.set_cons_zero] at h5
      obtain ⟨W5, hW5⟩ : ∃ W, W = W4.setCells b9 0 (P.map byteV).toArray.toList := ⟨_, rfl⟩
      rw [← hW5] at h5
      have h6 := (h5.valsRow (n := 128) (by rw [List.length_map, HPL.out]) (by decide)).swap2
      have H7 := Lib.hid (h6.alloc (.cells #[.slice (some ⟨b9, 0, none⟩) 128 128] 22))
      have CN : Hid ((W5.alloc (.cells #[.slice (some ⟨b9, 0, none⟩) 128 128] 22)).cell? ⟨W5.heap.size, 0, none⟩ = some (.slice (some ⟨b9, 0, none⟩) 128 128)) := cell_of_block (heap_alloc_new W5 _) rfl
      have HB9 := Lib.hid hb9
      have HW4 := Lib.hid hW4
      have HW5 := Lib.hid hW5
      clear hb3 h3 hb9 hW4 h4 h5 hW5 h6 H
      have HLN2 := HLN.out
      subst HLN2
      go_wp2_with (first
        | (refine Own.wpList_allocZ rfl 47 rfl z ZP.out ?_; rw [← HB9.out, ← HW4.out])
        | (refine wpList_store_mid rfl 47 (.tmp 9) (.tmp 36) rfl b9 0 (P.map byteV).toArray rfl rfl TH.out IB.out OB.out ?_; rw [← HW5.out])
        | (at_builtin; refine wpList_grid_appendN oneBytes rfl (.tmp 37) (.tmp 39) rfl HPL.out H7.out rfl ⟨W5.heap.size, 0, none⟩ rfl rfl CN.out HLB.out (by decide) ?_; intro a8 c8 w8 h8; have H8 := Lib.hid h8; clear h8))
      go_roundw
      case rel => exact ⟨a5, a8, nr, c5, c8, L.length + 1, last, q.drop m, L ++ [P], rfl, rfl, rfl, by rw [List.length_append]; rfl, ⟨CF2.out.view _ _ G0.out.view, CF2.out.len, CF2.out.cap, CF2.out.none⟩, by omega, EN.out, HMN.out.2.2, H8.out⟩
      case measure =>
        have := HMN.out
        simp only [lenV]
        cases last
        · simp [boolN] at this ⊢; omega
        · simp [boolN] at this ⊢; omega
    · have HXX : Hid (X = (L, 0)) := by
        show X = _
        rw [HX.out, E.out]
        unfold togoL
        rw [if_pos rfl, List.append_nil]
      clear E HX hlz
      have HLN2 := HLN.out
      subst HLN2
      go_wp2
      go_ret2
      rw [HXX.out]
      obtain ⟨a', c', hv, hgl⟩ := givenL_ownE H.out
      cases hv
      exact ⟨al, cl, rfl, hgl, H.out.below⟩
end Pag
end Go.Proofs.Ytphdpjfkpidofaa
