/- Layer 7: the document's flash: Crash, Barrier, New. -/
import Derived.Test.YtepllhfofhehaaaFlaRf
import Derived.Carry
namespace Go.Proofs.Ytepllhfofhehaaa
open Go.RowKit Go.Own
namespace Fla
open Go.FlaM Byt

theorem oneInt : One Try.prog 33 3 (.int .i64 0) 8 := ⟨Try.underlying33, by kernel_rfl, rfl⟩
theorem oneStr : One Try.prog 73 9 (.string ⟨#[]⟩) 16 := ⟨Try.underlying73, by kernel_rfl, rfl⟩
theorem oneRow : One Try.prog 69 73 (.slice none 0 0) 24 := ⟨Try.underlying69, by kernel_rfl, rfl⟩

set_option maxHeartbeats 1600000 in
theorem crashR_any {B : Nat} {w0 w : World} {Ps : List Asn} {p : Nat} {s : FS} {N : Nat} (H : Own.St B w0 w (ARef p s :: Ps)) (hok : Ok s N) (hN : N ≤ 100000) (ao : Option Addr) (nf cap : Nat) (fates : List Int) (hF : FReads B w0 Ps ao fates) (hnf : fates.length = nf) (hnc : nf ≤ cap ∧ cap ≤ maxLen) (hfi : ∀ j, j < nf → i64B (fates.getD j 0)) :
    Calls Try.prog 48 #[ptr p, .slice ao nf cap] w fun e w' => e = .returned (.tuple #[]) ∧ Own.St B w0 w' (ARef p (crash s fates) :: Ps) := by
  have C1 := Lib.hid (some_any H hok hN ao nf cap fates hF hnf hnc hfi)
  clear H hok hF hnf hfi hnc
  go_enter Try.func48, Try.ntmps48
  go_wp2_with (fail)
  refine C1.out.mono ?_
  clear C1
  rintro e w1 ⟨rfl, h1⟩
  obtain ⟨vS, vL, vW, H⟩ := ref_open h1
  have f3 := (H.cellV 1 rfl 3 rfl).2
  have f4 := (H.cellV 1 rfl 4 rfl).2
  have c3 := (H.cellV 1 rfl 3 rfl).1
  have c4 := (H.cellV 1 rfl 4 rfl).1
  have H2 : Hid (Own.St B w0 ((w1.setCell ⟨p, 3, none⟩ (.bool false)).setCell ⟨p, 4, none⟩ (.int .i64 (-1))) (ARef p (crash s fates) :: Ps)) :=
    ref_close (s := crash s fates) ((H.storeV 1 rfl 3 (.bool false)).storeV 1 rfl 4 (.int .i64 (-1)))
  clear H h1
  go_wp2
  go_end0
  exact ⟨rfl, H2.out⟩

/-- so many of them are 128 -/
def fullTo (n k : Nat) : List Int := List.replicate k 128 ++ List.replicate (n - k) 0
theorem fullTo_set (n k : Nat) (h : k < n) : ((fullTo n k).map (Value.int .i64)).set k (.int .i64 128) = (fullTo n (k + 1)).map (Value.int .i64) := by
  rw [← List.map_set]
  congr 1
  unfold fullTo
  obtain ⟨r, hr⟩ : ∃ r, n - k = r + 1 := ⟨n - k - 1, by omega⟩
  rw [hr, show n - (k + 1) = r by omega, List.replicate_succ, List.replicate_succ']
  simp
theorem fullTo_all (n : Nat) : fullTo n n = List.replicate n 128 := by simp [fullTo]
theorem row_reads {B : Nat} {w0 : World} {Ps : List Asn} {ao : Option Addr} {n cap : Nat} {l : List Int} (hl : l.length = n) : FReads B w0 (ARow 3 1 (.slice ao n cap) n (l.map (Value.int .i64)) :: Ps) ao l := by
  intro wx Qs H j hj
  have hi' : (Qs ++ ARow 3 1 (.slice ao n cap) n (l.map (Value.int .i64)) :: Ps)[Qs.length]? = some (ARow 3 1 (.slice ao n cap) n (l.map (Value.int .i64))) := by rw [List.getElem?_append_right (Nat.le_refl _)]; simp
  obtain ⟨g, rfl, ⟨u, hu, hc⟩, _, _⟩ := H.rowAt Qs.length hi' j (by omega)
  rw [List.getElem?_map, List.getElem?_eq_getElem hj] at hu
  cases hu
  refine ⟨g, 0, rfl, ?_⟩
  rw [Nat.zero_add, hc, List.getD_eq_getElem?_getD, List.getElem?_eq_getElem hj]
  rfl

set_option maxHeartbeats 1600000 in
theorem barrierR_any {B : Nat} {w0 w : World} {Ps : List Asn} {p : Nat} {s : FS} {N : Nat} (H : Own.St B w0 w (ARef p s :: Ps)) (hok : Ok s N) (hN : N ≤ 100000) :
    Calls Try.prog 46 #[ptr p] w fun e w' => e = .returned (errV (barrier s).2) ∧ Own.St B w0 w' (ARef p (barrier s).1 :: Ps) := by
  obtain ⟨R, hR⟩ : ∃ R, R = barrier s := ⟨_, rfl⟩
  rw [← hR]
  have O1 := Lib.hid (off_any H)
  have HOK := Lib.hid (ok_trip hok)
  have HR : Hid (R = if (trip s).off then (trip s, 6) else (okd (some' (trip s) (List.replicate (trip s).L.length 128)), 0)) := by show R = _; rw [hR]; rfl
  clear hR H hok
  go_enter Try.func46, Try.ntmps46
  go_wp2_with (fail)
  refine O1.out.mono ?_
  clear O1
  rintro e w1 ⟨rfl, h1⟩
  obtain ⟨t, ht⟩ : ∃ t, t = trip s := ⟨_, rfl⟩
  rw [← ht] at h1 HOK HR ⊢
  clear ht
  cases hto : t.off with
  | true =>
    have HR2 : Hid (R = (t, 6)) := by show R = _; rw [HR.out, if_pos hto]
    have H1 := Lib.hid h1
    clear hto h1
    go_wp2
    go_ret
    rw [HR2.out]
    exact ⟨rfl, H1.out⟩
  | false =>
    have HR2 : Hid (R = (okd (some' t (List.replicate t.L.length 128)), 0)) := by show R = _; rw [HR.out, if_neg (by rw [hto]; simp)]
    clear hto HR
    have hlenb : t.L.length ≤ 100000 := Nat.le_trans HOK.out.log (Nat.le_trans HOK.out.n hN)
    obtain ⟨vS, vL, vW, H⟩ := ref_open h1
    obtain ⟨aL, cL, rfl⟩ := rowL_form H 2 rfl
    have c1 := (H.cellV 1 rfl 1 rfl).1
    obtain ⟨n, hn⟩ : ∃ n, n = t.L.length := ⟨_, rfl⟩
    rw [← hn] at c1 HR2 hlenb
    obtain ⟨w2, g, hmk, hst⟩ := h1.oneMake oneInt .i64 .i64 n (by omega) (by decide) rfl
    have H2 : Hid (Own.St B w0 w2 (ARow 3 1 (.slice (some ⟨g, 0, none⟩) n n) n ((fullTo n 0).map (Value.int .i64)) :: ARef p t :: Ps)) := by
      show Own.St _ _ _ _
      have e : (fullTo n 0).map (Value.int .i64) = List.replicate n (Value.int .i64 0) := by simp [fullTo]
      rw [e]; exact hst
    clear hst H h1 hn
    go_wp2
    clear hmk c1
    go_loopw [4] (fun v4 wr => ∃ k : Nat, k ≤ n ∧ v4 = .int .i64 (k : Int) ∧ Own.St B w0 wr (ARow 3 1 (.slice (some ⟨g, 0, none⟩) n n) n ((fullTo n k).map (Value.int .i64)) :: ARef p t :: Ps)) (fun v4 _ => n - (intOf v4).toNat)
    case atStart => exact ⟨0, Nat.zero_le _, rfl, H2.out⟩
    case round =>
      obtain ⟨k, hkn, rfl, hK⟩ := hrel
      have HK := Lib.hid hK
      clear hK H2
      by_cases hk : k < n
      · obtain ⟨g', hg', ⟨u, hu, ck⟩, fk, put⟩ := HK.out.rowAt 0 rfl k (by omega)
        cases hg'
        have HP : Hid (Own.St B w0 (wr.setCell ⟨g, k, none⟩ (.int .i64 128)) (ARow 3 1 (.slice (some ⟨g, 0, none⟩) n n) n ((fullTo n (k + 1)).map (Value.int .i64)) :: ARef p t :: Ps)) := by
          show Own.St _ _ _ _
          have h := put (.int .i64 128)
          rw [fullTo_set n k hk] at h
          exact h
        clear put hu
        go_wp2
        go_roundw
        case rel => exact ⟨k + 1, by omega, by go_num, HP.out⟩
        case measure => simp [intOf]; omega
      · have hkn2 : k = n := by omega
        have HK2 := HK.out.swap2
        rw [hkn2, fullTo_all] at HK2
        have C1 := Lib.hid (some_any HK2 HOK.out hN (some ⟨g, 0, none⟩) n n (List.replicate n 128) (row_reads (by simp)) (by simp) ⟨Nat.le_refl _, by unfold maxLen; omega⟩ (fun j hj => by rw [List.getD_eq_getElem?_getD, List.getElem?_replicate, if_pos hj]; exact ⟨by decide, by decide⟩))
        clear HK2 hkn2 HK
        go_wp2_with (fail)
        refine C1.out.mono ?_
        clear C1
        rintro e w3 ⟨rfl, h3⟩
        have H3 := Lib.hid h3
        clear h3
        go_wp2_with (fail)
        refine (done_any H3.out (by have := HOK.out.n; show t.n ≤ _; omega) HOK.out.left).mono ?_
        rintro e w4 ⟨rfl, h4⟩
        have H4 := Lib.hid h4.drop2
        clear h4 H3
        go_wp2
        go_ret
        rw [HR2.out]
        exact ⟨rfl, H4.out⟩
end Fla
end Go.Proofs.Ytepllhfofhehaaa
