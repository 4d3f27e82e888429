/- Layer 9: what the landed package page keeps (a premise of the walks: 'Kept'; to be proved of the landed code); erased, same, few; the examples. -/
import Derived.Test.YtphdpjfkpidofaaPagJ
namespace Go.PagM
/-- how many pages few lets be -/
def fewF : Nat → List Bs → Nat
  | _, [] => 0
  | i, p :: l => if 70 ≤ i ∨ 200 < p.length then 0 else fewF (i + 1) l + 1
def fewN (l : List Bs) : Nat := fewF 0 l
theorem fewF_le : ∀ (l : List Bs) (i : Nat), fewF i l ≤ l.length
  | [], _ => Nat.le_refl _
  | p :: l, i => by
    unfold fewF
    split
    · exact Nat.zero_le _
    · have := fewF_le l (i + 1); simp; omega
theorem fewF_most : ∀ (l : List Bs) (i : Nat), i ≤ 70 → fewF i l ≤ 70 - i
  | [], i, h => by unfold fewF; omega
  | p :: l, i, h => by
    unfold fewF
    split
    · omega
    · rename_i hc
      have hi : i < 70 := by omega
      have := fewF_most l (i + 1) (by omega)
      omega
theorem fewF_short : ∀ (l : List Bs) (i : Nat), ∀ p ∈ l.take (fewF i l), p.length ≤ 200
  | [], _, p, h => by simp at h
  | q :: l, i, p, h => by
    unfold fewF at h
    split at h
    · simp at h
    · rename_i hc
      rw [List.take_succ_cons] at h
      rcases List.mem_cons.1 h with rfl | h
      · omega
      · exact fewF_short l (i + 1) p h
end Go.PagM
namespace Go.Proofs.Ytphdpjfkpidofaa
open Go.RowKit Go.Own
namespace Pag
open Go.PagM Byt
def RetYes (w : World) (e : Ending) (w' : World) : Prop := e = .returned (.bool true) ∧ Below w.heap.size w w'
/-- an answer of Take in memory of its own -/
def TakeNew (x : Frm × Nat) (w : World) (e : Ending) (w' : World) : Prop := ∃ ao cap, e = .returned (.tuple #[frV x.1.kind.toNat x.1.first x.1.last (.slice ao x.1.data.length cap), errP x.2]) ∧ Given w' ao x.1.data.length cap x.1.data ∧ View w' (fun k => w.heap.size ≤ k) ao x.1.data ∧ Below w.heap.size w w'
structure Kept (W : World) where
  lay : ∀ {w : World} (f : Frm) (ao : Option Addr) (n cap : Nat), Below W.heap.size W w → Given w ao n cap f.data → n ≤ 1000000 →
    Calls Try.prog 12 #[frV f.kind.toNat f.first f.last (.slice ao n cap)] w (LayDone (lay f) w)
  take : ∀ {w : World} (ao : Option Addr) (n cap : Nat) (p : PagM.Bs), Below W.heap.size W w → Given w ao n cap p → n ≤ 1000000 →
    Calls Try.prog 14 #[.slice ao n cap] w (TakeNew (PagM.take p) w)
  split : ∀ {w : World} (kind : UInt8) (ao : Option Addr) (n cap : Nat) (p : PagM.Bs), Below W.heap.size W w → Given w ao n cap p → n ≤ 1000000 →
    Calls Try.prog 17 #[.int .u8 (kind.toNat : Int), .slice ao n cap] w (SplitDone (split kind p) w)
  join : ∀ {w : World} (ao : Option Addr) (n cap : Nat) (L : List PagM.Bs), Below W.heap.size W w → GivenL w ao n cap L → n ≤ 1000000 → (∀ p ∈ L, p.length ≤ 1000000) →
    Calls Try.prog 19 #[.slice ao n cap] w (JoinDone (join L) w)

def blankP : PagM.Bs := List.replicate 128 255
set_option maxHeartbeats 800000 in
theorem erased_any {B : Nat} {w0 w : World} {Ps : List Asn} (H : Own.St B w0 w Ps) : Calls Try.prog 22 #[] w fun e w' => ∃ g, e = .returned (.slice (some ⟨g, 0, none⟩) 128 128) ∧ Own.St B w0 w' (AB (some ⟨g, 0, none⟩) 128 128 blankP :: Ps) := by
  go_enter Try.func22, Try.ntmps22
  obtain ⟨w2, hmk, hst⟩ := ab_make H .i64 .i64 128 (by omega)
  obtain ⟨g, hg⟩ : ∃ g, g = w.heap.size := ⟨_, rfl⟩
  rw [← hg] at hmk hst
  have hmk2 : (Instr.makeSlice 22 (.int .i64 128) (.int .i64 128)).run Try.prog w = .ok (.slice (some ⟨g, 0, none⟩) 128 128) w2 := hmk
  have HST := Lib.hid hst
  clear hst hg H hmk
  go_wp2
  clear hmk2
  go_loopw [6] (fun v wr => ∃ k : Nat, k ≤ 128 ∧ v = .int .i64 (k : Int) ∧ Own.St B w0 wr (AB (some ⟨g, 0, none⟩) 128 128 (ones 255 128 k) :: Ps)) (fun v _ => 128 - (intOf v).toNat)
  case atStart => exact ⟨0, Nat.zero_le _, rfl, by rw [ones_zero]; exact HST.out⟩
  case round =>
    obtain ⟨k, hk128, rfl, H⟩ := hrel
    have H := Lib.hid H
    clear HST
    by_cases hk : (k : Int) < 128
    · have hkn : k < 128 := by omega
      obtain ⟨g', hg', cb, fb, hput⟩ := ab_byte H.out 0 rfl k hkn
      cases hg'
      have PUT : Hid (Own.St B w0 (wr.setCell ⟨g, k, none⟩ (.int .u8 255)) (AB (some ⟨g, 0, none⟩) 128 128 (ones 255 128 (k + 1)) :: Ps)) := by
        have h := hput 255
        simp only [List.set_cons_zero] at h
        rw [ones_set 255 128 k hkn] at h
        exact h
      clear hput H
      go_wp2
      go_roundw
      case rel => exact ⟨k + 1, by omega, by go_num, PUT.out⟩
      case measure => simp [intOf]; omega
    · have H2 : Hid (Own.St B w0 wr (AB (some ⟨g, 0, none⟩) 128 128 blankP :: Ps)) := by
        have h := H.out
        rw [show k = 128 by omega, ones_all] at h
        exact h
      clear H hk128
      go_wp2
      go_ret
      exact ⟨g, rfl, H2.out⟩

/-- are both frames -/
def sameB (f g : Frm) : Bool := decide (f.kind = g.kind) && (f.first == g.first) && (f.last == g.last) && decide (f.data = g.data)
theorem sameB_self (f : Frm) : sameB f f = true := by unfold sameB; simp
set_option maxHeartbeats 1600000 in
theorem same_any (f g : Frm) (af ag : Option Addr) (nf cf ng cg : Nat) (w : World) (hf : Given w af nf cf f.data) (hg : Given w ag ng cg g.data) :
    Calls Try.prog 16 #[frV f.kind.toNat f.first f.last (.slice af nf cf), frV g.kind.toNat g.first g.last (.slice ag ng cg)] w fun e w' => e = .returned (.bool (sameB f g)) ∧ Below w.heap.size w w' := by
  obtain ⟨k1, a1, z1, d1⟩ := f
  obtain ⟨k2, a2, z2, d2⟩ := g
  simp only at hf hg ⊢
  obtain ⟨v, hv⟩ : ∃ v, v = sameB ⟨k1, a1, z1, d1⟩ ⟨k2, a2, z2, d2⟩ := ⟨_, rfl⟩
  rw [← hv]
  unfold sameB at hv
  simp only at hv
  have HV := Lib.hid hv
  have H2 := Lib.hid (((Own.St.start w).boxV 24 (frC k1.toNat a1 z1 (.slice af nf cf)).toList).boxV 24 (frC k2.toNat a2 z2 (.slice ag ng cg)).toList)
  have GF := Lib.hid (hf.later H2.out.below)
  have GG := Lib.hid (hg.later H2.out.below)
  clear hv hf hg
  by_cases hk : ¬ k1 = k2
  · have HF : Hid (v = false) := by show v = false; rw [HV.out]; simp [hk]
    have e1 : ((k1.toNat : Int) == (k2.toNat : Int)) = false := by simp; exact fun h => hk (UInt8.toNat_inj.1 (by omega))
    clear hk HV
    go_enter Try.func16, Try.ntmps16
    go_wp2
    go_ret
    rw [HF.out]
    exact ⟨rfl, H2.out.below⟩
  have hk' : k1 = k2 := by simpa using hk
  subst hk'
  clear hk
  by_cases ha : ¬ a1 = a2
  · have HF : Hid (v = false) := by show v = false; rw [HV.out]; simp [ha]
    have e1 : (a1 == a2) = false := by simpa using ha
    clear ha HV
    go_enter Try.func16, Try.ntmps16
    go_wp2
    go_ret
    rw [HF.out]
    exact ⟨rfl, H2.out.below⟩
  have ha' : a1 = a2 := by simpa using ha
  subst ha'
  clear ha
  by_cases hz : ¬ z1 = z2
  · have HF : Hid (v = false) := by show v = false; rw [HV.out]; simp [hz]
    have e1 : (z1 == z2) = false := by simpa using hz
    clear hz HV
    go_enter Try.func16, Try.ntmps16
    go_wp2
    go_ret
    rw [HF.out]
    exact ⟨rfl, H2.out.below⟩
  have hz' : z1 = z2 := by simpa using hz
  subst hz'
  clear hz
  have HD : Hid (decide (d1 = d2) = v) := by show _ = v; rw [HV.out]; simp
  clear HV
  go_enter Try.func16, Try.ntmps16
  go_wp2_with (first
    | (refine Byt.wpList_str8 rfl (.tmp 26) rfl af nf cf rfl _ _ GF.out.view GF.out.size ?_)
    | (refine Byt.wpList_str8 rfl (.tmp 29) rfl ag ng cg rfl _ _ GG.out.view GG.out.size ?_)
    | (refine Byt.wpList_val rfl (eql_str rfl _ _ v HD.out _ _ rfl rfl) ?_))
  go_ret
  exact ⟨rfl, H2.out.below⟩
theorem givenL_take {w : World} {ao : Option Addr} {n cap : Nat} {L : List PagM.Bs} (h : GivenL w ao n cap L) (m : Nat) (hm : m ≤ n) : GivenL w ao m cap (L.take m) :=
  ⟨by rw [List.length_take, h.size]; omega, ⟨Nat.le_trans hm h.room.1, h.room.2⟩, h.nil, fun j hj => by
    obtain ⟨b, o, aj, cj, h1, h2, h3, h4⟩ := h.rows j (by omega)
    have e : (L.take m).getD j [] = L.getD j [] := by rw [List.getD_eq_getElem?_getD, List.getElem?_take_of_lt hj, ← List.getD_eq_getElem?_getD]
    rw [e]
    exact ⟨b, o, aj, cj, h1, h2, h3, h4⟩⟩
set_option maxHeartbeats 1600000 in
theorem few_any (ao : Option Addr) (n cap : Nat) (L : List PagM.Bs) (w : World) (hg : GivenL w ao n cap L) :
    Calls Try.prog 20 #[.slice ao n cap] w fun e w' => e = .returned (.slice ao (fewN L) cap) ∧ w' = w := by
  have HG := Lib.hid hg
  have HN := Lib.hid hg.size
  obtain ⟨R, hR⟩ : ∃ R, R = fewN L := ⟨_, rfl⟩
  rw [← hR]
  have HR := Lib.hid (show R = 0 + fewF 0 (L.drop 0) from by rw [Nat.zero_add]; exact hR)
  have hroom := hg.room
  unfold maxLen at hroom
  have HNO : Hid (ao = none → cap = 0) := hg.nil
  clear hg hR
  go_enter Try.func20, Try.ntmps20
  go_wp2
  go_loopw [6] (fun v wr => ∃ i : Nat, i ≤ n ∧ i ≤ 70 ∧ v = .int .i64 (i : Int) ∧ R = i + fewF i (L.drop i) ∧ wr = w) (fun v _ => n - (intOf v).toNat)
  case atStart => exact ⟨0, Nat.zero_le _, Nat.zero_le _, rfl, HR.out, rfl⟩
  case round =>
    obtain ⟨i, hin, hi70, rfl, hri, rfl⟩ := hrel
    have HRI := Lib.hid hri
    clear hri HR
    by_cases hlt : (i : Int) < (n : Int)
    · have hin2 : i < n := by omega
      obtain ⟨b, o, aj, cj, rfl, hbl, hcell, hgj⟩ := HG.out.rows i hin2
      obtain ⟨q, hq⟩ : ∃ q, q = L.getD i [] := ⟨_, rfl⟩
      rw [← hq] at hcell
      obtain ⟨m, hm⟩ : ∃ m, m = q.length := ⟨_, rfl⟩
      rw [← hm] at hcell
      have hdr : L.drop i = q :: L.drop (i + 1) := by
        rw [List.drop_eq_getElem_cons (by rw [HN.out]; exact hin2), hq, List.getD_eq_getElem?_getD, List.getElem?_eq_getElem (by rw [HN.out]; exact hin2)]
        rfl
      have hst : R = i + (if 70 ≤ i ∨ 200 < m then 0 else fewF (i + 1) (L.drop (i + 1)) + 1) := by
        rw [HRI.out, hdr, fewF, hm]
      have HST := Lib.hid hst
      have hic : i ≤ cap := by omega
      clear hq hgj hm hdr hst HRI HNO
      by_cases h70 : 70 ≤ (i : Int)
      · have HRR : Hid (R = i) := by show R = i; rw [HST.out, if_pos (.inl (by omega))]; rfl
        go_wp2
        go_ret
        exact ⟨by rw [HRR.out]; rfl, rfl⟩
      by_cases h200 : 200 < (m : Int)
      · have HRR : Hid (R = i) := by show R = i; rw [HST.out, if_pos (.inr (by omega))]; rfl
        go_wp2
        go_ret
        exact ⟨by rw [HRR.out]; rfl, rfl⟩
      have HRR : Hid (R = (i + 1) + fewF (i + 1) (L.drop (i + 1))) := by show R = _; rw [HST.out, if_neg (by omega)]; omega
      clear HST
      go_wp2
      go_roundw
      case rel => exact ⟨i + 1, by omega, by omega, by go_num, HRR.out, by first | rfl | trivial⟩
      case measure => simp [intOf]; omega
    · have HRR : Hid (R = n) := by
        show R = n
        rw [HRI.out, List.drop_of_length_le (by rw [HN.out]; omega)]
        show i + 0 = n
        omega
      go_wp2
      go_ret
      exact ⟨by rw [HRR.out]; rfl, rfl⟩
end Pag
end Go.Proofs.Ytphdpjfkpidofaa
