/- Layer 9: lists of bytes that a call may be given; the document's Split. -/
import Derived.Test.YtphdpjfkpidofaaPagT
import Derived.Test.YtphdpjfkpidofaaGri
namespace Go.Proofs.Ytphdpjfkpidofaa
open Go.RowKit Go.Own
namespace Byt
/-- a list of bytes that a call may be given -/
structure GivenL (w : World) (ao : Option Addr) (n cap : Nat) (L : List (List UInt8)) : Prop where
  size : L.length = n
  room : n ≤ cap ∧ cap ≤ maxLen
  nil : ao = none → cap = 0
  rows : ∀ j, j < n → ∃ b o aj cj, ao = some ⟨b, o, none⟩ ∧ b < w.heap.size ∧ w.cell? ⟨b, o + j, none⟩ = some (.slice aj (L.getD j []).length cj) ∧ Given w aj (L.getD j []).length cj (L.getD j [])
theorem GivenL.later {w w' : World} {ao : Option Addr} {n cap : Nat} {L : List (List UInt8)} (h : GivenL w ao n cap L) (g : Below w.heap.size w w') : GivenL w' ao n cap L :=
  ⟨h.size, h.room, h.nil, fun j hj => by
    obtain ⟨b, o, aj, cj, h1, h2, h3, h4⟩ := h.rows j hj
    exact ⟨b, o, aj, cj, h1, Nat.lt_of_lt_of_le h2 g.size, cellLater h3 g, h4.later g⟩⟩
/-- a table of bytes of one's own may be given -/
theorem givenL_own {B : Nat} {w0 w : World} {Ps : List Asn} {v : Value} {L : List (List UInt8)} (H : Own.St B w0 w (AGrid 22 5 byteV v L :: Ps)) : ∃ ao cap, v = .slice ao L.length cap ∧ GivenL w ao L.length cap L := by
  obtain ⟨rs, hl, h⟩ := H.gridOpen
  obtain ⟨ao, cap, rfl⟩ := h.rowForm 0 rfl
  obtain ⟨_, h1, h2, h3⟩ := h.rowLen 0 rfl
  refine ⟨ao, cap, rfl, rfl, ⟨h1, h2⟩, fun e => (h3 e).2, fun j hj => ?_⟩
  obtain ⟨g, rfl, ⟨u, hu, hc⟩, _, _⟩ := h.rowAt 0 rfl j (by omega)
  have hr : rs[j]? = some rs[j] := List.getElem?_eq_getElem (by omega)
  have hL : L[j]? = some L[j] := List.getElem?_eq_getElem hj
  rw [zip_at _ _ _ _ _ _ hr hL] at hu
  cases hu
  have hz := zip_at (gRow 5 byteV) rs L j _ _ hr hL
  have h4 : (gParts 22 5 byteV (.slice (some ⟨g, 0, none⟩) L.length cap) rs L ++ Ps)[j + 1]? = some (AB rs[j].1 L[j].length rs[j].2 L[j]) := by
    unfold gParts
    rw [List.cons_append, List.getElem?_cons_succ, List.getElem?_append_left (List.getElem?_eq_some_iff.1 hz).1]
    exact hz
  have e : L.getD j [] = L[j] := by rw [List.getD_eq_getElem?_getD, hL]; rfl
  rw [e]
  exact ⟨g, 0, rs[j].1, rs[j].2, rfl, World.block_lt_of_cell? w _ hc, by rw [Nat.zero_add]; exact hc, given_own h (j + 1) h4⟩
theorem oneBytes : One Try.prog 34 22 (.slice none 0 0) 24 := ⟨Try.underlying34, by kernel_rfl, rfl⟩
end Byt
namespace Pag
open Go.PagM Byt
def SplitDone (x : List PagM.Bs × Nat) (w : World) (e : Ending) (w' : World) : Prop := ∃ ao cap, e = .returned (.tuple #[.slice ao x.1.length cap, errP x.2]) ∧ GivenL w' ao x.1.length cap x.1 ∧ Below w.heap.size w w'
theorem split_err (x : List PagM.Bs × Nat) (k : Nat) (hx : x = ([], k)) (w : World) : SplitDone x w (.returned (.tuple #[.slice none 0 0, errP k])) w := by
  subst hx
  exact ⟨none, 0, rfl, ⟨rfl, ⟨Nat.le_refl _, Nat.zero_le _⟩, fun _ => rfl, fun j hj => absurd hj (Nat.not_lt_zero j)⟩, Below.refl _ _⟩
def boolN : Value → Nat
  | .bool true => 1
  | _ => 0
/-- what is still to come -/
def togo (kind : UInt8) (first : Bool) (b : PagM.Bs) : List PagM.Bs := if first = true ∨ 0 < b.length then rest kind first b else []
theorem togo_step (kind : UInt8) (first : Bool) (b : PagM.Bs) (h : first = true ∨ 0 < b.length) : togo kind first b = laid ⟨kind, first, decide (b.length ≤ 125), b.take 125⟩ :: togo kind false (b.drop 125) := by
  unfold togo
  rw [if_pos h, rest_step]
  congr 1
  by_cases hl : b.length ≤ 125
  · rw [if_pos hl, if_neg (by simp; omega)]
  · rw [if_neg hl, if_pos (by simp; omega)]
set_option maxRecDepth 10000 in
set_option maxHeartbeats 4000000 in
theorem refSplit_any (kind : UInt8) (ao : Option Addr) (n cap : Nat) (p : PagM.Bs) (w : World) (hg : Given w ao n cap p) (hb : n ≤ 1000000) :
    Calls Try.prog 18 #[.int .u8 (kind.toNat : Int), .slice ao n cap] w (SplitDone (split kind p) w) := by
  obtain ⟨k, hk⟩ : ∃ k, k = kind.toNat := ⟨_, rfl⟩
  rw [← hk]
  obtain ⟨X, hX⟩ : ∃ X, X = split kind p := ⟨_, rfl⟩
  rw [← hX]
  have HN := Lib.hid hg.size
  have hk255 : k ≤ 255 := by have := kind.toNat_lt; omega
  by_cases h63 : (63 : Int) < (k : Int)
  · have HX : Hid (X = ([], 1)) := by
      show X = _
      have e : splitE kind p = 1 := by unfold splitE; rw [if_pos (by omega)]
      rw [hX]; unfold split; rw [e]; rfl
    clear hX hk hg
    go_enter Try.func18, Try.ntmps18
    go_wp2
    go_ret2
    exact split_err X 1 HX.out w
  by_cases h8 : (8000 : Int) < (n : Int)
  · have HX : Hid (X = ([], 4)) := by
      show X = _
      have e : splitE kind p = 4 := by unfold splitE; rw [if_neg (by omega), if_pos (by rw [HN.out]; omega)]
      rw [hX]; unfold split; rw [e]; rfl
    clear hX hk hg
    go_enter Try.func18, Try.ntmps18
    go_wp2
    go_ret2
    exact split_err X 4 HX.out w
  have HX : Hid (X = (togo kind true p, 0)) := by
    show X = _
    have e : splitE kind p = 0 := by unfold splitE; rw [if_neg (by omega), if_neg (by rw [HN.out]; omega)]
    rw [hX]; unfold split; rw [e]; unfold togo; rw [if_pos (Or.inl rfl)]; rfl
  have HK := Lib.hid hk
  have HG := Lib.hid hg
  obtain ⟨T, hT⟩ : ∃ T, T = togo kind true p := ⟨_, rfl⟩
  have HT := Lib.hid hT
  have HTL : Hid (T.length ≤ 70) := by
    show T.length ≤ 70
    rw [hT]; unfold togo; rw [if_pos (Or.inl rfl)]
    have := pages_len kind p
    unfold pages at this
    unfold rest
    rw [this, HN.out]
    omega
  rw [← hT] at HX
  have hk63 : k ≤ 63 := by omega
  have H0 : Hid (Own.St w.heap.size w w [AGrid 22 5 byteV (.slice none 0 0) []]) := St.gridNil (Own.St.start w)
  clear hX hk hg h63 hT
  go_enter Try.func18, Try.ntmps18
  go_wp2
  go_loopw [1, 6, 7] (fun v1 v6 v7 wr => ∃ (ab al : Option Addr) (nb cb cl : Nat) (f : Bool) (q : PagM.Bs) (L : List PagM.Bs), v1 = .slice ab nb cb ∧ v6 = .slice al L.length cl ∧ v7 = .bool f ∧ Given w ab nb cb q ∧ nb ≤ n ∧ T = L ++ togo kind f q ∧ Own.St w.heap.size w wr [AGrid 22 5 byteV (.slice al L.length cl) L]) (fun v1 _ v7 _ => 2 * lenV v1 + boolN v7)
  case atStart => exact ⟨ao, none, n, cap, 0, true, p, [], rfl, rfl, rfl, HG.out, Nat.le_refl _, HT.out, H0.out⟩
  case round =>
    obtain ⟨ab, al, nb, cb, cl, f, q, L, rfl, rfl, rfl, hgq, hnb, hTq, hH⟩ := hrel
    have G0 := Lib.hid hgq
    have G := Lib.hid (hgq.later hH.below)
    have H := Lib.hid hH
    have E := Lib.hid hTq
    have HQL := Lib.hid hgq.size
    have hroom := hgq.room
    clear hgq hH hTq H0 HG
    by_cases hgo : f = true ∨ 0 < nb
    · obtain ⟨m, hm⟩ : ∃ m, m = min nb 125 := ⟨_, rfl⟩
      obtain ⟨lst, hlst⟩ : ∃ b, b = decide (nb ≤ 125) := ⟨_, rfl⟩
      have hmin : ∀ wx, (Builtin.min_ #[3, 3] 3 #[.int .i64 (nb : Int), .int .i64 125]).run Try.prog wx = .ok (.int .i64 (m : Int)) wx := by
        intro wx
        rw [show (m : Int) = min (nb : Int) 125 by omega]
        simp [Builtin.min_, Builtin.min2, go_sem]
        try omega
      have heq : ((m : Int) == (nb : Int)) = lst := by rw [hlst, Bool.eq_iff_iff]; simp; omega
      have hmn : m ≤ nb := by omega
      obtain ⟨P, hP⟩ : ∃ P, P = laid ⟨kind, f, lst, q.take m⟩ := ⟨_, rfl⟩
      have hmq : q.take 125 = q.take m := by rw [hm, ← HQL.out, List.take_eq_take_iff]; omega
      have hdq : q.drop 125 = q.drop m := by
        by_cases h : nb ≤ 125
        · rw [List.drop_of_length_le (by rw [HQL.out]; exact h), List.drop_of_length_le (by rw [HQL.out]; omega)]
        · rw [show m = 125 by omega]
      have EN : Hid (T = (L ++ [P]) ++ togo kind false (q.drop m)) := by
        show T = _
        rw [E.out, togo_step kind f q (by rw [HQL.out]; exact hgo), hmq, hdq, HQL.out, ← hlst, ← hP, List.append_assoc]
        rfl
      have hlay : lay ⟨kind, f, lst, q.take m⟩ = (P, 0) := by
        unfold lay
        rw [if_pos (layE_ok (by show kind.toNat ≤ 63; rw [← HK.out]; exact hk63) (by show (q.take m).length ≤ 125; rw [List.length_take]; omega)), hP]
      have LAY : Hid (Calls Try.prog 13 #[frV k f lst (.slice ab m cb)] wr fun e w' => ∃ a' c', e = .returned (.tuple #[.slice a' P.length c', errP 0]) ∧ Own.St w.heap.size w w' [AGrid 22 5 byteV (.slice al L.length cl) L, AB a' P.length c' P] ∧ Below wr.heap.size wr w') := by
        have h := refLay_new ⟨kind, f, lst, q.take m⟩ ab m cb wr (given_take G.out m hmn) (by omega)
        rw [hlay] at h
        rw [HK.out]
        refine h.mono ?_
        rintro e w' ⟨a', c', he, h'⟩
        obtain ⟨S, hS, hB, _⟩ := h'.at 0 rfl
        exact ⟨a', c', he, (H.out.adopt h'.below _ hS hB).swap2, h'.below⟩
      have CT := Lib.hid (cutTo (ao := ab) (l := q) (m := nb) (cap := cb) m HQL.out hmn hroom.1 hroom.2 G.out.nil).1
      obtain ⟨a5, c5, hF1, hF2⟩ := cutFrom (ao := ab) (l := q) (m := nb) (cap := cb) m HQL.out hmn hroom.1 hroom.2 G.out.nil
      have CF := Lib.hid hF1
      have CF2 := Lib.hid hF2
      have HLB : Hid (L.length + 1 ≤ 100000000) := by
        have h1 := HTL.out
        rw [EN.out] at h1
        simp at h1
        show L.length + 1 ≤ 100000000
        omega
      have HM : Hid (m = min nb 125) := hm
      clear hm hlst hP hmq hdq hlay hF1 hF2 E H HQL
      cases f
      all_goals
        first
          | (have hnb0 : (0 : Int) < (nb : Int) := by have : 0 < nb := by simpa using hgo
                                                      omega
             clear hgo)
          | (clear hgo)
        go_wp2_with (first
          | (refine Byt.wpList_val rfl (CT.out _ (.tmp 32) (.tmp 33) rfl _ _ rfl rfl) ?_))
        refine LAY.out.mono ?_
        clear LAY
        rintro e w3 ⟨a3, c3, rfl, h3, hb3⟩
        have H4 := Lib.hid (h3.alloc (.cells #[.slice a3 P.length c3] 22))
        have CN : Hid ((w3.alloc (.cells #[.slice a3 P.length c3] 22)).cell? ⟨w3.heap.size, 0, none⟩ = some (.slice a3 P.length c3)) := cell_of_block (heap_alloc_new w3 _) rfl
        have GB := Lib.hid (CF2.out)
        have GW := Lib.hid (h3.below)
        clear h3 hb3
        go_wp2_with (first
          | (at_builtin; refine wpList_grid_append oneBytes rfl (.tmp 39) (.tmp 41) rfl H4.out rfl ⟨w3.heap.size, 0, none⟩ rfl rfl CN.out HLB.out (by decide) ?_; intro a4 c4 w4 h4; have H5 := Lib.hid h4; clear h4)
          | (refine Byt.wpList_val rfl (CF.out _ (.tmp 43) (.tmp 44) rfl _ _ rfl rfl) ?_))
        go_roundw
        case rel => exact ⟨a5, a4, nb - m, c5, c4, false, q.drop m, L ++ [P], rfl, by rw [List.length_append]; rfl, rfl, ⟨CF2.out.view _ _ G0.out.view, CF2.out.len, CF2.out.cap, CF2.out.none⟩, by omega, EN.out, by rw [List.length_append]; exact H5.out⟩
        case measure =>
          have := HM.out
          simp only [lenV, boolN]
          omega
    · have hf : f = false := by cases f with | false => rfl | true => exact absurd (Or.inl rfl) hgo
      have hnb0 : nb = 0 := by
        rcases Nat.eq_zero_or_pos nb with h | h
        · exact h
        · exact absurd (Or.inr h) hgo
      subst hf hnb0
      have HXX : Hid (X = (L, 0)) := by
        show X = _
        rw [HX.out, E.out]
        unfold togo
        rw [if_neg (by rw [HQL.out]; simp), List.append_nil]
      clear hgo E HX
      go_wp2
      go_ret2
      rw [HXX.out]
      obtain ⟨a', c', hv, hgl⟩ := givenL_own H.out
      cases hv
      exact ⟨al, cl, rfl, hgl, H.out.below⟩
end Pag
end Go.Proofs.Ytphdpjfkpidofaa
