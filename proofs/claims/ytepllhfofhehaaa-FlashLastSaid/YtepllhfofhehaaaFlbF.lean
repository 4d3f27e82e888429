/- The landed flash: clones. -/
import Derived.Test.YtepllhfofhehaaaFlbE
import Derived.Test.YtepllhfofhehaaaMny
namespace Go.Proofs.Ytepllhfofhehaaa
open Go.RowKit Go.Own
namespace Fla
open Go.FlaM Byt

theorem manyPage : Many Try.prog 66 76 128 128 := ⟨Try.underlying66, by kernel_rfl, by decide⟩
theorem manyOp : Many Try.prog 63 78 131 152 := ⟨Try.underlying63, by kernel_rfl, by decide⟩
theorem manyInt : Many Try.prog 33 3 1 8 := ⟨Try.underlying33, by kernel_rfl, by decide⟩
theorem manyByte : Many Try.prog 32 5 1 1 := ⟨Try.underlying32, by kernel_rfl, by decide⟩
theorem oneRowB : One Try.prog 62 66 (.slice none 0 0) 24 := ⟨Try.underlying62, by kernel_rfl, rfl⟩

set_option maxHeartbeats 800000 in
theorem clonePages {B : Nat} {w0 w : World} {Ps : List Asn} {ao : Option Addr} {n cap : Nat} {xs : List Value} (H : Own.St B w0 w (ARow 76 128 (.slice ao n cap) n xs :: Ps)) (h1 : ∀ u ∈ xs, u.oneCell' = true) (hb : n ≤ 100000) :
    Calls Try.prog 52 #[.slice ao n cap] w fun e w' => ∃ a' c', e = .returned (.slice a' n c') ∧ Own.St B w0 w' (ARow 76 128 (.slice a' n c') n xs :: ARow 76 128 (.slice ao n cap) n xs :: Ps) := by
  have hl := H.rowLen 0 rfl
  have H0 := Lib.hid H
  have HO := Lib.hid h1
  have H1 := Lib.hid (H.emptyRow 76 128)
  have HN := Lib.hid (H1.out.rowNews 1 rfl)
  have HL := Lib.hid hl
  clear H h1 hl
  go_enter Try.func52, Try.ntmps52
  rcases ao with _ | a
  · obtain ⟨rfl, rfl⟩ := HL.out.2.2.2 rfl
    have hx : xs = [] := List.eq_nil_of_length_eq_zero (by have := HL.out.1; omega)
    subst hx
    clear HN H1 HO HL
    have hq := eqlNil (P := Try.prog) w 66 _ none 0 0 Try.underlying66
    simp only [Option.isNone_none] at hq
    go_wp2
    go_ret
    exact ⟨none, 0, rfl, H0.out.rowFresh⟩
  · have hq := eqlNil (P := Try.prog) w 66 _ (some a) n cap Try.underlying66
    simp only [Option.isNone_some] at hq
    go_wp2_with (refine wpList_many_append manyPage rfl (.tmp 5) (.tmp 6) rfl H1.out 0 rfl rfl (some a) n cap xs rfl (by intro h; cases h) HL.out.1 HN.out HO.out (by omega) (by decide) ?_; intro a2 c2 w2 h2; simp only [List.set_cons_zero, Nat.zero_add, List.nil_append] at h2 ⊢; have H2 := Lib.hid h2; clear h2)
    go_ret
    exact ⟨_, _, rfl, H2.out⟩
set_option maxHeartbeats 800000 in
theorem cloneOps {B : Nat} {w0 w : World} {Ps : List Asn} {ao : Option Addr} {n cap : Nat} {xs : List Value} (H : Own.St B w0 w (ARow 78 131 (.slice ao n cap) n xs :: Ps)) (h1 : ∀ u ∈ xs, u.oneCell' = true) (hb : n ≤ 100000) :
    Calls Try.prog 35 #[.slice ao n cap] w fun e w' => ∃ a' c', e = .returned (.slice a' n c') ∧ Own.St B w0 w' (ARow 78 131 (.slice a' n c') n xs :: ARow 78 131 (.slice ao n cap) n xs :: Ps) := by
  have hl := H.rowLen 0 rfl
  have H0 := Lib.hid H
  have HO := Lib.hid h1
  have H1 := Lib.hid (H.emptyRow 78 131)
  have HN := Lib.hid (H1.out.rowNews 1 rfl)
  have HL := Lib.hid hl
  clear H h1 hl
  go_enter Try.func35, Try.ntmps35
  rcases ao with _ | a
  · obtain ⟨rfl, rfl⟩ := HL.out.2.2.2 rfl
    have hx : xs = [] := List.eq_nil_of_length_eq_zero (by have := HL.out.1; omega)
    subst hx
    clear HN H1 HO HL
    have hq := eqlNil (P := Try.prog) w 63 _ none 0 0 Try.underlying63
    simp only [Option.isNone_none] at hq
    go_wp2
    go_ret
    exact ⟨none, 0, rfl, H0.out.rowFresh⟩
  · have hq := eqlNil (P := Try.prog) w 63 _ (some a) n cap Try.underlying63
    simp only [Option.isNone_some] at hq
    go_wp2_with (refine wpList_many_append manyOp rfl (.tmp 5) (.tmp 6) rfl H1.out 0 rfl rfl (some a) n cap xs rfl (by intro h; cases h) HL.out.1 HN.out HO.out (by omega) (by decide) ?_; intro a2 c2 w2 h2; simp only [List.set_cons_zero, Nat.zero_add, List.nil_append] at h2 ⊢; have H2 := Lib.hid h2; clear h2)
    go_ret
    exact ⟨_, _, rfl, H2.out⟩
set_option maxHeartbeats 800000 in
theorem cloneInts {B : Nat} {w0 w : World} {Ps : List Asn} {ao : Option Addr} {n cap : Nat} {xs : List Value} (H : Own.St B w0 w (ARow 3 1 (.slice ao n cap) n xs :: Ps)) (h1 : ∀ u ∈ xs, u.oneCell' = true) (hb : n ≤ 100000) :
    Calls Try.prog 36 #[.slice ao n cap] w fun e w' => ∃ a' c', e = .returned (.slice a' n c') ∧ Own.St B w0 w' (ARow 3 1 (.slice a' n c') n xs :: ARow 3 1 (.slice ao n cap) n xs :: Ps) := by
  have hl := H.rowLen 0 rfl
  have H0 := Lib.hid H
  have HO := Lib.hid h1
  have H1 := Lib.hid (H.emptyRow 3 1)
  have HN := Lib.hid (H1.out.rowNews 1 rfl)
  have HL := Lib.hid hl
  clear H h1 hl
  go_enter Try.func36, Try.ntmps36
  rcases ao with _ | a
  · obtain ⟨rfl, rfl⟩ := HL.out.2.2.2 rfl
    have hx : xs = [] := List.eq_nil_of_length_eq_zero (by have := HL.out.1; omega)
    subst hx
    clear HN H1 HO HL
    have hq := eqlNil (P := Try.prog) w 33 _ none 0 0 Try.underlying33
    simp only [Option.isNone_none] at hq
    go_wp2
    go_ret
    exact ⟨none, 0, rfl, H0.out.rowFresh⟩
  · have hq := eqlNil (P := Try.prog) w 33 _ (some a) n cap Try.underlying33
    simp only [Option.isNone_some] at hq
    go_wp2_with (refine wpList_many_append manyInt rfl (.tmp 5) (.tmp 6) rfl H1.out 0 rfl rfl (some a) n cap xs rfl (by intro h; cases h) HL.out.1 HN.out HO.out (by omega) (by decide) ?_; intro a2 c2 w2 h2; simp only [List.set_cons_zero, Nat.zero_add, List.nil_append] at h2 ⊢; have H2 := Lib.hid h2; clear h2)
    go_ret
    exact ⟨_, _, rfl, H2.out⟩
set_option maxHeartbeats 800000 in
/-- bytes.Clone of cells that lie anywhere -/
theorem cloneBytes {B : Nat} {w0 w : World} {Ps : List Asn} (H : Own.St B w0 w Ps) (a : Addr) (n cap : Nat) (l : Bs) (hl : l.length = n) (hc : ∀ j u, (l.map byteV)[j]? = some u → w.cell? (a.add j) = some u) (hlt : n = 0 ∨ a.block < w.heap.size) (hb : n ≤ 100000) :
    Calls Try.prog 50 #[.slice (some a) n cap] w fun e w' => ∃ a' c', e = .returned (.slice a' n c') ∧ Own.St B w0 w' (AB a' n c' l :: Ps) := by
  have H1 := Lib.hid (H.emptyRow 5 1)
  have HL : Hid ((l.map byteV).length = n * 1) := by show (l.map byteV).length = n * 1; simp [hl]
  have HN : Hid (∀ a', some a = some a' → ∀ j u, (l.map byteV)[j]? = some u → (w.alloc (.cells #[] 5)).cell? (a'.add j) = some u) := by
    intro a' ha j u hu
    cases ha
    exact cell_alloc (hc j u hu) _
  clear H hc hlt
  have hq := eqlNil (P := Try.prog) w 32 _ (some a) n cap Try.underlying32
  simp only [Option.isNone_some] at hq
  go_enter Try.func50, Try.ntmps50
  go_wp2_with (refine wpList_many_append manyByte rfl (.tmp 5) (.tmp 6) rfl H1.out 0 rfl rfl (some a) n cap (l.map byteV) rfl (by intro h; cases h) HL.out HN.out (byteV_one _) (by omega) (by decide) ?_; intro a2 c2 w2 h2; simp only [List.set_cons_zero, Nat.zero_add, List.nil_append] at h2 ⊢; have H2 := Lib.hid h2; clear h2)
  go_ret
  exact ⟨_, _, rfl, H2.out⟩

theorem take_set_next {α : Type} (rows : List α) (d : α) (k : Nat) (row : α) (h : rows[k]? = some row) : (rows.take k ++ List.replicate (rows.length - k) d).set k row = rows.take (k + 1) ++ List.replicate (rows.length - (k + 1)) d := by
  obtain ⟨hl, rfl⟩ := List.getElem?_eq_some_iff.1 h
  have e : rows.length - k = (rows.length - (k + 1)) + 1 := by omega
  rw [e, List.replicate_succ, List.set_append_right _ _ (by rw [List.length_take]; omega), List.length_take, show k - min k rows.length = 0 by omega, List.set_cons_zero, List.take_succ_eq_append_getElem hl, List.append_assoc]
  rfl
set_option maxHeartbeats 1600000 in
theorem clone_st {B : Nat} {w0 w : World} {Ps : List Asn} {v : Value} {G : List (List Bs)} {nn pp : Nat} (H : Own.St B w0 w (PGrid 66 76 v G :: Ps)) (hs : Shape G nn pp) (hn : nn ≤ 256) (hp : 1 ≤ pp ∧ pp ≤ 64) :
    Calls Try.prog 33 #[v] w fun e w' => ∃ a' c', e = .returned (.slice a' G.length c') ∧ Own.St B w0 w' (PGrid 66 76 (.slice a' G.length c') G :: PGrid 66 76 v G :: Ps) := by
  have hgl := hs.len
  have HS := Lib.hid hs
  obtain ⟨l, hl⟩ : ∃ l, l = G.length := ⟨_, rfl⟩
  have hlb : l ≤ 256 := by omega
  have HL := Lib.hid hl
  obtain ⟨rs, hrs, ho⟩ := H.pOpen
  obtain ⟨aV, cV, rfl⟩ := ho.rowForm 0 rfl
  rw [← hl]
  rw [← hl] at H
  clear ho hrs rs
  obtain ⟨w1, g1, hmk, h1⟩ := St.pMake (e := 76) oneRowB H .i64 .i64 l (by omega) (by decide)
  have H1 := Lib.hid h1
  clear H h1 hl hgl hs
  go_enter Try.func33, Try.ntmps33
  go_wp2
  clear hmk
  go_loopw [10] (fun v wr => ∃ k : Nat, k ≤ l ∧ v = .int .i64 (k : Int) ∧ Own.St B w0 wr (PGrid 66 76 (.slice (some ⟨g1, 0, none⟩) l l) (G.take k ++ List.replicate (G.length - k) []) :: PGrid 66 76 (.slice aV l cV) G :: Ps)) (fun v _ => l - (intOf v).toNat)
  case atStart => exact ⟨0, Nat.zero_le _, rfl, by rw [List.take_zero, List.nil_append, Nat.sub_zero, ← HL.out]; exact H1.out⟩
  case round =>
    obtain ⟨k, hkl, rfl, H⟩ := hrel
    have H := Lib.hid H
    clear H1
    by_cases hk : (k : Int) < (l : Int)
    · have hkn : k < l := by omega
      obtain ⟨row, hrow⟩ : ∃ row, G[k]? = some row := ⟨_, List.getElem?_eq_getElem (by rw [← HL.out]; exact hkn)⟩
      have hnn : l = nn := by rw [HL.out]; exact HS.out.len
      have hgd : G.getD k [] = row := by rw [List.getD_eq_getElem?_getD, hrow]; rfl
      have hrl : row.length = pp := by rw [← hgd]; exact HS.out.rows k (by omega)
      obtain ⟨g, c, ⟨ar, cr⟩, Qs, hv, cg, hR, put⟩ := H.out.swap2.pRowAtX k row hrow
      simp only [Value.slice.injEq] at hv
      obtain ⟨rfl, hvl, rfl⟩ := hv
      clear hvl
      have HR := Lib.hid hR
      have PUT : Hid (∀ w' a' c', Own.St B w0 w' (pRow 76 (a', c') row :: pRow 76 (ar, cr) row :: Qs) → ∃ (c1 : Nat), c1 = l ∧ (∃ u, w'.cell? ⟨g1, k, none⟩ = some u) ∧ w'.frozen? ⟨g1, k, none⟩ = false ∧ Own.St B w0 (w'.setCell ⟨g1, k, none⟩ (.slice a' row.length c')) (PGrid 66 76 (.slice (some ⟨g1, 0, none⟩) l l) (G.take (k + 1) ++ List.replicate (G.length - (k + 1)) []) :: PGrid 66 76 (.slice (some ⟨g, 0, none⟩) l cV) G :: Ps)) := by
        intro w' a' c' h
        have h2 := put w' row [pRow 76 (a', c') row] rfl h
        rw [show G.set k row = G by
          obtain ⟨hl2, rfl⟩ := List.getElem?_eq_some_iff.1 hrow
          exact List.set_getElem_self hl2] at h2
        have h3 := h2.front 2 rfl
        simp only [List.cons_append, List.nil_append, List.eraseIdx_cons_succ, List.eraseIdx_cons_zero] at h3
        have hlen : (G.take k ++ List.replicate (G.length - k) ([] : List Bs)).length = l := by rw [List.length_append, List.length_take, List.length_replicate]; have := HL.out; omega
        obtain ⟨g2, c2, hv2, hcu, hfz, h4⟩ := h3.pPut k (by rw [hlen]; exact hkn)
        simp only [Value.slice.injEq, hlen] at hv2
        obtain ⟨e1, _, rfl⟩ := hv2
        cases e1
        rw [take_set_next G [] k row hrow] at h4
        exact ⟨_, rfl, hcu, hfz, h4⟩
      have CG : Hid (wr.cell? ⟨g, k, none⟩ = some (.slice ar pp cr)) := by rw [← hrl]; exact cg
      have cg2 := CG.out
      have HRL := Lib.hid hrl
      have CC : Hid (Calls Try.prog 52 #[.slice ar pp cr] wr fun e w' => ∃ a' c', e = .returned (.slice a' pp c') ∧ Own.St B w0 w' (pRow 76 (a', c') row :: pRow 76 (ar, cr) row :: Qs)) := by
        have h := clonePages (n := row.length) hR (byteV_one _) (by omega)
        rw [hrl] at h
        refine h.mono ?_
        rintro e w' ⟨a', c', he, h'⟩
        refine ⟨a', c', he, ?_⟩
        unfold pRow
        rw [hrl]
        exact h'
      clear hrow hgd hrl hR put cg CG H HR hnn
      go_wp2_with (fail)
      refine CC.out.mono ?_
      clear CC cg2
      rintro e w2 ⟨a2, c2, rfl, h2⟩
      obtain ⟨_, _, ⟨u, cu⟩, fu, h3⟩ := PUT.out w2 a2 c2 h2
      rw [HRL.out] at h3
      have H3 := Lib.hid h3
      clear h2 h3 PUT
      go_wp2
      go_roundw
      case rel => exact ⟨k + 1, by omega, by go_num, H3.out⟩
      case measure => simp [intOf]; omega
    · obtain rfl : k = l := by omega
      have H2 : Hid (Own.St B w0 wr (PGrid 66 76 (.slice (some ⟨g1, 0, none⟩) k k) G :: PGrid 66 76 (.slice aV k cV) G :: Ps)) := by
        have h := H.out
        rw [← HL.out, List.take_of_length_le (by rw [← HL.out]; exact Nat.le_refl _), Nat.sub_self, List.replicate_zero, List.append_nil] at h
        exact h
      clear H
      go_wp2
      go_ret
      exact ⟨_, _, rfl, H2.out⟩
end Fla
end Go.Proofs.Ytepllhfofhehaaa
