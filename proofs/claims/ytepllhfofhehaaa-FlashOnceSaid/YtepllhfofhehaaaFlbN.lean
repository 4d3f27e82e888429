/- The landed flash: New. -/
import Derived.Test.YtepllhfofhehaaaFlbL
namespace Go.Own
open Go.RowKit Go.FlaM
section
variable {P : Program} {t e : TypeId} {size bytes : Nat} {B : Nat} {w0 w : World} {Ps : List Asn}
/-- make([]T, n), where a T has many cells -/
theorem St.manyMake {zs : List Value} {z : Value} (O : Many P t e size bytes) (hz : (P.info? e).bind (·.zero) = some z) (hzs : z.cells = zs.toArray) (H : St B w0 w Ps) (kl kc : IntKind) (n : Nat) (hn : n ≤ 100000) (b2 : bytes ≤ 10000) :
    ∃ w' g, (Instr.makeSlice t (.int kl (n : Int)) (.int kc (n : Int))).run P w = .ok (.slice (some ⟨g, 0, none⟩) n n) w' ∧ St B w0 w' (ARow e size (.slice (some ⟨g, 0, none⟩) n n) n ((List.replicate n zs).flatten) :: Ps) := by
  obtain ⟨i0, hi0, hq⟩ := Option.map_eq_some_iff.1 O.info
  simp only [Prod.mk.injEq] at hq
  obtain ⟨hz0, hz1, hz2⟩ := hq
  obtain ⟨z', hz3, hz4⟩ := Option.map_eq_some_iff.1 hz0
  have hzz : z' = z := by rw [hi0] at hz; simp only [Option.bind_some] at hz; rw [hz3] at hz; exact Option.some.inj hz
  subst hzz
  obtain ⟨w', hr, hown, hg⟩ := run_make_full (P := P) w 0 t e i0 z' size O.slice hi0 hz3 hz1 kl kc n (by rw [hz2]; exact Nat.le_trans (Nat.mul_le_mul b2 hn) (by decide)) (by unfold maxLen; omega) (Nat.zero_le _)
  have hzl : zs.length = size := by rw [hzs] at hz4; simpa using hz4
  have em : (madeCells z'.cells (n * size)).toList = (List.replicate n zs).flatten := by
    rw [hzs]
    unfold madeCells
    have hfl : (List.replicate n zs).flatten = (List.replicate n ()).flatMap (fun _ => zs) := by rw [List.flatMap_def, List.map_replicate]
    rw [hfl]
    apply List.ext_getElem?
    intro i
    by_cases hi : i < n * size
    · have hpos := O.pos
      have hk : i / size < n := (Nat.div_lt_iff_lt_mul hpos).2 hi
      have hm := Nat.mod_lt i hpos
      have h1 := flat_at (fun _ : Unit => zs) size (List.replicate n ()) (fun _ _ => hzl) (i / size) () (by simp [hk]) (i % size) hm
      rw [Nat.mul_comm, Nat.div_add_mod] at h1
      rw [h1]
      simp [hi, hzl, hm]
    · have h1 := flat_length (fun _ : Unit => zs) size (List.replicate n ()) (fun _ _ => hzl)
      rw [List.length_replicate] at h1
      rw [List.getElem?_eq_none (by simp; omega), List.getElem?_eq_none (by omega)]
  rw [em] at hown
  refine ⟨w', w.heap.size, hr, H.new (S' := fun k => k = w.heap.size) (ARow e size _ n _) ⟨hown, fun k => by simp [Value.ownBlock, eq_comm]⟩ ?_⟩
  exact ((Step.refl (fun _ => False) w).grown hg (by intro k hk; cases hk)).to (fun k hk => .inr (Nat.le_of_eq hk.symm))
end
end Go.Own
namespace Go.Proofs.Ytepllhfofhehaaa
open Go.RowKit Go.Own
namespace Fla
open Go.FlaM Byt
theorem oneInt8 : One Try.prog 33 3 (.int .i64 0) 8 := ⟨Try.underlying33, by kernel_rfl, rfl⟩
theorem make_E {o : Oper} {x : Tmp} {t : TypeId} (ho : o.op = .makeSlice t (.tmp x) (.tmp x)) {ρ : Operand → Value} {w w' : World} {n v : Value} (h0 : ρ (.tmp x) = n) (hrun : (Instr.makeSlice t n n).run Try.prog w = .ok v w') : (execOp ρ o).run Try.prog w = .ok (.value v) w' := by
  unfold execOp
  simp [ho, h0, hrun]
def zeroPage : Bs := List.replicate 128 0
theorem wipe_all (row : List Bs) : wipeTo row row.length = List.replicate row.length FlaM.blank := by
  have : ∀ m, m ≤ row.length → wipeTo row m = List.replicate m FlaM.blank ++ row.drop m := by
    intro m
    induction m with
    | zero => intro _; simp [wipeTo]
    | succ m ih =>
      intro hm
      rw [wipeTo, ih (by omega), List.set_append_right _ _ (by simp), List.length_replicate, Nat.sub_self, List.drop_eq_getElem_cons (by omega), List.set_cons_zero, List.replicate_succ', List.append_assoc]
      rfl
  rw [this _ (Nat.le_refl _), List.drop_length, List.append_nil]
theorem rep_set (S k : Nat) (hk : k < S) (a b : List Bs) : (List.replicate k a ++ List.replicate (S - k) b).set k a = List.replicate (k + 1) a ++ List.replicate (S - (k + 1)) b := by
  have e : S - k = (S - (k + 1)) + 1 := by omega
  rw [e, List.replicate_succ, List.set_append_right _ _ (by simp), List.length_replicate, Nat.sub_self, List.set_cons_zero, List.replicate_succ', List.append_assoc]
  rfl
theorem rep_at (S k : Nat) (hk : k < S) (a b : List Bs) : (List.replicate k a ++ List.replicate (S - k) b)[k]? = some b := by
  rw [List.getElem?_append_right (by simp), List.length_replicate, Nat.sub_self, List.getElem?_replicate]
  simp; omega

section
variable {B : Nat} {w0 w : World} {Ps : List Asn}
theorem new_no (segs pages : Int) (H : Own.St B w0 w Ps) (hm : ¬ mayBe segs pages = true) :
    Calls Try.prog 12 #[.int .i64 segs, .int .i64 pages] w fun e w' => e = .returned (.tuple #[.pointer none, errV 1]) ∧ Own.St B w0 w' Ps := by
  have H0 := Lib.hid H
  have hm2 : ¬ (0 ≤ segs ∧ segs ≤ 256 ∧ 1 ≤ pages ∧ pages ≤ 64) := by simpa [mayBe] using hm
  clear H hm
  by_cases q1 : segs < 0
  · clear hm2
    go_enter Try.func12, Try.ntmps12
    go_wp2
    go_ret2
    exact ⟨rfl, H0.out⟩
  by_cases q2 : 256 < segs
  · clear hm2
    go_enter Try.func12, Try.ntmps12
    go_wp2
    go_ret2
    exact ⟨rfl, H0.out⟩
  by_cases q3 : pages < 1
  · clear hm2
    go_enter Try.func12, Try.ntmps12
    go_wp2
    go_ret2
    exact ⟨rfl, H0.out⟩
  have q4 : 64 < pages := by omega
  clear hm2
  go_enter Try.func12, Try.ntmps12
  go_wp2
  go_ret2
  exact ⟨rfl, H0.out⟩
set_option maxRecDepth 10000 in
set_option maxHeartbeats 3200000 in
theorem new_yes (S PP : Nat) (H : Own.St B w0 w Ps) (hS256 : S ≤ 256) (hPP : 1 ≤ PP ∧ PP ≤ 64) :
    Calls Try.prog 12 #[.int .i64 (S : Int), .int .i64 (PP : Int)] w fun e w' => ∃ p, e = .returned (.tuple #[ptr p, errV 0]) ∧ Own.St B w0 w' (AFl p (fresh S PP) :: Ps) := by
  obtain ⟨wA, gA, eA, hA⟩ := St.pMake (e := 76) oneRowB H.drew .i64 .i64 S (by omega) (by decide)
  obtain ⟨wA2, gA2, eA2, hA2⟩ := St.oneMake oneInt8 hA .i64 .i64 S (by omega) (by decide) rfl
  obtain ⟨wB, gB, eB, hB⟩ := St.oneMake oneInt8 H.drew .i64 .i64 S (by omega) (by decide) rfl
  obtain ⟨wB2, gB2, eB2, hB2⟩ := St.pMake (e := 76) oneRowB hB .i64 .i64 S (by omega) (by decide)
  have HA2 := Lib.hid hA2.swap2
  have HB2 := Lib.hid hB2
  clear hA hA2 hB hB2 H
  obtain ⟨hp1, hp2⟩ := hPP
  go_enter Try.func12, Try.ntmps12
  go_wp2_with (fail)
  go_region
  all_goals
    go_wp2
    first
      | (obtain ⟨gS, hgS⟩ : ∃ x, x = gA := ⟨_, rfl⟩; obtain ⟨gW, hgW⟩ : ∃ x, x = gA2 := ⟨_, rfl⟩; obtain ⟨w2, hw2⟩ : ∃ x, x = wA2 := ⟨_, rfl⟩; rw [← hw2]; rw [← hgS, ← hgW] at HA2 ⊢; rw [← hw2] at HA2; have HH := HA2; clear HA2 HB2 eA eA2 eB eB2 hgS hgW hw2)
      | (obtain ⟨gS, hgS⟩ : ∃ x, x = gB2 := ⟨_, rfl⟩; obtain ⟨gW, hgW⟩ : ∃ x, x = gB := ⟨_, rfl⟩; obtain ⟨w2, hw2⟩ : ∃ x, x = wB2 := ⟨_, rfl⟩; rw [← hw2]; rw [← hgS, ← hgW] at HB2 ⊢; rw [← hw2] at HB2; have HH := HB2; clear HA2 HB2 eA eA2 eB eB2 hgS hgW hw2)
    have hb := HH.out.boxV 65 (flCells PP (.slice none 0 0) (.slice (some ⟨gS, 0, none⟩) S S) (.slice none 0 0) (.slice (some ⟨gW, 0, none⟩) S S) 0 false false 0)
    obtain ⟨p, hp⟩ : ∃ p, p = w2.heap.size := ⟨_, rfl⟩
    rw [← hp] at hb ⊢
    obtain ⟨W, hW⟩ : ∃ W, W = w2.alloc (.cells (flCells PP (.slice none 0 0) (.slice (some ⟨gS, 0, none⟩) S S) (.slice none 0 0) (.slice (some ⟨gW, 0, none⟩) S S) 0 false false 0).toArray 65) := ⟨_, rfl⟩
    have hW2 : w2.alloc (.cells #[.int .i64 (PP : Int), .slice none 0 0, .slice (some ⟨gS, 0, none⟩) S S, .slice none 0 0, .slice (some ⟨gW, 0, none⟩) S S, .int .i64 0, .bool false, .bool false, .int .i64 0] 65) = W := hW.symm
    rw [← hW] at hb
    rw [hW2]
    have H0 := Lib.hid hb
    clear hb hW hW2 hp HH
    go_loopw [34] (fun v wr => ∃ k : Nat, k ≤ S ∧ v = .int .i64 (k : Int) ∧ Own.St B w0 wr (AVals p 65 (flCells PP (.slice none 0 0) (.slice (some ⟨gS, 0, none⟩) S S) (.slice none 0 0) (.slice (some ⟨gW, 0, none⟩) S S) 0 false false 0) :: gridT (.slice (some ⟨gS, 0, none⟩) S S) (List.replicate k (List.replicate PP FlaM.blank) ++ List.replicate (S - k) []) :: ARow 3 1 (.slice (some ⟨gW, 0, none⟩) S S) S (List.replicate S (.int .i64 0)) :: Ps)) (fun v _ => S - (intOf v).toNat)
    case atStart => exact ⟨0, Nat.zero_le _, rfl, by rw [List.replicate_zero, List.nil_append, Nat.sub_zero]; exact H0.out⟩
    case round =>
      obtain ⟨k, hkS, rfl, H⟩ := hrel
      have H := Lib.hid H
      clear H0
      by_cases hk : (k : Int) < (S : Int)
      · have hkn : k < S := by omega
        obtain ⟨w1, g1, e1, h1⟩ := St.manyMake (zs := zeroPage.map byteV) manyPage zero_page rfl H.out.drew .i64 .i64 PP (by omega) (by decide)
        have hfl : (List.replicate PP (zeroPage.map byteV)).flatten = ((List.replicate PP zeroPage).flatten.map byteV) := by rw [List.map_flatten, List.map_replicate]
        have hpr : ARow 76 128 (.slice (some ⟨g1, 0, none⟩) PP PP) PP ((List.replicate PP (zeroPage.map byteV)).flatten) = pRow 76 (some ⟨g1, 0, none⟩, PP) (List.replicate PP zeroPage) := by
          unfold pRow
          rw [hfl, List.length_replicate]
        rw [hpr] at h1
        have c2a := (H.out.drew.cellV 0 rfl 2 rfl).1
        have c2b := (h1.cellV 1 rfl 2 rfl).1
        have h2 := (h1.front 2 rfl)
        simp only [List.eraseIdx_cons_succ, List.eraseIdx_cons_zero] at h2
        have hlen : (List.replicate k (List.replicate PP FlaM.blank) ++ List.replicate (S - k) ([] : List Bs)).length = S := by simp; omega
        obtain ⟨g', c', hv, ⟨u, cu⟩, fu, h3⟩ := h2.pPut k (by rw [hlen]; exact hkn)
        simp only [Value.slice.injEq] at hv
        obtain ⟨hg', hl1, hl2⟩ := hv
        cases hg'
        clear hl1 hl2
        rw [List.length_replicate] at h3
        have C2A := Lib.hid c2a
        have C2B := Lib.hid c2b
        have E1 := Lib.hid e1
        have CU : Hid (w1.cell? ⟨gS, k, none⟩ = some u ∧ w1.frozen? ⟨gS, k, none⟩ = false) := ⟨cu, fu⟩
        have H3 := Lib.hid h3
        clear h1 h2 h3 hfl hpr hlen cu fu c2a c2b e1
        go_wp2_with (fail)
        refine wp_chain_list [6, 8] (fun j wx => wx = match j with | 0 => wr.drew | 1 => w1 | _ => w1.setCell ⟨gS, k, none⟩ (.slice (some ⟨g1, 0, none⟩) PP PP)) (by kernel_rfl) (by kernel_rfl) (by kernel_rfl) (by kernel_rfl) rfl ?_
        refine wpG_move (.pointer (some ⟨p, 0, none⟩)) rfl (by kernel_rfl) (by kernel_rfl) (by kernel_rfl) ?_
        refine wpG_run1 (x := .tmp 37) (.pointer (some ⟨p, 0, none⟩)) (.pointer (some ⟨p, 0, none⟩)) (by kernel_rfl) (by kernel_rfl) (by kernel_rfl) (by kernel_rfl) (fun j wx ρ hC h0 hc => by simp [go_sem, h0, hc]) ?_
        refine wpG_run1 (x := .tmp 38) (.pointer (some ⟨p, 0, none⟩)) (.pointer (some ⟨p, 2, none⟩)) (by kernel_rfl) (by kernel_rfl) (by kernel_rfl) (by kernel_rfl) (fun j wx ρ hC h0 hc => by simp [go_sem, h0, hc]) ?_
        refine wpG_runU1 (x := .tmp 39) 1 (.pointer (some ⟨p, 2, none⟩)) (.slice (some ⟨gS, 0, none⟩) S S) (by kernel_rfl) (by kernel_rfl) (by kernel_rfl) (by kernel_rfl) (by kernel_rfl) (by kernel_rfl) (fun j wx ρ hj hC h0 hc => ?_) ?_
        · have hcell : wx.cell? ⟨p, 2, none⟩ = some (.slice (some ⟨gS, 0, none⟩) S S) := by
            match j, hj with
            | 0, _ => subst hC; exact C2A.out
            | 1, _ => subst hC; exact C2B.out
          simp [go_sem, h0, hc, hcell]
        refine wpG_move (.int .i64 (k : Int)) rfl (by kernel_rfl) (by kernel_rfl) (by kernel_rfl) ?_
        refine wpG_move (.int .i64 (PP : Int)) rfl (by kernel_rfl) (by kernel_rfl) (by kernel_rfl) ?_
        refine wpG_op 0 (.slice (some ⟨g1, 0, none⟩) PP PP) _ (.inl rfl) (by kernel_rfl) (by kernel_rfl) (by kernel_rfl) (by kernel_rfl) (by kernel_rfl) (fun wx hC => ⟨w1, by subst hC; exact make_E rfl rfl E1.out, rfl⟩) ?_
        refine wpG_run2 (x := .tmp 40) (y := .tmp 41) (.slice (some ⟨gS, 0, none⟩) S S) (.int .i64 (k : Int)) (.pointer (some ⟨gS, k, none⟩)) (by kernel_rfl) (by kernel_rfl) (by kernel_rfl) (by kernel_rfl) (by kernel_rfl) (fun j wx ρ hC h0 h1 hc => idx_rowsE rfl gS S S k hkn ρ wx h0 h1) ?_
        refine wpG_op 1 undef _ (.inr ⟨rfl, rfl⟩) (by kernel_rfl) (by kernel_rfl) (by kernel_rfl) (by kernel_rfl) (by kernel_rfl) (fun wx hC => ⟨w1.setCell ⟨gS, k, none⟩ (.slice (some ⟨g1, 0, none⟩) PP PP), by subst hC; exact store_E (a := .pointer (some ⟨gS, k, none⟩)) (v := .slice (some ⟨g1, 0, none⟩) PP PP) rfl (by kernel_rfl) (by kernel_rfl) (by simp [go_sem, CU.out.1, CU.out.2]), rfl⟩) ?_
        refine wpG_end (fun w9 hw9 => ?_)
        have hw9' : w9 = w1.setCell ⟨gS, k, none⟩ (.slice (some ⟨g1, 0, none⟩) PP PP) := hw9
        rw [← hw9'] at H3
        clear hw9 hw9' C2A C2B E1 CU
        simp only [setL, List.set_cons_zero, List.set_cons_succ]
        have hat : ((List.replicate k (List.replicate PP FlaM.blank) ++ List.replicate (S - k) ([] : List Bs)).set k (List.replicate PP zeroPage))[k]? = some (List.replicate PP zeroPage) := List.getElem?_set_self (by simp; omega)
        obtain ⟨g4, c4, ⟨a4, r4⟩, Qs, hv, cg, hR, put⟩ := H3.out.pRowAt k _ hat
        simp only [Value.slice.injEq] at hv
        obtain ⟨hg4, hl1, hl2⟩ := hv
        cases hg4
        clear hl1 hl2
        rw [List.length_replicate] at cg
        have c2c := (H3.out.cellV 1 rfl 2 rfl).1
        have CWP : Hid (Calls Try.prog 32 #[.slice a4 PP r4] w9 fun e w' => e = .returned (.tuple #[]) ∧ Own.St B w0 w' (AVals p 65 (flCells PP (.slice none 0 0) (.slice (some ⟨gS, 0, none⟩) S S) (.slice none 0 0) (.slice (some ⟨gW, 0, none⟩) S S) 0 false false 0) :: gridT (.slice (some ⟨gS, 0, none⟩) S S) (List.replicate (k + 1) (List.replicate PP FlaM.blank) ++ List.replicate (S - (k + 1)) []) :: ARow 3 1 (.slice (some ⟨gW, 0, none⟩) S S) S (List.replicate S (.int .i64 0)) :: Ps)) := by
          refine (wipe_st hR (fun x hx => by rw [List.eq_of_mem_replicate hx]; rfl) PP (by rw [List.length_replicate]; exact Nat.le_refl _) (by rw [List.length_replicate]; omega)).mono ?_
          rintro e w' ⟨he, h'⟩
          refine ⟨he, ?_⟩
          have h5 := put w' (wipeTo (List.replicate PP zeroPage) PP) (wipeTo_len _ _) h'
          have hwa := wipe_all (List.replicate PP zeroPage)
          rw [List.length_replicate] at hwa
          rw [List.set_set, hwa, rep_set S k hkn] at h5
          exact h5.swap2
        clear hat hR put H3
        go_wp2_with (fail)
        refine CWP.out.mono ?_
        clear CWP cg c2c
        rintro e w5 ⟨rfl, h5⟩
        have H5 := Lib.hid h5
        clear h5
        go_wp2
        go_roundw
        case rel => exact ⟨k + 1, by omega, by go_num, H5.out⟩
        case measure => simp [intOf]; omega
      · have hks2 : k = S := by omega
        have H1 : Hid (Own.St B w0 wr (AVals p 65 (flCells PP (.slice none 0 0) (.slice (some ⟨gS, 0, none⟩) S S) (.slice none 0 0) (.slice (some ⟨gW, 0, none⟩) S S) 0 false false 0) :: gridT (.slice (some ⟨gS, 0, none⟩) S S) (List.replicate S (List.replicate PP FlaM.blank)) :: ARow 3 1 (.slice (some ⟨gW, 0, none⟩) S S) S (List.replicate S (.int .i64 0)) :: Ps)) := by
          have h := H.out
          rw [hks2, Nat.sub_self, List.replicate_zero, List.append_nil] at h
          exact h
        have okf := ok_fresh S PP hS256 ⟨hp1, hp2⟩
        have hsh : Shape (List.replicate S (List.replicate PP FlaM.blank)) S PP := by
          have := okf.shape
          rw [show (fresh S PP).safe.length = S by simp [fresh]] at this
          exact this
        have hcl := clone_st H1.out.swap2 hsh hS256 ⟨hp1, hp2⟩
        rw [List.length_replicate] at hcl
        have CC := Lib.hid hcl
        have c2 := (H1.out.cellV 0 rfl 2 rfl).1
        have HSH := Lib.hid hsh
        clear H hks2 hcl okf hsh hkS
        go_wp2_with (fail)
        refine CC.out.mono ?_
        clear CC c2 H1
        rintro e w3 ⟨a3, c3, rfl, h3⟩
        have q1 := (h3.cellV 2 rfl 1 rfl)
        have h4 := h3.storeV 2 rfl 1 (.slice a3 S c3)
        simp only [List.set_cons_succ, List.set_cons_zero] at h4
        have h5 := (h4.front 2 rfl)
        simp only [List.eraseIdx_cons_succ, List.eraseIdx_cons_zero] at h5
        have h6 := h5.rowFresh (e := 78) (size := 131)
        have FIN : Hid (Own.St B w0 (w3.setCell ⟨p, 1, none⟩ (.slice a3 S c3)) (AFl p (fresh S PP) :: Ps)) := by
          refine flClose (x := ⟨a3, c3, some ⟨gS, 0, none⟩, S, .slice none 0 0, .slice (some ⟨gW, 0, none⟩) S S, false, 0⟩) ⟨by unfold i64B; simp, fun _ => ⟨fun h => (by cases h), fun _ => rfl⟩, fun h => (by cases h)⟩ ?_
          have h7 := (h6.perm (List.Perm.swap _ _ _)).perm ((((List.Perm.swap _ _ _)).trans ((List.Perm.swap _ _ _).cons _)).cons _)
          unfold flParts fresh
          simp only [List.length_replicate, List.map_replicate, List.length_nil, List.flatMap_nil]
          exact h7
        clear h3 h4 h5 h6
        go_wp2
        go_ret2
        exact ⟨p, rfl, FIN.out⟩
theorem new_any (segs pages : Int) (H : Own.St B w0 w Ps) (h1 : i64B segs) (h2 : i64B pages) :
    Calls Try.prog 12 #[.int .i64 segs, .int .i64 pages] w fun e w' => if mayBe segs pages = true then ∃ p, e = .returned (.tuple #[ptr p, errV 0]) ∧ Own.St B w0 w' (AFl p (fresh segs.toNat pages.toNat) :: Ps) else e = .returned (.tuple #[.pointer none, errV 1]) ∧ Own.St B w0 w' Ps := by
  by_cases hm : mayBe segs pages = true
  · have hm2 : 0 ≤ segs ∧ segs ≤ 256 ∧ 1 ≤ pages ∧ pages ≤ 64 := by simpa [mayBe] using hm
    obtain ⟨S, hS⟩ : ∃ S : Nat, segs = (S : Int) := ⟨segs.toNat, by omega⟩
    obtain ⟨PP, hP⟩ : ∃ P : Nat, pages = (P : Int) := ⟨pages.toNat, by omega⟩
    subst hS hP
    refine (new_yes S PP H (by omega) (by omega)).mono ?_
    intro e w' h
    rw [if_pos hm]
    exact h
  · refine (new_no segs pages H hm).mono ?_
    intro e w' h
    rw [if_neg hm]
    exact h
end
end Fla
end Go.Proofs.Ytepllhfofhehaaa
