/- Merged: FlbJ FlbK FlbL FlbN FlbX LaxU LgaD LgaE LgaF -/
import Derived.Laws.Cover3
import Derived.Test.YtmdphcebmgcdbaaQ2
import Derived.Test.YtmdphcebmgcdbaaQ3
import Derived.Test.YtmdphcebmgcdbaaQ4
import Derived.Test.YtmdphcebmgcdbaaQ5
import Derived.Test.YtmdphcebmgcdbaaQ9
import Derived.Test.YtmdphcebmgcdbaaQ10
set_option linter.unusedVariables false
section
namespace Go.Proofs.Ytmdphcebmgcdbaa
open Go.RowKit Go.Own
namespace Fla
open Go.FlaM Byt
theorem whole_any (i : Int) (w : World) : Calls Try.prog 35 #[.int .i64 i] w fun e w' => e = .returned (.int .i64 9223372036854775807) ∧ Below w.heap.size w w' := by
  go_enter Try.func35, Try.ntmps35
  go_wp2
  go_ret
  exact ⟨rfl, Below.refl _ _⟩
section
variable {B : Nat} {w0 w : World} {Ps : List Asn} {p : Nat} {s : FS} {N : Nat}
/-- what settle makes of a flash -/
theorem settle_fl {x : Hidden} (H : Own.St B w0 w (flParts p x s ++ Ps)) (hsh : Shape s.safe s.safe.length s.pp) (hsg : s.safe.length ≤ 256) (hpp : 1 ≤ s.pp ∧ s.pp ≤ 64) (hacts : ∀ a ∈ s.L, ActOk s.safe.length s.pp a) (hL : s.L.length ≤ 10000)
    (f : FuncId) (caps : Array Value) (φ : Nat → Int) (hφ : ∀ i, i64B (φ i)) (hent : ∀ (args : Array Value) w, (callFunc f args).run Try.prog w = .ok (.enter f args) w)
    (hf : ∀ (i : Nat) (wx : World) (Xs : List Asn), i < s.L.length → Own.St B w0 wx (Xs ++ (gridT (.slice x.aN s.safe.length x.cN) (nowG s.pp s.safe s.L) :: ARow 3 1 x.vW s.wear.length (s.wear.map intV) :: Ps)) → Calls Try.prog f (#[.int .i64 (i : Int)] ++ caps) wx fun e w' => e = .returned (.int .i64 (φ i)) ∧ Below wx.heap.size wx w') :
    Calls Try.prog 34 #[ptr p, .func (.func f) #[] caps] w fun e w' => e = .returned (.tuple #[]) ∧ Own.St B w0 w' (AVals p 89 (flCells s.pp (.slice x.aN s.safe.length x.cN) (.slice x.aS s.safe.length x.cS) (.slice none 0 0) x.vW s.n s.off x.armed x.lf) :: gridT (.slice x.aS s.safe.length x.cS) (doAllF s.pp φ s.safe 0 s.L) :: ARow 130 131 (.slice none 0 0) 0 [] :: gridT (.slice x.aN s.safe.length x.cN) (nowG s.pp s.safe s.L) :: ARow 3 1 x.vW s.wear.length (s.wear.map intV) :: Ps) :=
  settle_st (nn := s.safe.length) (G := s.safe) (L := s.L) f caps φ (H.perm (perm_s _ _ _ _ _)) hsh hsg hpp hacts hL hφ hent hf
theorem perm_s' {α : Type _} (a b c d : α) (r : List α) : (a :: b :: c :: d :: r).Perm (a :: d :: b :: c :: r) := (perm_s a d b c r).symm
set_option maxHeartbeats 800000 in
theorem barrier_any (H : Own.St B w0 w (AFl p s :: Ps)) (ok : Ok s N) (hN : N ≤ 10000) :
    Calls Try.prog 17 #[ptr p] w fun e w' => e = .returned (errV (barrier s).2) ∧ Own.St B w0 w' (AFl p (barrier s).1 :: Ps) := by
  obtain ⟨x, hx, h⟩ := flOpen H
  have HB := Lib.hid (begin_fl h hx ok hN)
  by_cases ho : (trip s).off = true
  · have HE : Hid (barrier s = (trip s, 6)) := by
      show barrier s = (trip s, 6)
      unfold barrier
      rw [if_pos ho]
    have HB2 : Hid (Calls Try.prog 33 #[ptr p] w fun e w' => e = .returned (errV 6) ∧ Own.St B w0 w' (AFl p (trip s) :: Ps)) := by
      refine HB.out.mono ?_
      intro e w' h'
      rw [if_pos ho] at h'
      obtain ⟨he, x', hx', h2⟩ := h'
      exact ⟨he, flClose hx' h2⟩
    rw [HE.out]
    clear ho H h HB ok hx
    go_enter Try.func17, Try.ntmps17
    go_wp2_with (fail)
    refine HB2.out.mono ?_
    clear HB2
    rintro e w2 ⟨rfl, h2⟩
    have H2 := Lib.hid h2
    clear h2
    go_wp2
    go_ret
    exact ⟨rfl, H2.out⟩
  · obtain ⟨t, htt⟩ : ∃ t, t = okd (trip s) := ⟨_, rfl⟩
    have HB2 : Hid (Calls Try.prog 33 #[ptr p] w fun e w' => e = .returned (errV 0) ∧ ∃ x', HRel x' t ∧ Own.St B w0 w' (flParts p x' t ++ Ps)) := by
      refine HB.out.mono ?_
      intro e w' h'
      rw [if_neg ho, ← htt] at h'
      exact h'
    have g := ok_trip ok
    have hsh : Shape t.safe t.safe.length t.pp := by rw [htt]; exact g.shape
    have hsg : t.safe.length ≤ 256 := by rw [htt]; exact g.segs
    have hpp : 1 ≤ t.pp ∧ t.pp ≤ 64 := by rw [htt]; exact g.pp
    have hacts : ∀ a ∈ t.L, ActOk t.safe.length t.pp a := by rw [htt]; exact g.acts
    have hL : t.L.length ≤ 10000 := by rw [htt]; show (trip s).L.length ≤ _; rw [(trip_safe s).2.1]; have := ok.log; have := ok.n; omega
    have HE : Hid (barrier s = ({ t with safe := nowG t.pp t.safe t.L, L := [] }, 0)) := by
      show barrier s = _
      unfold barrier
      rw [if_neg ho, htt]
      unfold some' okd
      simp only
      rw [doAll_whole _ _ _ 0 (fun j hj => by rw [Nat.zero_add]; simp [List.getD, hj])]
    have SET : Hid (∀ (wx : World) (x' : Hidden), HRel x' t → Own.St B w0 wx (flParts p x' t ++ Ps) → Calls Try.prog 34 #[ptr p, .func (.func 35) #[] #[]] wx fun e w' => e = .returned (.tuple #[]) ∧ Own.St B w0 w' (AFl p { t with safe := nowG t.pp t.safe t.L, L := [] } :: Ps)) := by
      intro wx x' hx' hst
      refine (settle_fl hst hsh hsg hpp hacts hL 35 #[] (fun _ => 9223372036854775807) (fun _ => by unfold i64B; omega) (fun _ _ => by simp [go_sem]) (fun i wy _ _ _ => whole_any i wy)).mono ?_
      rintro e w' ⟨he, h'⟩
      refine ⟨he, flClose (x := { x' with vP := .slice none 0 0 }) ⟨hx'.i64, hx'.on, hx'.pos⟩ ?_⟩
      rw [doAllF_big hpp.2 _ (fun _ => by decide)] at h'
      have h2 := h'.perm (perm_s' _ _ _ _ _)
      unfold flParts
      simp only [nowG_len]
      exact h2
    rw [HE.out]
    clear ho H h HB ok hx htt g hsh hsg hpp hacts hL
    go_enter Try.func17, Try.ntmps17
    go_wp2_with (fail)
    refine HB2.out.mono ?_
    clear HB2
    rintro e w2 ⟨rfl, x', hx', h2⟩
    have S2 := Lib.hid (SET.out w2 x' hx' h2)
    clear h2 SET hx'
    go_wp2_with (fail)
    refine S2.out.mono ?_
    clear S2
    rintro e w3 ⟨rfl, h3⟩
    have H3 := Lib.hid h3
    clear h3
    go_wp2
    go_ret
    exact ⟨rfl, H3.out⟩

/-- numbers that a call may read, later -/
theorem liesI_at {ao : Option Addr} {n cap : Nat} {l : List Int} {Qs Zs : List Asn} {wx : World} (h : LiesI B w Ps ao n cap l) (H : Own.St B w0 w Qs) (hx : Own.St B w0 wx (Ps ++ Zs)) (j : Nat) (hj : j < n) :
    ∃ b o, ao = some ⟨b, o, none⟩ ∧ wx.cell? ⟨b, o + j, none⟩ = some (.int .i64 (l.getD j 0)) := by
  have hjl : j < l.length := by rw [h.size]; exact hj
  rcases h.where_ with ⟨j0, b, h1, h2⟩ | h1
  · refine ⟨b, 0, h2, ?_⟩
    have h3 : (Ps ++ Zs)[j0]? = some (AVals b 3 (l.map (Value.int .i64))) := by rw [List.getElem?_append_left (List.getElem?_eq_some_iff.1 h1).1]; exact h1
    rw [Nat.zero_add]
    refine (hx.cellV j0 h3 j ?_).1
    simp [List.getD, hjl]
  · have h2 : IView wx B ao l := IView.same' h1 (Below.both H.below hx.below) hx.size
    rcases h2 with h2 | ⟨b, o, e, _, _, hc⟩
    · rw [h2] at hjl; simp at hjl
    · exact ⟨b, o, e, (hc j hjl).1⟩
theorem fates_any (i : Nat) (hi : i ≤ 1000000) (bx : Nat) (ao : Option Addr) (n cap : Nat) (l : List Int) (hl : l.length = n) (hn : n ≤ cap ∧ cap ≤ maxLen) (wx : World) (hb : wx.cell? ⟨bx, 0, none⟩ = some (.slice ao n cap)) (hc : i < n → ∃ b o, ao = some ⟨b, o, none⟩ ∧ wx.cell? ⟨b, o + i, none⟩ = some (.int .i64 (l.getD i 0))) :
    Calls Try.prog 40 (#[.int .i64 (i : Int)] ++ #[.pointer (some ⟨bx, 0, none⟩)]) wx fun e w' => e = .returned (.int .i64 (l.getD i 0)) ∧ Below wx.heap.size wx w' := by
  show Calls Try.prog 40 #[.int .i64 (i : Int), .pointer (some ⟨bx, 0, none⟩)] wx _
  obtain ⟨hn1, hn2⟩ := hn
  unfold maxLen at hn2
  by_cases h : i < n
  · obtain ⟨b, o, rfl, cc⟩ := hc h
    obtain ⟨v, hv⟩ : ∃ v, v = l.getD i 0 := ⟨_, rfl⟩
    rw [← hv] at cc ⊢
    clear hc hv hl
    go_enter Try.func40, Try.ntmps40
    go_wp2
    go_ret
    exact ⟨rfl, Below.refl _ _⟩
  · have e : l.getD i 0 = 0 := by rw [List.getD_eq_getElem?_getD, List.getElem?_eq_none (by omega)]; rfl
    rw [e]
    clear hc e hl
    go_enter Try.func40, Try.ntmps40
    go_wp2
    go_ret
    exact ⟨rfl, Below.refl _ _⟩
set_option maxHeartbeats 1600000 in
theorem crash_any (H : Own.St B w0 w (AFl p s :: Ps)) (ok : Ok s N) (hN : N ≤ 10000) (ao : Option Addr) (n cap : Nat) (l : List Int) (hl : LiesI B w Ps ao n cap l) :
    Calls Try.prog 20 #[ptr p, .slice ao n cap] w fun e w' => e = .returned (.tuple #[]) ∧ Own.St B w0 w' (AFl p (crash s l) :: Ps) := by
  obtain ⟨x, hx, h⟩ := flOpen H
  have hL : s.L.length ≤ 10000 := by have := ok.log; have := ok.n; omega
  obtain ⟨bx, hbx⟩ : ∃ b, b = w.heap.size := ⟨_, rfl⟩
  have hbox := h.boxV 44 [.slice ao n cap]
  obtain ⟨W1, hW1⟩ : ∃ W, W = w.alloc (.cells #[.slice ao n cap] 44) := ⟨_, rfl⟩
  have hb1 : Own.St B w0 W1 (flParts p x s ++ (AVals bx 44 [.slice ao n cap] :: Ps)) := by
    rw [hW1, hbx]
    exact hbox.perm (List.perm_middle (l₁ := flParts p x s)).symm
  obtain ⟨S1, hS1⟩ : ∃ S, S = doAll s.pp l s.safe 0 s.L := ⟨_, rfl⟩
  have hsh1 : Shape S1 s.safe.length s.pp := by rw [hS1]; exact shape_all l s.L s.safe 0 ok.shape ok.acts
  have hF : doAllF s.pp (fun i => l.getD i 0) s.safe 0 s.L = S1 := by rw [hS1, doAll_F]
  have hi64 : ∀ i, i64B (l.getD i 0) := by
    intro i
    by_cases hi : i < n
    · exact hl.ints i hi
    · rw [List.getD_eq_getElem?_getD, List.getElem?_eq_none (by have := hl.size; omega)]
      unfold i64B; simp
  have SET : Hid (Calls Try.prog 34 #[ptr p, .func (.func 40) #[] #[.pointer (some ⟨bx, 0, none⟩)]] W1 fun e w' => e = .returned (.tuple #[]) ∧ Own.St B w0 w' (AVals p 89 (flCells s.pp (.slice x.aN s.safe.length x.cN) (.slice x.aS s.safe.length x.cS) (.slice none 0 0) x.vW s.n s.off x.armed x.lf) :: gridT (.slice x.aS s.safe.length x.cS) S1 :: ARow 130 131 (.slice none 0 0) 0 [] :: ARow 3 1 x.vW s.wear.length (s.wear.map intV) :: Ps)) := by
    refine (settle_fl hb1 ok.shape ok.segs ok.pp ok.acts hL 40 #[.pointer (some ⟨bx, 0, none⟩)] (fun i => l.getD i 0) hi64 (fun _ _ => by simp [go_sem]) ?_).mono ?_
    · intro i wx Xs hi hst
      have h2 := hst.perm List.perm_append_comm
      have hbc := (h2.cellV 2 rfl 0 rfl).1
      refine fates_any i (by omega) bx ao n cap l hl.size hl.room wx hbc (fun hin => ?_)
      have h3 := (h2.drop 3)
      exact liesI_at hl H (by simpa using h3) i hin
    · rintro e w' ⟨he, h'⟩
      refine ⟨he, ?_⟩
      rw [hF] at h'
      have h2 := (h'.front 3 rfl).drop 1
      simp only [List.eraseIdx_cons_succ, List.eraseIdx_cons_zero, List.drop_succ_cons, List.drop_zero] at h2
      have h3 := (h2.front 4 rfl).drop 1
      simp only [List.eraseIdx_cons_succ, List.eraseIdx_cons_zero, List.drop_succ_cons, List.drop_zero] at h3
      exact h3
  have CLN : Hid (∀ wx, Own.St B w0 wx (AVals p 89 (flCells s.pp (.slice x.aN s.safe.length x.cN) (.slice x.aS s.safe.length x.cS) (.slice none 0 0) x.vW s.n s.off x.armed x.lf) :: gridT (.slice x.aS s.safe.length x.cS) S1 :: ARow 130 131 (.slice none 0 0) 0 [] :: ARow 3 1 x.vW s.wear.length (s.wear.map intV) :: Ps) → Calls Try.prog 28 #[.slice x.aS s.safe.length x.cS] wx fun e w' => ∃ a' c', e = .returned (.slice a' s.safe.length c') ∧ Own.St B w0 w' (AVals p 89 (flCells s.pp (.slice x.aN s.safe.length x.cN) (.slice x.aS s.safe.length x.cS) (.slice none 0 0) x.vW s.n s.off x.armed x.lf) :: gridT (.slice a' s.safe.length c') S1 :: gridT (.slice x.aS s.safe.length x.cS) S1 :: ARow 130 131 (.slice none 0 0) 0 [] :: ARow 3 1 x.vW s.wear.length (s.wear.map intV) :: Ps)) := by
    intro wx hst
    refine (clone_st hst.swap2 hsh1 ok.segs ok.pp).mono ?_
    rintro e w' ⟨a', c', he, h'⟩
    rw [hsh1.len] at he h'
    refine ⟨a', c', he, ?_⟩
    have h2 := (h'.front 2 rfl)
    simp only [List.eraseIdx_cons_succ, List.eraseIdx_cons_zero] at h2
    exact h2
  have FIN : Hid (∀ wx a' c', Own.St B w0 wx (AVals p 89 (flCells s.pp (.slice a' s.safe.length c') (.slice x.aS s.safe.length x.cS) (.slice none 0 0) x.vW s.n false false x.lf) :: gridT (.slice a' s.safe.length c') S1 :: gridT (.slice x.aS s.safe.length x.cS) S1 :: ARow 130 131 (.slice none 0 0) 0 [] :: ARow 3 1 x.vW s.wear.length (s.wear.map intV) :: Ps) → Own.St B w0 wx (AFl p (crash s l) :: Ps)) := by
    intro wx a' c' hst
    refine flClose (x := { x with aN := a', cN := c', vP := .slice none 0 0, armed := false }) ⟨hx.i64, fun _ => ⟨fun h => (by cases h), fun _ => rfl⟩, fun h => (by cases h)⟩ ?_
    unfold flParts crash some'
    simp only [← hS1, hsh1.len]
    exact hst
  have HW1 := Lib.hid hW1
  have HBX := Lib.hid hbx
  clear H h hL hbox hb1 hS1 hsh1 hF hi64 ok hl hW1 hbx hx
  go_enter Try.func20, Try.ntmps20
  go_wp2_with (fail)
  rw [← HW1.out, ← HBX.out]
  clear HW1 HBX
  refine SET.out.mono ?_
  clear SET
  rintro e w2 ⟨rfl, h2⟩
  have c2 := (h2.cellV 0 rfl 2 rfl).1
  have C2 := Lib.hid (CLN.out w2 h2)
  clear h2 CLN
  go_wp2_with (fail)
  refine C2.out.mono ?_
  clear C2 c2
  rintro e w3 ⟨a3, c3, rfl, h3⟩
  have q1 := (h3.cellV 0 rfl 1 rfl)
  have h4 := h3.storeV 0 rfl 1 (.slice a3 s.safe.length c3)
  have q2 := (h4.cellV 0 rfl 6 rfl)
  have h5 := h4.storeV 0 rfl 6 (.bool false)
  have q3 := (h5.cellV 0 rfl 7 rfl)
  have h6 := h5.storeV 0 rfl 7 (.bool false)
  have H6 := Lib.hid (FIN.out _ a3 c3 h6)
  clear h3 h4 h5 h6 FIN
  go_wp2
  go_end0
  exact ⟨rfl, H6.out⟩
end
end Fla
end Go.Proofs.Ytmdphcebmgcdbaa

end
section
namespace Go.Proofs.Ytmdphcebmgcdbaa
open Go.RowKit Go.Own
namespace Fla
open Go.FlaM Byt
theorem bytes_ints (l : Bs) : (l.map (fun x => (x.toNat : Int))).map (Value.int .u8) = l.map byteV := by
  rw [List.map_map]; rfl
theorem bytes_eq (a b : Bs) : decide (a.map (fun x => (x.toNat : Int)) = b.map (fun x => (x.toNat : Int))) = decide (a = b) := by
  apply decide_eq_decide.2
  constructor
  · intro h
    exact (List.map_inj_right (fun x y h => UInt8.toNat_inj.1 (by omega))).1 h
  · rintro rfl; rfl
theorem neq_pageE {o : Oper} {x y : Tmp} (ho : o.op = .binOp .neq 125 (.tmp x) (.tmp y) 125) {a b : Bs} (ha : a.length = 128) (hb : b.length = 128) {v : Bool} (hv : decide (a = b) = v) (ρ : Operand → Value) (w : World)
    (h0 : ρ (.tmp x) = .agg (a.map byteV).toArray) (h1 : ρ (.tmp y) = .agg (b.map byteV).toArray) : (execOp ρ o).run Try.prog w = .ok (.value (.bool (!v))) w := by
  have h := run_equalIn_ints (P := Try.prog) 9998 125 5 .u8 (a.map (fun x => (x.toNat : Int))) (b.map (fun x => (x.toNat : Int))) (by simp [ha, hb]) (by rw [List.length_map, ha]; exact Try.underlying125) Try.underlying5 (fun w => by kernel_rfl) (fun w => by kernel_rfl) w
  rw [bytes_eq, hv, bytes_ints, bytes_ints] at h
  have h' : (Op.equalIn 10000 125 (.agg (a.map byteV).toArray) (.agg (b.map byteV).toArray)).run Try.prog w = .ok v w := h
  unfold execOp
  simp only [ho, h0, h1]
  generalize (a.map byteV).toArray = A at h' ⊢
  generalize (b.map byteV).toArray = B at h' ⊢
  simp [go_sem, h']
theorem idx_rowsE {o : Oper} {x y : Tmp} (ho : o.op = .indexAddr 86 (.tmp x) (.tmp y)) (g n c k : Nat) (hk : k < n) : ∀ (ρ : Operand → Value) w, ρ (.tmp x) = .slice (some ⟨g, 0, none⟩) n c → ρ (.tmp y) = .int .i64 (k : Int) → (execOp ρ o).run Try.prog w = .ok (.value (.pointer (some ⟨g, k, none⟩))) w := by
  intro ρ w h0 h1
  have hk' : (k : Int) < (n : Int) := by omega
  simp [execOp, ho, h0, h1, go_sem, hk', add_of]
theorem idx_pageE {o : Oper} {x y : Tmp} (ho : o.op = .indexAddr 90 (.tmp x) (.tmp y)) (g n c k : Nat) (hk : k < n) : ∀ (ρ : Operand → Value) w, ρ (.tmp x) = .slice (some ⟨g, 0, none⟩) n c → ρ (.tmp y) = .int .i64 (k : Int) → (execOp ρ o).run Try.prog w = .ok (.value (.pointer (some ⟨g, k * 128, none⟩))) w := by
  intro ρ w h0 h1
  have hk' : (k : Int) < (n : Int) := by omega
  simp [execOp, ho, h0, h1, go_sem, hk', add_of]
theorem load_pageE (l : Bs) (hl : l.length = 128) {o : Oper} {x : Tmp} (ho : o.op = .load 125 (.tmp x)) {b k : Nat} (ρ : Operand → Value) {w : World} (hr : w.rangeAt b k (l.map byteV)) (h0 : ρ (.tmp x) = .pointer (some ⟨b, k, none⟩)) : (execOp ρ o).run Try.prog w = .ok (.value (.agg (l.map byteV).toArray)) w := by
  have := run_loadAt_mid (P := Try.prog) w b k 125 (l.map byteV) _ hr Try.underlying125 rfl (info_pageL l hl)
  unfold execOp
  simp only [ho, h0, Sem.run_bind, this, Result.andThen_ok, Sem.run_pure]
theorem rangeLater {w w' : World} {b o : Nat} {cs : List Value} (h : w.rangeAt b o cs) (g : Below w.heap.size w w') : w'.rangeAt b o cs := fun j v hv => cellLater (h j v hv) g
section
variable {B : Nat} {w0 w : World} {Ps : List Asn} {p : Nat} {s : FS} {N : Nat}
/-- where the page that is there now lies -/
theorem now_cells {x : Hidden} (H : Own.St B w0 w (flParts p x s ++ Ps)) (ok : Ok s N) (k q : Nat) (hk : k < s.safe.length) (hq : q < s.pp) :
    ∃ gN g2 cR : Nat, x.aN = some ⟨gN, 0, none⟩ ∧ w.cell? ⟨gN, k, none⟩ = some (.slice (some ⟨g2, 0, none⟩) s.pp cR) ∧ w.rangeAt g2 (q * 128) ((now s k q).map byteV) ∧ g2 < w.heap.size ∧ (now s k q).length = 128 ∧ s.pp ≤ cR ∧ cR ≤ maxLen := by
  have hsh := nowG_shape s.L s.safe ok.shape ok.acts
  have hsome := getD_some hsh hk
  have hW := wide_of hsh k hk
  have hrl := hsh.rows k hk
  have hat := nowG_at ok k q hk hq
  have hpl := hsh.pages k q hk hq
  obtain ⟨row, hrow⟩ : ∃ r, r = (nowG s.pp s.safe s.L).getD k [] := ⟨_, rfl⟩
  unfold pageAt at hat hpl
  rw [← hrow] at hsome hW hrl hat hpl
  obtain ⟨g, c, ⟨ao, cR⟩, Qs, hv, cg, hR, _⟩ := (H.front 1 rfl).pRowAt k row hsome
  simp only [Value.slice.injEq] at hv
  have hlen := hR.rowLen 0 rfl
  obtain ⟨g2, rfl, ⟨u, hu, cu⟩, _, _⟩ := hR.rowAt 0 rfl (q * 128) (by omega)
  refine ⟨g, g2, cR, hv.1, by rw [← hrl]; exact cg, ?_, World.block_lt_of_cell? w _ cu, by rw [← hat]; exact hpl, by rw [← hrl]; exact hlen.2.1, hlen.2.2.1⟩
  intro j v hj
  have hj2 := (List.getElem?_eq_some_iff.1 hj).1
  rw [List.length_map, ← hat, hpl] at hj2
  have h1 := (hR.rowRange 0 rfl (q * 128 + j) (by omega)).1
  rw [h1, ← hj, ← hat, ← flat_page q hW (by omega), List.map_take, List.map_drop, List.getElem?_take_of_lt hj2, List.getElem?_drop]

/-- bytes that a call may read, later -/
theorem lies_later {ao : Option Addr} {n cap : Nat} {y : Bs} {Qs Xs : List Asn} {wx : World} (h : Lies B w Ps ao n cap y) (H : Own.St B w0 w Qs) (hx : Own.St B w0 wx (Xs ++ Ps)) : Given wx ao n cap y := by
  rcases h.where_ with ⟨j0, e, h1⟩ | h1
  · have h2 := hx.perm List.perm_append_comm
    obtain ⟨S, hS, _⟩ := h2.at j0 (P := ARow e 1 (.slice ao n cap) n (y.map byteV)) (by rw [List.getElem?_append_left (List.getElem?_eq_some_iff.1 h1).1]; exact h1)
    exact ⟨(Row.view hS).live.mono (fun k hk => hk.2), h.given.size, h.given.room, h.given.nil⟩
  · have h2 : View wx (fun k => k < B) ao y := View.same h1 (Below.both H.below hx.below)
    exact ⟨h2.mono (fun k hk => Nat.lt_of_lt_of_le hk hx.size), h.given.size, h.given.room, h.given.nil⟩
theorem okd_trip (ok : Ok s N) : Ok (okd (trip s)) (N + 1) := by
  have g := ok_trip ok
  exact ⟨g.segs, g.pp, g.rows, g.pages, g.wear, g.acts, left_okd _ g.left, Nat.succ_le_succ g.n, Nat.le_succ_of_le g.log, fun i => Nat.le_succ_of_le (g.worn i)⟩
theorem progF_cases (s : FS) (seg page : Int) (b : Bs) (h1 : there s seg page = true) (h2 : b.length = 128) (h3 : s.off = false) : progF s seg page b = if now s seg.toNat page.toNat ≠ FlaM.blank then (s, 70) else if (trip s).off = true then (trip s, 6) else ({ okd (trip s) with L := (okd (trip s)).L ++ [⟨seg.toNat, page, b⟩] }, 0) := by
  unfold progF
  rw [if_neg (by rw [h1, h2]; simp), if_neg (by rw [h3]; decide)]
  rfl

set_option maxRecDepth 10000 in
set_option maxHeartbeats 3200000 in
theorem program_any (H : Own.St B w0 w (AFl p s :: Ps)) (ok : Ok s N) (hN : N ≤ 10000) (seg page : Int) (hseg : i64B seg) (hpage : i64B page) (ao : Option Addr) (n cap : Nat) (y : Bs) (hy : Lies B w Ps ao n cap y) (hn : n ≤ 20000) :
    Calls Try.prog 55 #[ptr p, .int .i64 seg, .int .i64 page, .slice ao n cap] w fun e w' => e = .returned (errV (progF s seg page y).2) ∧ Own.St B w0 w' (AFl p (progF s seg page y).1 :: Ps) := by
  obtain ⟨x, hx, h⟩ := flOpen H
  have HS0 := hasPage_st h seg page
  have hthere : there s seg page = decide (0 ≤ seg ∧ seg < (s.safe.length : Int) ∧ 0 ≤ page ∧ page < (s.pp : Int)) := rfl
  rw [← hthere] at HS0
  have HS := Lib.hid HS0
  have c6 := (h.cellV 0 rfl 6 rfl).1
  have H0 := Lib.hid H
  have hyl := hy.given.size
  obtain ⟨th, hth⟩ : ∃ t, t = there s seg page := ⟨_, rfl⟩
  rw [← hth] at HS
  cases th
  · have HE : Hid (progF s seg page y = (s, 1)) := by
      show progF s seg page y = (s, 1)
      unfold progF
      rw [if_pos (.inl hth.symm)]
    rw [HE.out]
    clear H h hx ok hy hth hthere c6 HS0 hyl
    go_enter Try.func55, Try.ntmps55
    go_wp2_with (fail)
    refine HS.out.mono ?_
    rintro e w1 ⟨rfl, rfl⟩
    clear HS
    go_wp2
    go_ret
    exact ⟨rfl, H0.out⟩
  by_cases hn8 : ¬ n = 128
  · have HE : Hid (progF s seg page y = (s, 1)) := by
      show progF s seg page y = (s, 1)
      unfold progF
      rw [if_pos (.inr (by rw [hyl]; exact hn8))]
    rw [HE.out]
    have hni : ((n : Int) != 128) = true := by simp; omega
    clear H h hx ok hy hth hthere c6 HS0 hyl hn8
    go_enter Try.func55, Try.ntmps55
    go_wp2_with (fail)
    refine HS.out.mono ?_
    rintro e w1 ⟨rfl, rfl⟩
    clear HS
    go_wp2
    go_ret
    exact ⟨rfl, H0.out⟩
  have hn8' : n = 128 := by omega
  subst hn8'
  clear hn8
  by_cases hoff : true = s.off
  · have HE : Hid (progF s seg page y = (s, 6)) := by
      show progF s seg page y = (s, 6)
      unfold progF
      rw [if_neg (by rw [← hth, hyl]; simp), if_pos hoff.symm]
    rw [HE.out]
    rw [← hoff] at c6
    clear H h hx ok hy hth hthere HS0 hyl hoff
    go_enter Try.func55, Try.ntmps55
    go_wp2_with (fail)
    refine HS.out.mono ?_
    rintro e w1 ⟨rfl, rfl⟩
    clear HS
    go_wp2
    go_ret
    exact ⟨rfl, H0.out⟩
  have hoff2 : s.off = false := by cases h : s.off with | false => rfl | true => exact absurd h.symm hoff
  rw [hoff2] at c6
  have hPF := progF_cases s seg page y hth.symm hyl hoff2
  obtain ⟨t1, t2, t3, t4⟩ := there_spec hth.symm
  obtain ⟨k, hk⟩ : ∃ k : Nat, seg = (k : Int) := ⟨seg.toNat, by omega⟩
  obtain ⟨q, hq⟩ : ∃ q : Nat, page = (q : Int) := ⟨page.toNat, by omega⟩
  subst hk hq
  rw [show ((k : Int)).toNat = k from rfl, show ((q : Int)).toNat = q from rfl] at hPF
  have hks : k < s.safe.length := by omega
  have hqp : q < s.pp := by omega
  obtain ⟨gN, g2, cR, haN, cg, rg, hg2, hnl, hcR, hcR2⟩ := now_cells h ok k q hks hqp
  have c1 := (h.cellV 0 rfl 1 rfl).1
  rw [haN] at c1
  obtain ⟨nw, hnw⟩ : ∃ b, b = now s k q := ⟨_, rfl⟩
  rw [← hnw] at rg hnl hPF
  obtain ⟨bl, hbl⟩ : ∃ b, b = FlaM.blank := ⟨_, rfl⟩
  rw [← hbl] at hPF
  have hbll : bl.length = 128 := by rw [hbl]; exact blank_len
  have C1 : Hid (∀ wx, Below w.heap.size w wx → wx.cell? ⟨p, 1, none⟩ = some (.slice (some ⟨gN, 0, none⟩) s.safe.length x.cN)) := fun wx hwx => cellLater c1 hwx
  have CG : Hid (∀ wx, Below w.heap.size w wx → wx.cell? ⟨gN, k, none⟩ = some (.slice (some ⟨g2, 0, none⟩) s.pp cR)) := fun wx hwx => cellLater cg hwx
  have RG : Hid (∀ wx, Below w.heap.size w wx → wx.rangeAt g2 (q * 128) (nw.map byteV)) := fun wx hwx => rangeLater rg hwx
  have CE : Hid (∀ wx, Below w.heap.size w wx → Calls Try.prog 48 #[] wx fun e w' => e = .returned (.agg (bl.map byteV).toArray) ∧ Below wx.heap.size wx w') := by
    intro wx _
    rw [hbl]
    exact (erased_st (Own.St.start wx)).mono fun e w' ⟨he, h'⟩ => ⟨he, h'.below⟩
  have HNL := Lib.hid hnl
  have HBL := Lib.hid hbll
  obtain ⟨nS, hnS⟩ : ∃ z, z = s.safe.length := ⟨_, rfl⟩
  rw [← hnS] at C1 hks
  obtain ⟨pp, hpp⟩ : ∃ z, z = s.pp := ⟨_, rfl⟩
  rw [← hpp] at CG hqp
  by_cases hne : ¬ nw = bl
  · rw [if_pos hne] at hPF
    have HE := Lib.hid hPF
    rw [HE.out]
    have HD : Hid (decide (nw = bl) = false) := decide_eq_false hne
    clear H h hx ok hy hth hthere HS0 hyl hoff hoff2 hPF t1 t2 t3 t4 haN cg rg hg2 hnl hcR hcR2 c1 hnw hbl hbll hnS hpp hne
    go_enter Try.func55, Try.ntmps55
    go_wp2_with (fail)
    refine HS.out.mono ?_
    rintro e w1 ⟨rfl, rfl⟩
    clear HS
    go_wp2_with (fail)
    refine wp_lax_list (by kernel_rfl) (by kernel_rfl) (by kernel_rfl) ?_
    refine wpL_move (.pointer (some ⟨p, 0, none⟩)) rfl (by kernel_rfl) (by kernel_rfl) (by kernel_rfl) (by kernel_rfl) ?_
    refine wpL_run1 (x := .tmp 26) (.pointer (some ⟨p, 0, none⟩)) (.pointer (some ⟨p, 0, none⟩)) (by kernel_rfl) (by kernel_rfl) (by kernel_rfl) (by kernel_rfl) (by kernel_rfl) (fun wx ρ hwx h0 hc => by simp [go_sem, h0]) ?_
    refine wpL_run1 (x := .tmp 27) (.pointer (some ⟨p, 0, none⟩)) (.pointer (some ⟨p, 1, none⟩)) (by kernel_rfl) (by kernel_rfl) (by kernel_rfl) (by kernel_rfl) (by kernel_rfl) (fun wx ρ hwx h0 hc => by simp [go_sem, h0]) ?_
    refine wpL_run1 (x := .tmp 28) (.pointer (some ⟨p, 1, none⟩)) (.slice (some ⟨gN, 0, none⟩) nS x.cN) (by kernel_rfl) (by kernel_rfl) (by kernel_rfl) (by kernel_rfl) (by kernel_rfl) (fun wx ρ hwx h0 hc => by simp [go_sem, h0, C1.out wx hwx]) ?_
    refine wpL_move (.int .i64 (k : Int)) rfl (by kernel_rfl) (by kernel_rfl) (by kernel_rfl) (by kernel_rfl) ?_
    refine wpL_run2 (x := .tmp 29) (y := .tmp 30) (.slice (some ⟨gN, 0, none⟩) nS x.cN) (.int .i64 (k : Int)) (.pointer (some ⟨gN, k, none⟩)) (by kernel_rfl) (by kernel_rfl) (by kernel_rfl) (by kernel_rfl) (by kernel_rfl) (by kernel_rfl) (fun wx ρ hwx h0 h1 hc => idx_rowsE rfl gN nS x.cN k hks ρ wx h0 h1) ?_
    refine wpL_run1 (x := .tmp 31) (.pointer (some ⟨gN, k, none⟩)) (.slice (some ⟨g2, 0, none⟩) pp cR) (by kernel_rfl) (by kernel_rfl) (by kernel_rfl) (by kernel_rfl) (by kernel_rfl) (fun wx ρ hwx h0 hc => by simp [go_sem, h0, CG.out wx hwx]) ?_
    refine wpL_move (.int .i64 (q : Int)) rfl (by kernel_rfl) (by kernel_rfl) (by kernel_rfl) (by kernel_rfl) ?_
    refine wpL_run2 (x := .tmp 32) (y := .tmp 33) (.slice (some ⟨g2, 0, none⟩) pp cR) (.int .i64 (q : Int)) (.pointer (some ⟨g2, q * 128, none⟩)) (by kernel_rfl) (by kernel_rfl) (by kernel_rfl) (by kernel_rfl) (by kernel_rfl) (by kernel_rfl) (fun wx ρ hwx h0 h1 hc => idx_pageE rfl g2 pp cR q hqp ρ wx h0 h1) ?_
    refine wpL_run1 (x := .tmp 34) (.pointer (some ⟨g2, q * 128, none⟩)) (.agg (nw.map byteV).toArray) (by kernel_rfl) (by kernel_rfl) (by kernel_rfl) (by kernel_rfl) (by kernel_rfl) (fun wx ρ hwx h0 hc => load_pageE nw HNL.out rfl ρ (RG.out wx hwx) h0) ?_
    refine wpL_fn (.agg (bl.map byteV).toArray) [] rfl (by kernel_rfl) (by kernel_rfl) (by kernel_rfl) (by kernel_rfl) (fun _ _ => by simp [go_sem]) (fun wx hwx => CE.out wx hwx) ?_
    refine wpL_run2 (x := .tmp 35) (y := .tmp 36) (.agg (nw.map byteV).toArray) (.agg (bl.map byteV).toArray) (.bool true) (by kernel_rfl) (by kernel_rfl) (by kernel_rfl) (by kernel_rfl) (by kernel_rfl) (by kernel_rfl) (fun wx ρ hwx h0 h1 hc => neq_pageE rfl HNL.out HBL.out HD.out ρ wx h0 h1) ?_
    refine wpL_end (by kernel_rfl) (fun w2 hw2 => ?_)
    simp only [FinL, setL, List.set_cons_zero, List.set_cons_succ]
    have H2 := Lib.hid (H0.out.later hw2)
    clear hw2 C1 CG RG CE H0
    go_wp2
    go_ret
    exact ⟨rfl, H2.out⟩
  · have hne2 : nw = bl := by simpa using hne
    rw [if_neg hne] at hPF
    have HD : Hid (decide (nw = bl) = true) := decide_eq_true hne2
    have HST := Lib.hid h
    have HXX := Lib.hid hx
    have HOK := Lib.hid ok
    have HLY := Lib.hid hy
    by_cases ho : (trip s).off = true
    · rw [if_pos ho] at hPF
      have HE := Lib.hid hPF
      rw [HE.out]
      have HB2 : Hid (∀ wx, Below w.heap.size w wx → Calls Try.prog 33 #[ptr p] wx fun e w' => e = .returned (errV 6) ∧ Own.St B w0 w' (AFl p (trip s) :: Ps)) := by
        intro wx hwx
        refine (begin_fl (HST.out.later hwx) HXX.out HOK.out hN).mono ?_
        intro e w' h'
        rw [if_pos ho] at h'
        obtain ⟨he, x', hx', h2⟩ := h'
        exact ⟨he, flClose hx' h2⟩
      clear H h hx ok hy hth hthere HS0 hyl hoff hoff2 hPF t1 t2 t3 t4 haN cg rg hg2 hnl hcR hcR2 c1 hnw hbl hbll hnS hpp hne hne2 ho HST HXX HOK HLY H0
      go_enter Try.func55, Try.ntmps55
      go_wp2_with (fail)
      refine HS.out.mono ?_
      rintro e w1 ⟨rfl, rfl⟩
      clear HS
      go_wp2_with (fail)
      refine wp_lax_list (by kernel_rfl) (by kernel_rfl) (by kernel_rfl) ?_
      refine wpL_move (.pointer (some ⟨p, 0, none⟩)) rfl (by kernel_rfl) (by kernel_rfl) (by kernel_rfl) (by kernel_rfl) ?_
      refine wpL_run1 (x := .tmp 26) (.pointer (some ⟨p, 0, none⟩)) (.pointer (some ⟨p, 0, none⟩)) (by kernel_rfl) (by kernel_rfl) (by kernel_rfl) (by kernel_rfl) (by kernel_rfl) (fun wx ρ hwx h0 hc => by simp [go_sem, h0]) ?_
      refine wpL_run1 (x := .tmp 27) (.pointer (some ⟨p, 0, none⟩)) (.pointer (some ⟨p, 1, none⟩)) (by kernel_rfl) (by kernel_rfl) (by kernel_rfl) (by kernel_rfl) (by kernel_rfl) (fun wx ρ hwx h0 hc => by simp [go_sem, h0]) ?_
      refine wpL_run1 (x := .tmp 28) (.pointer (some ⟨p, 1, none⟩)) (.slice (some ⟨gN, 0, none⟩) nS x.cN) (by kernel_rfl) (by kernel_rfl) (by kernel_rfl) (by kernel_rfl) (by kernel_rfl) (fun wx ρ hwx h0 hc => by simp [go_sem, h0, C1.out wx hwx]) ?_
      refine wpL_move (.int .i64 (k : Int)) rfl (by kernel_rfl) (by kernel_rfl) (by kernel_rfl) (by kernel_rfl) ?_
      refine wpL_run2 (x := .tmp 29) (y := .tmp 30) (.slice (some ⟨gN, 0, none⟩) nS x.cN) (.int .i64 (k : Int)) (.pointer (some ⟨gN, k, none⟩)) (by kernel_rfl) (by kernel_rfl) (by kernel_rfl) (by kernel_rfl) (by kernel_rfl) (by kernel_rfl) (fun wx ρ hwx h0 h1 hc => idx_rowsE rfl gN nS x.cN k hks ρ wx h0 h1) ?_
      refine wpL_run1 (x := .tmp 31) (.pointer (some ⟨gN, k, none⟩)) (.slice (some ⟨g2, 0, none⟩) pp cR) (by kernel_rfl) (by kernel_rfl) (by kernel_rfl) (by kernel_rfl) (by kernel_rfl) (fun wx ρ hwx h0 hc => by simp [go_sem, h0, CG.out wx hwx]) ?_
      refine wpL_move (.int .i64 (q : Int)) rfl (by kernel_rfl) (by kernel_rfl) (by kernel_rfl) (by kernel_rfl) ?_
      refine wpL_run2 (x := .tmp 32) (y := .tmp 33) (.slice (some ⟨g2, 0, none⟩) pp cR) (.int .i64 (q : Int)) (.pointer (some ⟨g2, q * 128, none⟩)) (by kernel_rfl) (by kernel_rfl) (by kernel_rfl) (by kernel_rfl) (by kernel_rfl) (by kernel_rfl) (fun wx ρ hwx h0 h1 hc => idx_pageE rfl g2 pp cR q hqp ρ wx h0 h1) ?_
      refine wpL_run1 (x := .tmp 34) (.pointer (some ⟨g2, q * 128, none⟩)) (.agg (nw.map byteV).toArray) (by kernel_rfl) (by kernel_rfl) (by kernel_rfl) (by kernel_rfl) (by kernel_rfl) (fun wx ρ hwx h0 hc => load_pageE nw HNL.out rfl ρ (RG.out wx hwx) h0) ?_
      refine wpL_fn (.agg (bl.map byteV).toArray) [] rfl (by kernel_rfl) (by kernel_rfl) (by kernel_rfl) (by kernel_rfl) (fun _ _ => by simp [go_sem]) (fun wx hwx => CE.out wx hwx) ?_
      refine wpL_run2 (x := .tmp 35) (y := .tmp 36) (.agg (nw.map byteV).toArray) (.agg (bl.map byteV).toArray) (.bool false) (by kernel_rfl) (by kernel_rfl) (by kernel_rfl) (by kernel_rfl) (by kernel_rfl) (by kernel_rfl) (fun wx ρ hwx h0 h1 hc => neq_pageE rfl HNL.out HBL.out HD.out ρ wx h0 h1) ?_
      refine wpL_end (by kernel_rfl) (fun w2 hw2 => ?_)
      simp only [FinL, setL, List.set_cons_zero, List.set_cons_succ]
      have HB3 := Lib.hid (HB2.out w2 hw2)
      clear hw2 C1 CG RG CE HB2
      go_wp2_with (fail)
      refine HB3.out.mono ?_
      clear HB3
      rintro e w3 ⟨rfl, h3⟩
      have H3 := Lib.hid h3
      clear h3
      go_wp2
      go_ret
      exact ⟨rfl, H3.out⟩
    · rw [if_neg ho] at hPF
      obtain ⟨t, htt⟩ : ∃ t, t = okd (trip s) := ⟨_, rfl⟩
      rw [← htt] at hPF
      have HE := Lib.hid hPF
      rw [HE.out]
      have HB2 : Hid (∀ wx, Below w.heap.size w wx → Calls Try.prog 33 #[ptr p] wx fun e w' => e = .returned (errV 0) ∧ ∃ x', HRel x' t ∧ Own.St B w0 w' (flParts p x' t ++ Ps)) := by
        intro wx hwx
        refine (begin_fl (HST.out.later hwx) HXX.out HOK.out hN).mono ?_
        intro e w' h'
        rw [if_neg ho, ← htt] at h'
        exact h'
      have okt : Ok t (N + 1) := by rw [htt]; exact okd_trip ok
      have HOT := Lib.hid okt
      have hlog : t.L.length ≤ 10000 := by rw [htt]; show (trip s).L.length ≤ _; rw [(trip_safe s).2.1]; have := ok.log; have := ok.n; omega
      have hsl : t.safe.length = s.safe.length := by rw [htt]; show (trip s).safe.length = _; rw [(trip_safe s).1]
      have hps : t.pp = s.pp := by rw [htt]; show (trip s).pp = _; exact (trip_safe s).2.2.2.2
      have ACT : Hid (ActOk t.safe.length t.pp ⟨k, (q : Int), y⟩) := ⟨by show k < t.safe.length; omega, .inl ⟨by show (0 : Int) ≤ (q : Int); omega, by show (q : Int) < (t.pp : Int); omega, hyl⟩⟩
      have LAT : Hid (∀ (wx : World) (Xs : List Asn), Own.St B w0 wx (Xs ++ Ps) → Given wx ao 128 cap y) := fun wx Xs hst => lies_later HLY.out HST.out hst
      have HYL := Lib.hid hyl
      clear H h hx ok hy hth hthere HS0 hyl hoff hoff2 hPF t1 t2 t3 t4 haN cg rg hg2 hnl hcR hcR2 c1 hnw hbl hbll hnS hpp hne hne2 ho HST HXX HOK HLY H0 htt okt hsl hps
      go_enter Try.func55, Try.ntmps55
      go_wp2_with (fail)
      refine HS.out.mono ?_
      rintro e w1 ⟨rfl, rfl⟩
      clear HS
      go_wp2_with (fail)
      refine wp_lax_list (by kernel_rfl) (by kernel_rfl) (by kernel_rfl) ?_
      refine wpL_move (.pointer (some ⟨p, 0, none⟩)) rfl (by kernel_rfl) (by kernel_rfl) (by kernel_rfl) (by kernel_rfl) ?_
      refine wpL_run1 (x := .tmp 26) (.pointer (some ⟨p, 0, none⟩)) (.pointer (some ⟨p, 0, none⟩)) (by kernel_rfl) (by kernel_rfl) (by kernel_rfl) (by kernel_rfl) (by kernel_rfl) (fun wx ρ hwx h0 hc => by simp [go_sem, h0]) ?_
      refine wpL_run1 (x := .tmp 27) (.pointer (some ⟨p, 0, none⟩)) (.pointer (some ⟨p, 1, none⟩)) (by kernel_rfl) (by kernel_rfl) (by kernel_rfl) (by kernel_rfl) (by kernel_rfl) (fun wx ρ hwx h0 hc => by simp [go_sem, h0]) ?_
      refine wpL_run1 (x := .tmp 28) (.pointer (some ⟨p, 1, none⟩)) (.slice (some ⟨gN, 0, none⟩) nS x.cN) (by kernel_rfl) (by kernel_rfl) (by kernel_rfl) (by kernel_rfl) (by kernel_rfl) (fun wx ρ hwx h0 hc => by simp [go_sem, h0, C1.out wx hwx]) ?_
      refine wpL_move (.int .i64 (k : Int)) rfl (by kernel_rfl) (by kernel_rfl) (by kernel_rfl) (by kernel_rfl) ?_
      refine wpL_run2 (x := .tmp 29) (y := .tmp 30) (.slice (some ⟨gN, 0, none⟩) nS x.cN) (.int .i64 (k : Int)) (.pointer (some ⟨gN, k, none⟩)) (by kernel_rfl) (by kernel_rfl) (by kernel_rfl) (by kernel_rfl) (by kernel_rfl) (by kernel_rfl) (fun wx ρ hwx h0 h1 hc => idx_rowsE rfl gN nS x.cN k hks ρ wx h0 h1) ?_
      refine wpL_run1 (x := .tmp 31) (.pointer (some ⟨gN, k, none⟩)) (.slice (some ⟨g2, 0, none⟩) pp cR) (by kernel_rfl) (by kernel_rfl) (by kernel_rfl) (by kernel_rfl) (by kernel_rfl) (fun wx ρ hwx h0 hc => by simp [go_sem, h0, CG.out wx hwx]) ?_
      refine wpL_move (.int .i64 (q : Int)) rfl (by kernel_rfl) (by kernel_rfl) (by kernel_rfl) (by kernel_rfl) ?_
      refine wpL_run2 (x := .tmp 32) (y := .tmp 33) (.slice (some ⟨g2, 0, none⟩) pp cR) (.int .i64 (q : Int)) (.pointer (some ⟨g2, q * 128, none⟩)) (by kernel_rfl) (by kernel_rfl) (by kernel_rfl) (by kernel_rfl) (by kernel_rfl) (by kernel_rfl) (fun wx ρ hwx h0 h1 hc => idx_pageE rfl g2 pp cR q hqp ρ wx h0 h1) ?_
      refine wpL_run1 (x := .tmp 34) (.pointer (some ⟨g2, q * 128, none⟩)) (.agg (nw.map byteV).toArray) (by kernel_rfl) (by kernel_rfl) (by kernel_rfl) (by kernel_rfl) (by kernel_rfl) (fun wx ρ hwx h0 hc => load_pageE nw HNL.out rfl ρ (RG.out wx hwx) h0) ?_
      refine wpL_fn (.agg (bl.map byteV).toArray) [] rfl (by kernel_rfl) (by kernel_rfl) (by kernel_rfl) (by kernel_rfl) (fun _ _ => by simp [go_sem]) (fun wx hwx => CE.out wx hwx) ?_
      refine wpL_run2 (x := .tmp 35) (y := .tmp 36) (.agg (nw.map byteV).toArray) (.agg (bl.map byteV).toArray) (.bool false) (by kernel_rfl) (by kernel_rfl) (by kernel_rfl) (by kernel_rfl) (by kernel_rfl) (by kernel_rfl) (fun wx ρ hwx h0 h1 hc => neq_pageE rfl HNL.out HBL.out HD.out ρ wx h0 h1) ?_
      refine wpL_end (by kernel_rfl) (fun w2 hw2 => ?_)
      simp only [FinL, setL, List.set_cons_zero, List.set_cons_succ]
      have HB3 := Lib.hid (HB2.out w2 hw2)
      clear hw2 C1 CG RG CE HB2
      go_wp2_with (fail)
      refine HB3.out.mono ?_
      clear HB3
      rintro e w3 ⟨rfl, x', hx', h3⟩
      have G3 := LAT.out w3 _ h3
      obtain ⟨bo, oo, rfl, _, _, _⟩ := vat G3.view (k := 0) (by rw [HYL.out]; decide)
      have RY : Hid (w3.rangeAt bo oo (y.map byteV)) := by
        intro j v hv
        have := vcells G3.view _ rfl j v hv
        rw [add_of] at this
        exact this
      have hat : (Instr.arrayAt 125 (.slice (some ⟨bo, oo, none⟩) 128 cap)).run Try.prog w3 = .ok (.pointer (some ⟨bo, oo, none⟩)) w3 := run_arrayAt w3 125 _ 128 _ 128 cap Try.underlying125 (Nat.le_refl _)
      have IY := Lib.hid (info_pageL y HYL.out)
      obtain ⟨cs, hcs⟩ : ∃ c, c = opCells ⟨k, (q : Int), y⟩ := ⟨_, rfl⟩
      have BE : Hid (Try.prog.built 130 [(1, .int .i64 (k : Int)), (2, .int .i64 (q : Int)), (3, .agg (y.map byteV).toArray)] = some cs.toArray) := by rw [hcs]; exact built_prog k q y HYL.out
      have PF : Hid (Calls Try.prog 74 #[ptr p, .agg cs.toArray] w3 fun e w' => e = .returned (.tuple #[]) ∧ Own.St B w0 w' (AFl p { t with L := t.L ++ [⟨k, (q : Int), y⟩] } :: Ps)) := by
        rw [hcs]
        exact perform_fl h3 hx' HOT.out.shape HOT.out.segs HOT.out.pp HOT.out.acts ⟨k, (q : Int), y⟩ ACT.out hlog
      clear h3 G3 hcs hx' LAT
      go_wp2_with (first
        | (refine wpList_load_mid rfl 125 (.tmp 47) rfl bo oo rfl (y.map byteV) _ RY.out Try.underlying125 rfl IY.out ?_)
        | (refine Fla.wpList_built rfl 130 #[(1, .tmp 44), (2, .tmp 45), (3, .tmp 48)] rfl cs.toArray ?_ ?_; · (simp only [List.map_toArray, List.map_cons, List.map_nil, List.toList_toArray]; exact BE.out)))
      refine PF.out.mono ?_
      clear PF BE RY hat
      rintro e w4 ⟨rfl, h4⟩
      have H4 := Lib.hid h4
      clear h4
      go_wp2
      go_ret
      exact ⟨rfl, H4.out⟩
end
end Fla
end Go.Proofs.Ytmdphcebmgcdbaa

end
section
namespace Go.Proofs.Ytmdphcebmgcdbaa
open Go.RowKit Go.Own
namespace Fla
open Go.FlaM Byt
section
variable {B : Nat} {w0 w : World} {Ps : List Asn} {p : Nat} {s : FS} {N : Nat}
set_option maxHeartbeats 1600000 in
theorem read_any (H : Own.St B w0 w (AFl p s :: Ps)) (ok : Ok s N) (hN : N ≤ 10000) (seg page : Int) (hseg : i64B seg) (hpage : i64B page) :
    Calls Try.prog 56 #[ptr p, .int .i64 seg, .int .i64 page] w fun e w' => ∃ ao cap, e = .returned (.tuple #[.slice ao (read s seg page).1.length cap, errV (read s seg page).2]) ∧ Own.St B w0 w' (AB ao (read s seg page).1.length cap (read s seg page).1 :: AFl p s :: Ps) := by
  obtain ⟨x, hx, h⟩ := flOpen H
  have HS0 := hasPage_st h seg page
  have hthere : there s seg page = decide (0 ≤ seg ∧ seg < (s.safe.length : Int) ∧ 0 ≤ page ∧ page < (s.pp : Int)) := rfl
  rw [← hthere] at HS0
  have HS := Lib.hid HS0
  have c6 := (h.cellV 0 rfl 6 rfl).1
  have H0 := Lib.hid H
  obtain ⟨th, hth⟩ : ∃ t, t = there s seg page := ⟨_, rfl⟩
  rw [← hth] at HS
  cases th
  · have HE : Hid (read s seg page = ([], 1)) := by
      show read s seg page = ([], 1)
      unfold FlaM.read
      rw [if_pos hth.symm]
    rw [HE.out]
    clear H h hx ok hth hthere c6 HS0
    go_enter Try.func56, Try.ntmps56
    go_wp2_with (fail)
    refine HS.out.mono ?_
    rintro e w1 ⟨rfl, rfl⟩
    clear HS
    go_wp2
    go_ret2
    exact ⟨none, 0, rfl, ab_nil H0.out⟩
  by_cases hoff : true = s.off
  · have HE : Hid (read s seg page = ([], 6)) := by
      show read s seg page = ([], 6)
      unfold FlaM.read
      rw [if_neg (by rw [← hth]; simp), if_pos hoff.symm]
    rw [HE.out]
    rw [← hoff] at c6
    clear H h hx ok hth hthere HS0 hoff
    go_enter Try.func56, Try.ntmps56
    go_wp2_with (fail)
    refine HS.out.mono ?_
    rintro e w1 ⟨rfl, rfl⟩
    clear HS
    go_wp2
    go_ret2
    exact ⟨none, 0, rfl, ab_nil H0.out⟩
  have hoff2 : s.off = false := by cases h : s.off with | false => rfl | true => exact absurd h.symm hoff
  rw [hoff2] at c6
  obtain ⟨t1, t2, t3, t4⟩ := there_spec hth.symm
  obtain ⟨k, hk⟩ : ∃ k : Nat, seg = (k : Int) := ⟨seg.toNat, by omega⟩
  obtain ⟨q, hq⟩ : ∃ q : Nat, page = (q : Int) := ⟨page.toNat, by omega⟩
  subst hk hq
  have hks : k < s.safe.length := by omega
  have hqp : q < s.pp := by omega
  obtain ⟨gN, g2, cR, haN, cg, rg, hg2, hnl, hcR, hcR2⟩ := now_cells h ok k q hks hqp
  have HE : Hid (read s (k : Int) (q : Int) = (now s k q, 0)) := by
    show read s (k : Int) (q : Int) = (now s k q, 0)
    unfold FlaM.read
    rw [if_neg (by rw [← hth]; simp), if_neg (by rw [hoff2]; decide)]
    rfl
  rw [HE.out]
  have c1 := (h.cellV 0 rfl 1 rfl).1
  rw [haN] at c1
  obtain ⟨nw, hnw⟩ : ∃ b, b = now s k q := ⟨_, rfl⟩
  rw [← hnw] at rg hnl ⊢
  have CB : Hid (Calls Try.prog 75 #[.slice (some ⟨g2, q * 128, none⟩) 128 128] w fun e w' => ∃ a' c', e = .returned (.slice a' 128 c') ∧ Own.St B w0 w' (AB a' 128 c' nw :: AFl p s :: Ps)) :=
    cloneBytes H ⟨g2, q * 128, none⟩ 128 128 nw hnl (fun j u hu => by rw [add_of]; exact rg j u hu) (.inr hg2) (by decide)
  have HNL := Lib.hid hnl
  obtain ⟨nS, hnS⟩ : ∃ z, z = s.safe.length := ⟨_, rfl⟩
  rw [← hnS] at c1 hks
  obtain ⟨pp, hpp⟩ : ∃ z, z = s.pp := ⟨_, rfl⟩
  rw [← hpp] at cg hqp
  clear H h hx ok hth hthere HS0 hoff hoff2 t1 t2 t3 t4 haN rg hg2 hnl hcR hcR2 hnw hnS hpp H0
  go_enter Try.func56, Try.ntmps56
  go_wp2_with (fail)
  refine HS.out.mono ?_
  rintro e w1 ⟨rfl, rfl⟩
  clear HS
  go_wp2_with (fail)
  refine CB.out.mono ?_
  clear CB c1 cg c6
  rintro e w2 ⟨a2, c2, rfl, h2⟩
  have H2 := Lib.hid h2
  clear h2
  go_wp2
  go_ret2
  refine ⟨a2, c2, ?_, ?_⟩
  · rw [HNL.out]; rfl
  · rw [HNL.out]; exact H2.out

end
end Fla
end Go.Proofs.Ytmdphcebmgcdbaa

end
section
namespace Go.Own
open Go.RowKit Go.FlaM
end Go.Own
namespace Go.Proofs.Ytmdphcebmgcdbaa
open Go.RowKit Go.Own
namespace Fla
open Go.FlaM Byt
theorem oneInt8 : One Try.prog 44 3 (.int .i64 0) 8 := ⟨Try.underlying44, by kernel_rfl, rfl⟩
theorem make_E {o : Oper} {x : Tmp} {t : TypeId} (ho : o.op = .makeSlice t (.tmp x) (.tmp x)) {ρ : Operand → Value} {w w' : World} {n v : Value} (h0 : ρ (.tmp x) = n) (hrun : (Instr.makeSlice t n n).run Try.prog w = .ok v w') : (execOp ρ o).run Try.prog w = .ok (.value v) w' := by
  unfold execOp
  simp [ho, h0, hrun]
def zeroPage : Bs := List.replicate 128 0
theorem wipe_all (row : List Bs) : wipeTo row row.length = List.replicate row.length FlaM.blank := by
  have : ∀ m, m ≤ row.length → wipeTo row m = List.replicate m FlaM.blank ++ row.drop m := by
    intro m
    induction m with
    | zero => intro _; simp [wipeTo]
    | succ m ih =>
      intro hm
      rw [wipeTo, ih (by omega), List.set_append_right _ _ (by simp), List.length_replicate, Nat.sub_self, List.drop_eq_getElem_cons (by omega), List.set_cons_zero, List.replicate_succ', List.append_assoc]
      rfl
  rw [this _ (Nat.le_refl _), List.drop_length, List.append_nil]
theorem rep_set (S k : Nat) (hk : k < S) (a b : List Bs) : (List.replicate k a ++ List.replicate (S - k) b).set k a = List.replicate (k + 1) a ++ List.replicate (S - (k + 1)) b := by
  have e : S - k = (S - (k + 1)) + 1 := by omega
  rw [e, List.replicate_succ, List.set_append_right _ _ (by simp), List.length_replicate, Nat.sub_self, List.set_cons_zero, List.replicate_succ', List.append_assoc]
  rfl
section
variable {B : Nat} {w0 w : World} {Ps : List Asn}
theorem new_no (segs pages : Int) (H : Own.St B w0 w Ps) (hm : ¬ mayBe segs pages = true) :
    Calls Try.prog 8 #[.int .i64 segs, .int .i64 pages] w fun e w' => e = .returned (.tuple #[.pointer none, errV 1]) ∧ Own.St B w0 w' Ps := by
  have H0 := Lib.hid H
  have hm2 : ¬ (0 ≤ segs ∧ segs ≤ 256 ∧ 1 ≤ pages ∧ pages ≤ 64) := by simpa [mayBe] using hm
  clear H hm
  by_cases q1 : segs < 0
  · clear hm2
    go_enter Try.func8, Try.ntmps8
    go_wp2
    go_ret2
    exact ⟨rfl, H0.out⟩
  by_cases q2 : 256 < segs
  · clear hm2
    go_enter Try.func8, Try.ntmps8
    go_wp2
    go_ret2
    exact ⟨rfl, H0.out⟩
  by_cases q3 : pages < 1
  · clear hm2
    go_enter Try.func8, Try.ntmps8
    go_wp2
    go_ret2
    exact ⟨rfl, H0.out⟩
  have q4 : 64 < pages := by omega
  clear hm2
  go_enter Try.func8, Try.ntmps8
  go_wp2
  go_ret2
  exact ⟨rfl, H0.out⟩
set_option maxRecDepth 10000 in
set_option maxHeartbeats 3200000 in
theorem new_yes (S PP : Nat) (H : Own.St B w0 w Ps) (hS256 : S ≤ 256) (hPP : 1 ≤ PP ∧ PP ≤ 64) :
    Calls Try.prog 8 #[.int .i64 (S : Int), .int .i64 (PP : Int)] w fun e w' => ∃ p, e = .returned (.tuple #[ptr p, errV 0]) ∧ Own.St B w0 w' (AFl p (fresh S PP) :: Ps) := by
  obtain ⟨wA, gA, eA, hA⟩ := St.pMake (e := 125) oneRowB H.drew .i64 .i64 S (by omega) (by decide)
  obtain ⟨wA2, gA2, eA2, hA2⟩ := St.oneMake oneInt8 hA .i64 .i64 S (by omega) (by decide) rfl
  obtain ⟨wB, gB, eB, hB⟩ := St.oneMake oneInt8 H.drew .i64 .i64 S (by omega) (by decide) rfl
  obtain ⟨wB2, gB2, eB2, hB2⟩ := St.pMake (e := 125) oneRowB hB .i64 .i64 S (by omega) (by decide)
  have HA2 := Lib.hid hA2.swap2
  have HB2 := Lib.hid hB2
  clear hA hA2 hB hB2 H
  obtain ⟨hp1, hp2⟩ := hPP
  go_enter Try.func8, Try.ntmps8
  go_wp2_with (fail)
  go_region
  all_goals
    go_wp2
    first
      | (obtain ⟨gS, hgS⟩ : ∃ x, x = gA := ⟨_, rfl⟩; obtain ⟨gW, hgW⟩ : ∃ x, x = gA2 := ⟨_, rfl⟩; obtain ⟨w2, hw2⟩ : ∃ x, x = wA2 := ⟨_, rfl⟩; rw [← hw2]; rw [← hgS, ← hgW] at HA2 ⊢; rw [← hw2] at HA2; have HH := HA2; clear HA2 HB2 eA eA2 eB eB2 hgS hgW hw2)
      | (obtain ⟨gS, hgS⟩ : ∃ x, x = gB2 := ⟨_, rfl⟩; obtain ⟨gW, hgW⟩ : ∃ x, x = gB := ⟨_, rfl⟩; obtain ⟨w2, hw2⟩ : ∃ x, x = wB2 := ⟨_, rfl⟩; rw [← hw2]; rw [← hgS, ← hgW] at HB2 ⊢; rw [← hw2] at HB2; have HH := HB2; clear HA2 HB2 eA eA2 eB eB2 hgS hgW hw2)
    have hb := HH.out.boxV 89 (flCells PP (.slice none 0 0) (.slice (some ⟨gS, 0, none⟩) S S) (.slice none 0 0) (.slice (some ⟨gW, 0, none⟩) S S) 0 false false 0)
    obtain ⟨p, hp⟩ : ∃ p, p = w2.heap.size := ⟨_, rfl⟩
    rw [← hp] at hb ⊢
    obtain ⟨W, hW⟩ : ∃ W, W = w2.alloc (.cells (flCells PP (.slice none 0 0) (.slice (some ⟨gS, 0, none⟩) S S) (.slice none 0 0) (.slice (some ⟨gW, 0, none⟩) S S) 0 false false 0).toArray 89) := ⟨_, rfl⟩
    have hW2 : w2.alloc (.cells #[.int .i64 (PP : Int), .slice none 0 0, .slice (some ⟨gS, 0, none⟩) S S, .slice none 0 0, .slice (some ⟨gW, 0, none⟩) S S, .int .i64 0, .bool false, .bool false, .int .i64 0] 89) = W := hW.symm
    rw [← hW] at hb
    rw [hW2]
    have H0 := Lib.hid hb
    clear hb hW hW2 hp HH
    go_loopw [34] (fun v wr => ∃ k : Nat, k ≤ S ∧ v = .int .i64 (k : Int) ∧ Own.St B w0 wr (AVals p 89 (flCells PP (.slice none 0 0) (.slice (some ⟨gS, 0, none⟩) S S) (.slice none 0 0) (.slice (some ⟨gW, 0, none⟩) S S) 0 false false 0) :: gridT (.slice (some ⟨gS, 0, none⟩) S S) (List.replicate k (List.replicate PP FlaM.blank) ++ List.replicate (S - k) []) :: ARow 3 1 (.slice (some ⟨gW, 0, none⟩) S S) S (List.replicate S (.int .i64 0)) :: Ps)) (fun v _ => S - (intOf v).toNat)
    case atStart => exact ⟨0, Nat.zero_le _, rfl, by rw [List.replicate_zero, List.nil_append, Nat.sub_zero]; exact H0.out⟩
    case round =>
      obtain ⟨k, hkS, rfl, H⟩ := hrel
      have H := Lib.hid H
      clear H0
      by_cases hk : (k : Int) < (S : Int)
      · have hkn : k < S := by omega
        obtain ⟨w1, g1, e1, h1⟩ := St.manyMake (zs := zeroPage.map byteV) manyPage zero_page rfl H.out.drew .i64 .i64 PP (by omega) (by decide)
        have hfl : (List.replicate PP (zeroPage.map byteV)).flatten = ((List.replicate PP zeroPage).flatten.map byteV) := by rw [List.map_flatten, List.map_replicate]
        have hpr : ARow 125 128 (.slice (some ⟨g1, 0, none⟩) PP PP) PP ((List.replicate PP (zeroPage.map byteV)).flatten) = pRow 125 (some ⟨g1, 0, none⟩, PP) (List.replicate PP zeroPage) := by
          unfold pRow
          rw [hfl, List.length_replicate]
        rw [hpr] at h1
        have c2a := (H.out.drew.cellV 0 rfl 2 rfl).1
        have c2b := (h1.cellV 1 rfl 2 rfl).1
        have h2 := (h1.front 2 rfl)
        simp only [List.eraseIdx_cons_succ, List.eraseIdx_cons_zero] at h2
        have hlen : (List.replicate k (List.replicate PP FlaM.blank) ++ List.replicate (S - k) ([] : List Bs)).length = S := by simp; omega
        obtain ⟨g', c', hv, ⟨u, cu⟩, fu, h3⟩ := h2.pPut k (by rw [hlen]; exact hkn)
        simp only [Value.slice.injEq] at hv
        obtain ⟨hg', hl1, hl2⟩ := hv
        cases hg'
        clear hl1 hl2
        rw [List.length_replicate] at h3
        have C2A := Lib.hid c2a
        have C2B := Lib.hid c2b
        have E1 := Lib.hid e1
        have CU : Hid (w1.cell? ⟨gS, k, none⟩ = some u ∧ w1.frozen? ⟨gS, k, none⟩ = false) := ⟨cu, fu⟩
        have H3 := Lib.hid h3
        clear h1 h2 h3 hfl hpr hlen cu fu c2a c2b e1
        go_wp2_with (fail)
        refine wp_chain_list [6, 8] (fun j wx => wx = match j with | 0 => wr.drew | 1 => w1 | _ => w1.setCell ⟨gS, k, none⟩ (.slice (some ⟨g1, 0, none⟩) PP PP)) (by kernel_rfl) (by kernel_rfl) (by kernel_rfl) (by kernel_rfl) rfl ?_
        refine wpG_move (.pointer (some ⟨p, 0, none⟩)) rfl (by kernel_rfl) (by kernel_rfl) (by kernel_rfl) ?_
        refine wpG_run1 (x := .tmp 37) (.pointer (some ⟨p, 0, none⟩)) (.pointer (some ⟨p, 0, none⟩)) (by kernel_rfl) (by kernel_rfl) (by kernel_rfl) (by kernel_rfl) (fun j wx ρ hC h0 hc => by simp [go_sem, h0]) ?_
        refine wpG_run1 (x := .tmp 38) (.pointer (some ⟨p, 0, none⟩)) (.pointer (some ⟨p, 2, none⟩)) (by kernel_rfl) (by kernel_rfl) (by kernel_rfl) (by kernel_rfl) (fun j wx ρ hC h0 hc => by simp [go_sem, h0]) ?_
        refine wpG_runU1 (x := .tmp 39) 1 (.pointer (some ⟨p, 2, none⟩)) (.slice (some ⟨gS, 0, none⟩) S S) (by kernel_rfl) (by kernel_rfl) (by kernel_rfl) (by kernel_rfl) (by kernel_rfl) (by kernel_rfl) (fun j wx ρ hj hC h0 hc => ?_) ?_
        · have hcell : wx.cell? ⟨p, 2, none⟩ = some (.slice (some ⟨gS, 0, none⟩) S S) := by
            match j, hj with
            | 0, _ => subst hC; exact C2A.out
            | 1, _ => subst hC; exact C2B.out
          simp [go_sem, h0, hcell]
        refine wpG_move (.int .i64 (k : Int)) rfl (by kernel_rfl) (by kernel_rfl) (by kernel_rfl) ?_
        refine wpG_move (.int .i64 (PP : Int)) rfl (by kernel_rfl) (by kernel_rfl) (by kernel_rfl) ?_
        refine wpG_op 0 (.slice (some ⟨g1, 0, none⟩) PP PP) _ (.inl rfl) (by kernel_rfl) (by kernel_rfl) (by kernel_rfl) (by kernel_rfl) (by kernel_rfl) (fun wx hC => ⟨w1, by subst hC; exact make_E rfl rfl E1.out, rfl⟩) ?_
        refine wpG_run2 (x := .tmp 40) (y := .tmp 41) (.slice (some ⟨gS, 0, none⟩) S S) (.int .i64 (k : Int)) (.pointer (some ⟨gS, k, none⟩)) (by kernel_rfl) (by kernel_rfl) (by kernel_rfl) (by kernel_rfl) (by kernel_rfl) (fun j wx ρ hC h0 h1 hc => idx_rowsE rfl gS S S k hkn ρ wx h0 h1) ?_
        refine wpG_op 1 undef _ (.inr ⟨rfl, rfl⟩) (by kernel_rfl) (by kernel_rfl) (by kernel_rfl) (by kernel_rfl) (by kernel_rfl) (fun wx hC => ⟨w1.setCell ⟨gS, k, none⟩ (.slice (some ⟨g1, 0, none⟩) PP PP), by subst hC; exact store_E (a := .pointer (some ⟨gS, k, none⟩)) (v := .slice (some ⟨g1, 0, none⟩) PP PP) rfl (by kernel_rfl) (by kernel_rfl) (by simp [go_sem, CU.out.1, CU.out.2]), rfl⟩) ?_
        refine wpG_end (fun w9 hw9 => ?_)
        have hw9' : w9 = w1.setCell ⟨gS, k, none⟩ (.slice (some ⟨g1, 0, none⟩) PP PP) := hw9
        rw [← hw9'] at H3
        clear hw9 hw9' C2A C2B E1 CU
        simp only [setL, List.set_cons_zero, List.set_cons_succ]
        have hat : ((List.replicate k (List.replicate PP FlaM.blank) ++ List.replicate (S - k) ([] : List Bs)).set k (List.replicate PP zeroPage))[k]? = some (List.replicate PP zeroPage) := List.getElem?_set_self (by simp; omega)
        obtain ⟨g4, c4, ⟨a4, r4⟩, Qs, hv, cg, hR, put⟩ := H3.out.pRowAt k _ hat
        simp only [Value.slice.injEq] at hv
        obtain ⟨hg4, hl1, hl2⟩ := hv
        cases hg4
        clear hl1 hl2
        rw [List.length_replicate] at cg
        have c2c := (H3.out.cellV 1 rfl 2 rfl).1
        have CWP : Hid (Calls Try.prog 27 #[.slice a4 PP r4] w9 fun e w' => e = .returned (.tuple #[]) ∧ Own.St B w0 w' (AVals p 89 (flCells PP (.slice none 0 0) (.slice (some ⟨gS, 0, none⟩) S S) (.slice none 0 0) (.slice (some ⟨gW, 0, none⟩) S S) 0 false false 0) :: gridT (.slice (some ⟨gS, 0, none⟩) S S) (List.replicate (k + 1) (List.replicate PP FlaM.blank) ++ List.replicate (S - (k + 1)) []) :: ARow 3 1 (.slice (some ⟨gW, 0, none⟩) S S) S (List.replicate S (.int .i64 0)) :: Ps)) := by
          refine (wipe_st hR (fun x hx => by rw [List.eq_of_mem_replicate hx]; rfl) PP (by rw [List.length_replicate]; exact Nat.le_refl _) (by rw [List.length_replicate]; omega)).mono ?_
          rintro e w' ⟨he, h'⟩
          refine ⟨he, ?_⟩
          have h5 := put w' (wipeTo (List.replicate PP zeroPage) PP) (wipeTo_len _ _) h'
          have hwa := wipe_all (List.replicate PP zeroPage)
          rw [List.length_replicate] at hwa
          rw [List.set_set, hwa, rep_set S k hkn] at h5
          exact h5.swap2
        clear hat hR put H3
        go_wp2_with (fail)
        refine CWP.out.mono ?_
        clear CWP cg c2c
        rintro e w5 ⟨rfl, h5⟩
        have H5 := Lib.hid h5
        clear h5
        go_wp2
        go_roundw
        case rel => exact ⟨k + 1, by omega, by go_num, H5.out⟩
        case measure => simp [intOf]; omega
      · have hks2 : k = S := by omega
        have H1 : Hid (Own.St B w0 wr (AVals p 89 (flCells PP (.slice none 0 0) (.slice (some ⟨gS, 0, none⟩) S S) (.slice none 0 0) (.slice (some ⟨gW, 0, none⟩) S S) 0 false false 0) :: gridT (.slice (some ⟨gS, 0, none⟩) S S) (List.replicate S (List.replicate PP FlaM.blank)) :: ARow 3 1 (.slice (some ⟨gW, 0, none⟩) S S) S (List.replicate S (.int .i64 0)) :: Ps)) := by
          have h := H.out
          rw [hks2, Nat.sub_self, List.replicate_zero, List.append_nil] at h
          exact h
        have okf := ok_fresh S PP hS256 ⟨hp1, hp2⟩
        have hsh : Shape (List.replicate S (List.replicate PP FlaM.blank)) S PP := by
          have := okf.shape
          rw [show (fresh S PP).safe.length = S by simp [fresh]] at this
          exact this
        have hcl := clone_st H1.out.swap2 hsh hS256 ⟨hp1, hp2⟩
        rw [List.length_replicate] at hcl
        have CC := Lib.hid hcl
        have c2 := (H1.out.cellV 0 rfl 2 rfl).1
        have HSH := Lib.hid hsh
        clear H hks2 hcl okf hsh hkS
        go_wp2_with (fail)
        refine CC.out.mono ?_
        clear CC c2 H1
        rintro e w3 ⟨a3, c3, rfl, h3⟩
        have q1 := (h3.cellV 2 rfl 1 rfl)
        have h4 := h3.storeV 2 rfl 1 (.slice a3 S c3)
        simp only [List.set_cons_succ, List.set_cons_zero] at h4
        have h5 := (h4.front 2 rfl)
        simp only [List.eraseIdx_cons_succ, List.eraseIdx_cons_zero] at h5
        have h6 := h5.rowFresh (e := 130) (size := 131)
        have FIN : Hid (Own.St B w0 (w3.setCell ⟨p, 1, none⟩ (.slice a3 S c3)) (AFl p (fresh S PP) :: Ps)) := by
          refine flClose (x := ⟨a3, c3, some ⟨gS, 0, none⟩, S, .slice none 0 0, .slice (some ⟨gW, 0, none⟩) S S, false, 0⟩) ⟨by unfold i64B; simp, fun _ => ⟨fun h => (by cases h), fun _ => rfl⟩, fun h => (by cases h)⟩ ?_
          have h7 := (h6.perm (List.Perm.swap _ _ _)).perm ((((List.Perm.swap _ _ _)).trans ((List.Perm.swap _ _ _).cons _)).cons _)
          unfold flParts fresh
          simp only [List.length_replicate, List.map_replicate, List.length_nil, List.flatMap_nil]
          exact h7
        clear h3 h4 h5 h6
        go_wp2
        go_ret2
        exact ⟨p, rfl, FIN.out⟩
theorem new_any (segs pages : Int) (H : Own.St B w0 w Ps) (h1 : i64B segs) (h2 : i64B pages) :
    Calls Try.prog 8 #[.int .i64 segs, .int .i64 pages] w fun e w' => if mayBe segs pages = true then ∃ p, e = .returned (.tuple #[ptr p, errV 0]) ∧ Own.St B w0 w' (AFl p (fresh segs.toNat pages.toNat) :: Ps) else e = .returned (.tuple #[.pointer none, errV 1]) ∧ Own.St B w0 w' Ps := by
  by_cases hm : mayBe segs pages = true
  · have hm2 : 0 ≤ segs ∧ segs ≤ 256 ∧ 1 ≤ pages ∧ pages ≤ 64 := by simpa [mayBe] using hm
    obtain ⟨S, hS⟩ : ∃ S : Nat, segs = (S : Int) := ⟨segs.toNat, by omega⟩
    obtain ⟨PP, hP⟩ : ∃ P : Nat, pages = (P : Int) := ⟨pages.toNat, by omega⟩
    subst hS hP
    refine (new_yes S PP H (by omega) (by omega)).mono ?_
    intro e w' h
    rw [if_pos hm]
    exact h
  · refine (new_no segs pages H hm).mono ?_
    intro e w' h
    rw [if_neg hm]
    exact h
end
end Fla
end Go.Proofs.Ytmdphcebmgcdbaa

end
section
namespace Go.Proofs.Ytmdphcebmgcdbaa
open Go.RowKit Go.Own
namespace Fla
open Go.FlaM Byt
noncomputable def kept (W : World) : Kept W where
  A := AFl
  new segs pages _ H h1 h2 := new_any segs pages H h1 h2
  program seg page ao n cap x _ H ok hN h1 h2 hl hn := program_any H ok hN seg page h1 h2 ao n cap x hl hn
  erase seg _ H ok hN h := erase_any H ok hN seg h
  barrier _ H ok hN := barrier_any H ok hN
  read seg page _ H ok hN h1 h2 := read_any H ok hN seg page h1 h2
  cut after _ H _ _ h := cut_any H after h
  crash ao n cap l _ H ok hN hl := crash_any H ok hN ao n cap l hl
  segs _ H ok _ := segs_any H ok
  pages _ H _ _ := pages_any H
  nilProgram := nilProgram_any
  nilErase := nilErase_any
  nilBarrier := nilBarrier_any
  nilRead := nilRead_any
  nilCut := nilCut_any
  nilCrash := nilCrash_any
  nilSegs := nilSegs_any
  nilPages := nilPages_any
end Fla
end Go.Proofs.Ytmdphcebmgcdbaa

end
section
namespace Go.Proofs.Ytmdphcebmgcdbaa
open Go.RowKit Go.Own
namespace Byt
variable {P : Program} {ops : Array Oper} {rest : List Oper} {o : Oper} {C : World → Prop} {Q : Act → World → Prop} {I : Lx} {fs : List Value} {ds : List Deferred}

theorem wpT_seeT {a : Act} {t d : Tmp} {R : Ty} (R' : Ty) (hd : o.dst = some d) (hx : I.lookup t = some R) (hm : (Operand.tmp t) ∈ o.op.operands) (hs : notSelect o = true) (hl : (o.op.operands.toList.all fun x => known I x || isTmp t x) = true) (hg : guardKnown ops o I = true) (hw : Region.wanted o (yielded ops a.tmps) = true)
    (hrun : ∀ (u : Value) w, C w → R.holds u w → ∀ ρ : Operand → Value, ρ (.tmp t) = u → (∀ x, known I x = true → ρ x = a.eval x) → ∃ v w', (execOp ρ o).run P w = .ok (.value v) w' ∧ R'.holds v w' ∧ Below w.heap.size w w') (k : wpT P ops C Q rest ((d, R') :: I) a) : wpT P ops C Q (o :: rest) I a :=
  ⟨_, _, .ty d R' hd hg hw (fun a1 w hC ht K Q' hK => by
    have h : slotIs I a t (a1.tmps.getD t undef) w := ht t (looks_of_operand hm rfl)
    unfold slotIs at h
    rw [hx] at h
    have e : execOp a1.eval o = execOp (fun x => if isTmp t x = true then a1.tmps.getD t undef else a.eval x) o := execOp_congr o (fun cs b h => by simp [notSelect, h] at hs) fun x hxm => by
      by_cases hxt : isTmp t x = true
      · rw [if_pos hxt, isTmp_eq hxt]; rfl
      · rw [if_neg hxt]
        simp only [List.all_eq_true] at hl
        have h1 := hl x (by simpa using hxm)
        have h2 : known I x = true := by simpa [hxt] using h1
        exact known_eval h2 hxm ht
    obtain ⟨v, w', h1, h3, h2⟩ := hrun _ w hC h (fun x => if isTmp t x = true then a1.tmps.getD t undef else a.eval x) (by rw [if_pos (isTmp_self t)]) (fun x hk => by
      by_cases hxt : isTmp t x = true
      · rw [isTmp_eq hxt] at hk; simp [known, hx] at hk
      · rw [if_neg hxt])
    unfold Oper.wp
    rw [e, h1]
    exact hK _ _ h3 h2), k⟩
theorem wpL_seeT {t d : Tmp} {R : Ty} (R' : Ty) (hd : o.dst = some d) (hx : I.lookup t = some R) (hm : (Operand.tmp t) ∈ o.op.operands) (hs : notSelect o = true) (hl : (o.op.operands.toList.all fun x => known I x || isTmp t x) = true) (hg : guardKnown ops o I = true) (hw : wantedL ops fs o = true)
    (hrun : ∀ (u : Value) w, C w → R.holds u w → ∀ ρ : Operand → Value, ρ (.tmp t) = u → (∀ x, known I x = true → ρ x = ev fs x) → ∃ v w', (execOp ρ o).run P w = .ok (.value v) w' ∧ R'.holds v w' ∧ Below w.heap.size w w') (k : wpL P ops C Q ds rest ((d, R') :: I) fs) : wpL P ops C Q ds (o :: rest) I fs :=
  wpT_seeT R' hd hx hm hs hl hg (wantedL_eq.trans hw) (fun u w h1 h2 ρ h3 h4 => hrun u w h1 h2 ρ h3 (fun x hx => (h4 x hx).trans (mkA_eval x))) k
end Byt
end Go.Proofs.Ytmdphcebmgcdbaa

end
section
namespace Go.Own
open Go.RowKit
/-- a pointer, d ahead of a cell that reads so -/
def tyAt (d : Nat) (u : Value) : Ty where
  holds v w := ∃ g o, v = .pointer (some ⟨g, o, none⟩) ∧ w.cell? ⟨g, o + d, none⟩ = some u
  keep := fun ⟨g, o, e, h⟩ b => ⟨g, o, e, cellLater' h b⟩
theorem rot3 {B : Nat} {w0 w : World} {a b c : Asn} {Ps : List Asn} (h : St B w0 w (a :: b :: c :: Ps)) : St B w0 w (c :: a :: b :: Ps) := h.perm ((List.Perm.cons a (List.Perm.swap c b Ps)).trans (List.Perm.swap c a (b :: Ps)))
theorem rot3' {B : Nat} {w0 w : World} {a b c : Asn} {Ps : List Asn} (h : St B w0 w (c :: a :: b :: Ps)) : St B w0 w (a :: b :: c :: Ps) := h.perm ((List.Perm.swap a c (b :: Ps)).trans (List.Perm.cons a (List.Perm.swap b c Ps)))
end Go.Own
namespace Go.Proofs.Ytmdphcebmgcdbaa
open Go.RowKit Go.Own
namespace Lga
open Go.LogM Byt
abbrev ptr (p : Nat) : Value := .pointer (some ⟨p, 0, none⟩)
abbrev lgC (pf fr pt q nx : Nat) : List Value := [ptr pf, .int .i64 (fr : Int), ptr pt, .int .u64 (q : Int), .int .i64 (nx : Int)]
/-- the landed log at p: its number, its page -/
abbrev AL (p pf pt fr q nx : Nat) : Asn := AVals p 99 (lgC pf fr pt q nx)
def A (p pf pt fr pp : Nat) (tb : TabM.T) (a : Nat) : Asn := AEx (α := { x : Nat × Nat // LR pp tb a x.1 x.2 }) fun x => AL p pf pt fr x.1.1 x.1.2
/-- a log's three objects -/
abbrev S3 (B : Nat) (w0 w : World) (X : Asn) (pf pt : Nat) (s : FlaM.FS) (tb : TabM.T) (Ps : List Asn) : Prop := Own.St B w0 w (X :: Fla.AFl pf s :: Tba.A pt tb :: Ps)
theorem at_field {o : Oper} {x : Tmp} (ho : o.op = .fieldAddr 133 (.tmp x) 1) {u v : Value} {w : World} (hu : (tyAt 1 u).holds v w) (ρ : Operand → Value) (h0 : ρ (.tmp x) = v) :
    ∃ v' w', (execOp ρ o).run Try.prog w = .ok (.value v') w' ∧ (tyAt 0 u).holds v' w' ∧ Below w.heap.size w w' := by
  obtain ⟨g, q, rfl, h⟩ := hu
  exact ⟨.pointer (some ⟨g, q + 1, none⟩), w, by simp [execOp, ho, h0, go_sem], ⟨g, q + 1, rfl, h⟩, Below.refl _ _⟩
theorem at_load {o : Oper} {x : Tmp} (ho : o.op = .load 51 (.tmp x)) {k : Int} {v : Value} {w : World} (hu : (tyAt 0 (.int .u64 k)).holds v w) (ρ : Operand → Value) (h0 : ρ (.tmp x) = v) :
    ∃ w', (execOp ρ o).run Try.prog w = .ok (.value (.int .u64 k)) w' ∧ Below w.heap.size w w' := by
  obtain ⟨g, q, rfl, h⟩ := hu
  rw [Nat.add_zero] at h
  exact ⟨w, by simp [execOp, ho, h0, h, go_sem], Below.refl _ _⟩
theorem idx_seq {rows : List TabM.Sg} {n i : Nat} (hn : rows.length = n) (hi : i < n) (o : Oper) (x y : Tmp) (ho : o.op = .indexAddr 93 (.tmp x) (.tmp y)) (u : Value) (w : World) (hu : (tyRow n (rows.flatMap Tab.sgC)).holds u w) (ρ : Operand → Value) (h0 : ρ (.tmp x) = u) (h1 : ρ (.tmp y) = .int .i64 (i : Int)) :
    ∃ v w', (execOp ρ o).run Try.prog w = .ok (.value v) w' ∧ (tyAt 1 (.int .u64 ((TabM.at_ rows i).seq : Int))).holds v w' ∧ Below w.heap.size w w' := by
  obtain ⟨ao, c, rfl, h⟩ := hu
  rcases h with h | ⟨g, rfl, h⟩
  · omega
  subst hn
  have hk' : (i : Int) < (rows.length : Int) := by omega
  have hc := h (i * 3 + 1) (.int .u64 ((TabM.at_ rows i).seq : Int)) (by rw [flat_at Tab.sgC 3 rows (Tab.sgC_len rows) i (TabM.at_ rows i) (TabM.at_get hi) 1 (by decide)]; rfl)
  refine ⟨.pointer (some ⟨g, i * 3, none⟩), w, ?_, ⟨g, i * 3, rfl, hc⟩, Below.refl _ _⟩
  simp [execOp, ho, h0, h1, go_sem, hk', add_of]
section
variable {B : Nat} {w0 w : World} {Ps : List Asn} {X : Asn} {p pf pt fr pp a q nx : Nat} {s : FlaM.FS} {tb : TabM.T} {N : Nat}
theorem A_of (h : LR pp tb a q nx) (H : Own.St B w0 w (AL p pf pt fr q nx :: Ps)) : Own.St B w0 w (A p pf pt fr pp tb a :: Ps) := Own.St.closeE (⟨(q, nx), h⟩ : { x : Nat × Nat // LR pp tb a x.1 x.2 }) H
theorem A_to (H : Own.St B w0 w (A p pf pt fr pp tb a :: Ps)) : ∃ q nx, LR pp tb a q nx ∧ Own.St B w0 w (AL p pf pt fr q nx :: Ps) := by
  obtain ⟨⟨⟨q, nx⟩, h⟩, h1⟩ := Own.St.openE H
  exact ⟨q, nx, h, h1⟩
theorem t_cur (H : S3 B w0 w X pf pt s tb Ps) (ok : TabM.Ok tb N) (hN : N ≤ 10000) : Calls Try.prog 26 #[ptr pt] w fun e w' => e = .returned (Tab.curV tb) ∧ Below w.heap.size w w' := (Tab.kept w).cur (Below.refl _ _) (rot3 H) ok hN
theorem t_next (H : S3 B w0 w X pf pt s tb Ps) (ok : TabM.Ok tb N) (hN : N ≤ 10000) : Calls Try.prog 21 #[ptr pt] w fun e w' => e = .returned (.int .u64 (tb.next : Int)) ∧ Below w.heap.size w w' := (Tab.kept w).next (Below.refl _ _) (rot3 H) ok hN
theorem t_rows (H : S3 B w0 w X pf pt s tb Ps) (ok : TabM.Ok tb N) (hN : N ≤ 10000) : Calls Try.prog 30 #[ptr pt] w fun e w' => ∃ v, e = .returned v ∧ (tyRow tb.rows.length (tb.rows.flatMap Tab.sgC)).holds v w' ∧ Below w.heap.size w w' :=
  ((Tab.kept w).rows (Below.refl _ _) (rot3 H) ok hN).mono fun e w' ⟨ao, c, h1, h2, h3⟩ => ⟨_, h1, rd_own h2 0 rfl, h3⟩
theorem t_open (H : S3 B w0 w X pf pt s tb Ps) (ok : TabM.Ok tb N) (hN : N ≤ 10000) : Calls Try.prog 71 #[ptr pt] w fun e w' => e = .returned (Tab.opV (TabM.openT tb).2) ∧ S3 B w0 w' X pf pt s (TabM.openT tb).1 Ps :=
  ((Tab.kept w).open_ (Below.refl _ _) (rot3 H) ok hN).mono fun e w' h => ⟨h.1, rot3' h.2⟩
theorem t_seal (H : S3 B w0 w X pf pt s tb Ps) (ok : TabM.Ok tb N) (hN : N ≤ 10000) : Calls Try.prog 36 #[ptr pt] w fun e w' => e = .returned (errL (TabM.sealT tb).2) ∧ S3 B w0 w' X pf pt s (TabM.sealT tb).1 Ps :=
  ((Tab.kept w).seal_ (Below.refl _ _) (rot3 H) ok hN).mono fun e w' h => ⟨h.1, rot3' h.2⟩
theorem f_pages (H : S3 B w0 w X pf pt s tb Ps) : Calls Try.prog 31 #[ptr pf] w fun e w' => e = .returned (errL s.pp) ∧ Below w.heap.size w w' := Fla.pages_any H.swap2
theorem f_erase (H : S3 B w0 w X pf pt s tb Ps) (ok : FlaM.Ok s N) (hN : N ≤ 10000) (seg : Int) (hs : Fla.i64B seg) : Calls Try.prog 86 #[ptr pf, .int .i64 seg] w fun e w' => e = .returned (errL (FlaM.erase s seg).2) ∧ S3 B w0 w' X pf pt (FlaM.erase s seg).1 tb Ps :=
  (Fla.erase_any H.swap2 ok hN seg hs).mono fun e w' h => ⟨h.1, h.2.swap2⟩
theorem f_barrier (H : S3 B w0 w X pf pt s tb Ps) (ok : FlaM.Ok s N) (hN : N ≤ 10000) : Calls Try.prog 17 #[ptr pf] w fun e w' => e = .returned (errL (FlaM.barrier s).2) ∧ S3 B w0 w' X pf pt (FlaM.barrier s).1 tb Ps :=
  (Fla.barrier_any H.swap2 ok hN).mono fun e w' h => ⟨h.1, h.2.swap2⟩
/-- has it such a segment -/
def hasB (tb : TabM.T) (seg : Int) : Bool := decide (0 ≤ seg) && decide (seg < (tb.rows.length : Int))
set_option maxHeartbeats 1600000 in
theorem hasSeg_any (H : S3 B w0 w (AL p pf pt fr q nx) pf pt s tb Ps) (ok : TabM.Ok tb N) (hN : N ≤ 10000) (seg : Int) :
    Calls Try.prog 41 #[ptr p, .int .i64 seg] w fun e w' => e = .returned (.bool (hasB tb seg)) ∧ Below w.heap.size w w' := by
  have c2 := (H.cellV 0 rfl 2 rfl).1
  have CR := Lib.hid (t_rows H ok hN)
  obtain ⟨n, hn⟩ : ∃ n, n = tb.rows.length := ⟨_, rfl⟩
  obtain ⟨b, hb⟩ : ∃ b, b = hasB tb seg := ⟨_, rfl⟩
  rw [← hb]
  unfold hasB at hb
  rw [← hn] at hb CR
  by_cases h0 : seg ≥ 0
  · rw [decide_eq_true (show 0 ≤ seg from h0), Bool.true_and] at hb
    have HBB := Lib.hid hb
    clear hb hn H ok
    go_enter Try.func41, Try.ntmps41
    go_wp2_with (fail)
    refine CR.out.mono ?_
    clear CR
    rintro e w1 ⟨v, rfl, hv, hb1⟩
    obtain ⟨ao, c, rfl, _⟩ := hv
    have HB := Lib.hid hb1
    clear hb1
    go_wp2
    go_ret
    exact ⟨by rw [HBB.out]; rfl, HB.out⟩
  · have HE : Hid (b = false) := by show b = false; rw [hb, decide_eq_false (show ¬ 0 ≤ seg from h0)]; rfl
    clear hb hn H ok CR
    go_enter Try.func41, Try.ntmps41
    go_wp2
    go_ret
    exact ⟨by rw [HE.out]; rfl, Below.refl _ _⟩
set_option maxRecDepth 6000 in
set_option maxHeartbeats 4000000 in
theorem left_any (H : S3 B w0 w (AL p pf pt fr q nx) pf pt s tb Ps) (ok : TabM.Ok tb N) (hN : N ≤ 10000) (hpp : s.pp ≤ 1000) (hnx : nx ≤ s.pp) :
    Calls Try.prog 46 #[ptr p] w fun e w' => e = .returned (.int .i64 (leftN s.pp tb q nx : Int)) ∧ Below w.heap.size w w' := by
  have c2 := (H.cellV 0 rfl 2 rfl).1
  have CC := t_cur H ok hN
  have HH := Lib.hid H
  have HOK := Lib.hid ok
  obtain ⟨R, hR⟩ : ∃ R, R = leftN s.pp tb q nx := ⟨_, rfl⟩
  rw [← hR]
  cases hc : TabM.cur tb with
  | none =>
    rw [left_none hc] at hR
    have e1 : Tab.curV tb = .tuple #[.int .i64 0, .bool false] := by unfold Tab.curV; rw [hc]; rfl
    rw [e1] at CC
    have CC1 := Lib.hid CC
    subst hR
    clear CC e1 hc H ok HOK
    go_enter Try.func46, Try.ntmps46
    go_wp2_with (fail)
    refine CC1.out.mono ?_
    clear CC1
    rintro e w1 ⟨rfl, hb1⟩
    have HB := Lib.hid hb1
    clear hb1 c2
    go_wp2
    go_quiet (fail)
    go_wp2
    go_ret
    exact ⟨rfl, ((Own.St.start w).later HB.out |>.drewN nq |>.below)⟩
  | some i =>
    rw [left_some hc] at hR
    obtain ⟨hil, _⟩ := TabM.cur_some hc
    have e1 : Tab.curV tb = .tuple #[.int .i64 (i : Int), .bool true] := by unfold Tab.curV; rw [hc]; rfl
    rw [e1] at CC
    have CC1 := Lib.hid CC
    obtain ⟨n, hn⟩ : ∃ n, tb.rows.length = n := ⟨_, rfl⟩
    have hin : i < n := by omega
    have SEG0 := idx_seq hn hin
    obtain ⟨sq, hsq⟩ : ∃ x, x = (TabM.at_ tb.rows i).seq := ⟨_, rfl⟩
    rw [← hsq] at SEG0 hR
    have SEG := Lib.hid SEG0
    have HN := Lib.hid hn
    have HR := Lib.hid hR
    have SUB : Hid ((s.pp : Int) - (nx : Int) = ((s.pp - nx : Nat) : Int)) := by show _ = _; omega
    obtain ⟨m, hm⟩ : ∃ m, m = s.pp - nx := ⟨_, rfl⟩
    have WR : Hid (IntKind.i64.wrap ((s.pp - nx : Nat) : Int) = ((s.pp - nx : Nat) : Int)) := by show _ = _; exact IntWalk.i64_in _ (by omega)
    clear CC e1 hc H ok SEG0 hn hR hsq hil
    go_enter Try.func46, Try.ntmps46
    go_wp2_with (fail)
    refine CC1.out.mono ?_
    clear CC1 c2
    rintro e w1 ⟨rfl, hb1⟩
    have H1 := Lib.hid (HH.out.later hb1)
    have HB := Lib.hid hb1
    have C2 : Hid (∀ wx, Below w1.heap.size w1 wx → wx.cell? ⟨p, 2, none⟩ = some (ptr pt)) := fun wx hwx => ((H1.out.later hwx).cellV 0 rfl 2 rfl).1
    have C3 : Hid (∀ wx, Below w1.heap.size w1 wx → wx.cell? ⟨p, 3, none⟩ = some (.int .u64 (q : Int))) := fun wx hwx => ((H1.out.later hwx).cellV 0 rfl 3 rfl).1
    have CR : Hid (∀ wx, Below w1.heap.size w1 wx → Calls Try.prog 30 #[ptr pt] wx fun e w' => ∃ v, e = .returned v ∧ (tyRow n (tb.rows.flatMap Tab.sgC)).holds v w' ∧ Below wx.heap.size wx w') := fun wx hwx => by rw [← HN.out]; exact t_rows (H1.out.later hwx) HOK.out hN
    clear hb1
    by_cases hq : sq = q
    · have HQE : Hid (((sq : Int) != (q : Int)) = false) := by show _ = false; simp [hq]
      have HRR : Hid (R = m) := by show R = m; rw [HR.out, if_pos hq, hm]
      go_wp2_with (fail)
      refine wp_lax_list (by kernel_rfl) (by kernel_rfl) (by kernel_rfl) ?_
      refine wpL_move (.bool true) rfl (by kernel_rfl) (by kernel_rfl) (by kernel_rfl) (by kernel_rfl) ?_
      refine wpL_run1 (x := .tmp 13) (.bool true) (.bool false) (by kernel_rfl) (by kernel_rfl) (by kernel_rfl) (by kernel_rfl) (by kernel_rfl) (fun wx ρ hwx h0 hc => by simp [go_sem, h0]) ?_
      refine wpL_move (.bool false) rfl (by kernel_rfl) (by kernel_rfl) (by kernel_rfl) (by kernel_rfl) ?_
      refine wpL_move (ptr p) rfl (by kernel_rfl) (by kernel_rfl) (by kernel_rfl) (by kernel_rfl) ?_
      refine wpL_run1 (x := .tmp 16) (ptr p) (ptr p) (by kernel_rfl) (by kernel_rfl) (by kernel_rfl) (by kernel_rfl) (by kernel_rfl) (fun wx ρ hwx h0 hc => by simp [go_sem, h0]) ?_
      refine wpL_run1 (x := .tmp 17) (ptr p) (.pointer (some ⟨p, 2, none⟩)) (by kernel_rfl) (by kernel_rfl) (by kernel_rfl) (by kernel_rfl) (by kernel_rfl) (fun wx ρ hwx h0 hc => by simp [go_sem, h0]) ?_
      refine wpL_run1 (x := .tmp 18) (.pointer (some ⟨p, 2, none⟩)) (ptr pt) (by kernel_rfl) (by kernel_rfl) (by kernel_rfl) (by kernel_rfl) (by kernel_rfl) (fun wx ρ hwx h0 hc => by simp [h0, go_sem, C2.out wx hwx]) ?_
      refine wpL_fnT (tyRow n (tb.rows.flatMap Tab.sgC)) [ptr pt] rfl rfl (by kernel_rfl) (by kernel_rfl) (by kernel_rfl) (by kernel_rfl) (fun _ _ => by simp [go_sem]) (fun wx hwx => CR.out wx hwx) ?_
      refine wpL_move (.int .i64 (i : Int)) rfl (by kernel_rfl) (by kernel_rfl) (by kernel_rfl) (by kernel_rfl) ?_
      refine wpL_seeT (t := 20) (R := tyRow n (tb.rows.flatMap Tab.sgC)) (tyAt 1 (.int .u64 (sq : Int))) rfl rfl (by simp [Op.operands]) (by kernel_rfl) (by kernel_rfl) (by kernel_rfl) (by kernel_rfl) (fun u wx hwx hu ρ h0 hk => SEG.out _ _ _ rfl u wx hu ρ h0 ((hk (.tmp 21) (by kernel_rfl)).trans rfl)) ?_
      refine wpL_seeT (t := 22) (R := tyAt 1 (.int .u64 (sq : Int))) (tyAt 0 (.int .u64 (sq : Int))) rfl rfl (by simp [Op.operands]) (by kernel_rfl) (by kernel_rfl) (by kernel_rfl) (by kernel_rfl) (fun u wx hwx hu ρ h0 hk => at_field rfl hu ρ h0) ?_
      refine wpL_see (t := 23) (R := tyAt 0 (.int .u64 (sq : Int))) (.int .u64 (sq : Int)) rfl (by simp [Op.operands]) (by kernel_rfl) (by kernel_rfl) (by kernel_rfl) (by kernel_rfl) (fun u wx hwx hu ρ h0 hk => at_load rfl hu ρ h0) ?_
      refine wpL_move (ptr p) rfl (by kernel_rfl) (by kernel_rfl) (by kernel_rfl) (by kernel_rfl) ?_
      refine wpL_run1 (x := .tmp 25) (ptr p) (ptr p) (by kernel_rfl) (by kernel_rfl) (by kernel_rfl) (by kernel_rfl) (by kernel_rfl) (fun wx ρ hwx h0 hc => by simp [go_sem, h0]) ?_
      refine wpL_run1 (x := .tmp 26) (ptr p) (.pointer (some ⟨p, 3, none⟩)) (by kernel_rfl) (by kernel_rfl) (by kernel_rfl) (by kernel_rfl) (by kernel_rfl) (fun wx ρ hwx h0 hc => by simp [go_sem, h0]) ?_
      refine wpL_run1 (x := .tmp 27) (.pointer (some ⟨p, 3, none⟩)) (.int .u64 (q : Int)) (by kernel_rfl) (by kernel_rfl) (by kernel_rfl) (by kernel_rfl) (by kernel_rfl) (fun wx ρ hwx h0 hc => by simp [h0, go_sem, C3.out wx hwx]) ?_
      refine wpL_run2 (x := .tmp 24) (y := .tmp 28) (.int .u64 (sq : Int)) (.int .u64 (q : Int)) (.bool false) (by kernel_rfl) (by kernel_rfl) (by kernel_rfl) (by kernel_rfl) (by kernel_rfl) (by kernel_rfl) (fun wx ρ hwx h0 h1 hc => by simp [h0, h1, go_sem, HQE.out]) ?_
      refine wpL_run2 (x := .tmp 15) (y := .tmp 29) (.bool false) (.bool false) (.bool false) (by kernel_rfl) (by kernel_rfl) (by kernel_rfl) (by kernel_rfl) (by kernel_rfl) (by kernel_rfl) (fun wx ρ hwx h0 h1 hc => by simp [go_sem, h0, h1]) ?_
      refine wpL_end (by kernel_rfl) (fun w2 hw2 v23 hv23 v22 hv22 v20 hv20 => ?_)
      simp only [FinL, setL, List.set_cons_zero, List.set_cons_succ]
      clear hv23 hv22 hv20
      have H2 := Lib.hid (H1.out.later hw2)
      have HB2 : Hid (Below w.heap.size w w2) := HB.out.trans (hw2.mono HB.out.size)
      have C0 : Hid (∀ wx, Below w2.heap.size w2 wx → wx.cell? ⟨p, 0, none⟩ = some (ptr pf)) := fun wx hwx => ((H2.out.later hwx).cellV 0 rfl 0 rfl).1
      have C4 : Hid (∀ wx, Below w2.heap.size w2 wx → wx.cell? ⟨p, 4, none⟩ = some (.int .i64 (nx : Int))) := fun wx hwx => ((H2.out.later hwx).cellV 0 rfl 4 rfl).1
      have CP : Hid (∀ wx, Below w2.heap.size w2 wx → Calls Try.prog 31 #[ptr pf] wx fun e w' => e = .returned (.int .i64 (s.pp : Int)) ∧ Below wx.heap.size wx w') := fun wx hwx => f_pages (H2.out.later hwx)
      clear hw2 C2 C3 CR SEG HB H1
      go_wp2_with (fail)
      refine wp_lax_list (by kernel_rfl) (by kernel_rfl) (by kernel_rfl) ?_
      refine wpL_move (ptr p) rfl (by kernel_rfl) (by kernel_rfl) (by kernel_rfl) (by kernel_rfl) ?_
      refine wpL_run1 (x := .tmp 31) (ptr p) (ptr p) (by kernel_rfl) (by kernel_rfl) (by kernel_rfl) (by kernel_rfl) (by kernel_rfl) (fun wx ρ hwx h0 hc => by simp [go_sem, h0]) ?_
      refine wpL_run1 (x := .tmp 32) (ptr p) (.pointer (some ⟨p, 0, none⟩)) (by kernel_rfl) (by kernel_rfl) (by kernel_rfl) (by kernel_rfl) (by kernel_rfl) (fun wx ρ hwx h0 hc => by simp [go_sem, h0]) ?_
      refine wpL_run1 (x := .tmp 33) (.pointer (some ⟨p, 0, none⟩)) (ptr pf) (by kernel_rfl) (by kernel_rfl) (by kernel_rfl) (by kernel_rfl) (by kernel_rfl) (fun wx ρ hwx h0 hc => by simp [h0, go_sem, C0.out wx hwx]) ?_
      refine wpL_fn (.int .i64 (s.pp : Int)) [ptr pf] rfl (by kernel_rfl) (by kernel_rfl) (by kernel_rfl) (by kernel_rfl) (fun _ _ => by simp [go_sem]) (fun wx hwx => CP.out wx hwx) ?_
      refine wpL_move (ptr p) rfl (by kernel_rfl) (by kernel_rfl) (by kernel_rfl) (by kernel_rfl) ?_
      refine wpL_run1 (x := .tmp 36) (ptr p) (ptr p) (by kernel_rfl) (by kernel_rfl) (by kernel_rfl) (by kernel_rfl) (by kernel_rfl) (fun wx ρ hwx h0 hc => by simp [go_sem, h0]) ?_
      refine wpL_run1 (x := .tmp 37) (ptr p) (.pointer (some ⟨p, 4, none⟩)) (by kernel_rfl) (by kernel_rfl) (by kernel_rfl) (by kernel_rfl) (by kernel_rfl) (fun wx ρ hwx h0 hc => by simp [go_sem, h0]) ?_
      refine wpL_run1 (x := .tmp 38) (.pointer (some ⟨p, 4, none⟩)) (.int .i64 (nx : Int)) (by kernel_rfl) (by kernel_rfl) (by kernel_rfl) (by kernel_rfl) (by kernel_rfl) (fun wx ρ hwx h0 hc => by simp [h0, go_sem, C4.out wx hwx]) ?_
      refine wpL_run2 (x := .tmp 35) (y := .tmp 39) (.int .i64 (s.pp : Int)) (.int .i64 (nx : Int)) (.int .i64 ((s.pp - nx : Nat) : Int)) (by kernel_rfl) (by kernel_rfl) (by kernel_rfl) (by kernel_rfl) (by kernel_rfl) (by kernel_rfl) (fun wx ρ hwx h0 h1 hc => by simp [h0, h1, go_sem, SUB.out, WR.out]) ?_
      refine wpL_assign (.int .i64 ((s.pp - nx : Nat) : Int)) rfl (by kernel_rfl) (by kernel_rfl) (by kernel_rfl) (by kernel_rfl) ?_
      refine wpL_end (by kernel_rfl) (fun w3 hw3 => ?_)
      simp only [FinL, setL, List.set_cons_zero, List.set_cons_succ]
      have HB3 : Hid (Below w.heap.size w w3) := HB2.out.trans (hw3.mono HB2.out.size)
      clear hw3 C0 C4 CP H2
      go_wp2
      go_ret
      exact ⟨by rw [HRR.out, hm]; rfl, HB3.out⟩
    · have HQE : Hid (((sq : Int) != (q : Int)) = true) := by show _ = true; simp; omega
      have HRR : Hid (R = 0) := by show R = 0; rw [HR.out, if_neg hq]
      go_wp2_with (fail)
      refine wp_lax_list (by kernel_rfl) (by kernel_rfl) (by kernel_rfl) ?_
      refine wpL_move (.bool true) rfl (by kernel_rfl) (by kernel_rfl) (by kernel_rfl) (by kernel_rfl) ?_
      refine wpL_run1 (x := .tmp 13) (.bool true) (.bool false) (by kernel_rfl) (by kernel_rfl) (by kernel_rfl) (by kernel_rfl) (by kernel_rfl) (fun wx ρ hwx h0 hc => by simp [go_sem, h0]) ?_
      refine wpL_move (.bool false) rfl (by kernel_rfl) (by kernel_rfl) (by kernel_rfl) (by kernel_rfl) ?_
      refine wpL_move (ptr p) rfl (by kernel_rfl) (by kernel_rfl) (by kernel_rfl) (by kernel_rfl) ?_
      refine wpL_run1 (x := .tmp 16) (ptr p) (ptr p) (by kernel_rfl) (by kernel_rfl) (by kernel_rfl) (by kernel_rfl) (by kernel_rfl) (fun wx ρ hwx h0 hc => by simp [go_sem, h0]) ?_
      refine wpL_run1 (x := .tmp 17) (ptr p) (.pointer (some ⟨p, 2, none⟩)) (by kernel_rfl) (by kernel_rfl) (by kernel_rfl) (by kernel_rfl) (by kernel_rfl) (fun wx ρ hwx h0 hc => by simp [go_sem, h0]) ?_
      refine wpL_run1 (x := .tmp 18) (.pointer (some ⟨p, 2, none⟩)) (ptr pt) (by kernel_rfl) (by kernel_rfl) (by kernel_rfl) (by kernel_rfl) (by kernel_rfl) (fun wx ρ hwx h0 hc => by simp [h0, go_sem, C2.out wx hwx]) ?_
      refine wpL_fnT (tyRow n (tb.rows.flatMap Tab.sgC)) [ptr pt] rfl rfl (by kernel_rfl) (by kernel_rfl) (by kernel_rfl) (by kernel_rfl) (fun _ _ => by simp [go_sem]) (fun wx hwx => CR.out wx hwx) ?_
      refine wpL_move (.int .i64 (i : Int)) rfl (by kernel_rfl) (by kernel_rfl) (by kernel_rfl) (by kernel_rfl) ?_
      refine wpL_seeT (t := 20) (R := tyRow n (tb.rows.flatMap Tab.sgC)) (tyAt 1 (.int .u64 (sq : Int))) rfl rfl (by simp [Op.operands]) (by kernel_rfl) (by kernel_rfl) (by kernel_rfl) (by kernel_rfl) (fun u wx hwx hu ρ h0 hk => SEG.out _ _ _ rfl u wx hu ρ h0 ((hk (.tmp 21) (by kernel_rfl)).trans rfl)) ?_
      refine wpL_seeT (t := 22) (R := tyAt 1 (.int .u64 (sq : Int))) (tyAt 0 (.int .u64 (sq : Int))) rfl rfl (by simp [Op.operands]) (by kernel_rfl) (by kernel_rfl) (by kernel_rfl) (by kernel_rfl) (fun u wx hwx hu ρ h0 hk => at_field rfl hu ρ h0) ?_
      refine wpL_see (t := 23) (R := tyAt 0 (.int .u64 (sq : Int))) (.int .u64 (sq : Int)) rfl (by simp [Op.operands]) (by kernel_rfl) (by kernel_rfl) (by kernel_rfl) (by kernel_rfl) (fun u wx hwx hu ρ h0 hk => at_load rfl hu ρ h0) ?_
      refine wpL_move (ptr p) rfl (by kernel_rfl) (by kernel_rfl) (by kernel_rfl) (by kernel_rfl) ?_
      refine wpL_run1 (x := .tmp 25) (ptr p) (ptr p) (by kernel_rfl) (by kernel_rfl) (by kernel_rfl) (by kernel_rfl) (by kernel_rfl) (fun wx ρ hwx h0 hc => by simp [go_sem, h0]) ?_
      refine wpL_run1 (x := .tmp 26) (ptr p) (.pointer (some ⟨p, 3, none⟩)) (by kernel_rfl) (by kernel_rfl) (by kernel_rfl) (by kernel_rfl) (by kernel_rfl) (fun wx ρ hwx h0 hc => by simp [go_sem, h0]) ?_
      refine wpL_run1 (x := .tmp 27) (.pointer (some ⟨p, 3, none⟩)) (.int .u64 (q : Int)) (by kernel_rfl) (by kernel_rfl) (by kernel_rfl) (by kernel_rfl) (by kernel_rfl) (fun wx ρ hwx h0 hc => by simp [h0, go_sem, C3.out wx hwx]) ?_
      refine wpL_run2 (x := .tmp 24) (y := .tmp 28) (.int .u64 (sq : Int)) (.int .u64 (q : Int)) (.bool true) (by kernel_rfl) (by kernel_rfl) (by kernel_rfl) (by kernel_rfl) (by kernel_rfl) (by kernel_rfl) (fun wx ρ hwx h0 h1 hc => by simp [h0, h1, go_sem, HQE.out]) ?_
      refine wpL_run2 (x := .tmp 15) (y := .tmp 29) (.bool false) (.bool true) (.bool true) (by kernel_rfl) (by kernel_rfl) (by kernel_rfl) (by kernel_rfl) (by kernel_rfl) (by kernel_rfl) (fun wx ρ hwx h0 h1 hc => by simp [go_sem, h0, h1]) ?_
      refine wpL_end (by kernel_rfl) (fun w2 hw2 v23 hv23 v22 hv22 v20 hv20 => ?_)
      simp only [FinL, setL, List.set_cons_zero, List.set_cons_succ]
      have HB2 : Hid (Below w.heap.size w w2) := HB.out.trans (hw2.mono HB.out.size)
      clear hv23 hv22 hv20 hw2 C2 C3 CR SEG HB H1
      go_wp2
      go_ret
      exact ⟨by rw [HRR.out]; rfl, HB2.out⟩
end
end Lga
end Go.Proofs.Ytmdphcebmgcdbaa

end
section
namespace Go.Proofs.Ytmdphcebmgcdbaa
open Go.RowKit Go.Own
namespace Lga
open Go.LogM Byt
/-- a page of one's own, in a slot -/
def tyPg (b0 : Nat) (P : List UInt8) : Ty where
  holds v w := ∃ b T, v = .slice (some ⟨b, 0, none⟩) 128 128 ∧ (ARow 156 1 (.slice (some ⟨b, 0, none⟩) 128 128) 128 (P.map byteV)).holds T w ∧ ∀ k, T k → b0 ≤ k
  keep := fun ⟨b, T, h1, h2, h3⟩ g => ⟨b, T, h1, (ARow _ _ _ _ _).keep h2 (T := fun _ => False) (U := fun _ => False) ⟨g.os, g.tape, g.output, g.size, fun k hk _ => g.block k hk, fun _ h => h.elim⟩ (fun _ _ h => h), h3⟩
section
variable {B : Nat} {w0 w : World} {Ps : List Asn} {X : Asn} {p pf pt fr pp a q nx : Nat} {s : FlaM.FS} {tb : TabM.T} {N : Nat}
theorem lies_at {F : Asn} (H : Own.St B w0 w (F :: Ps)) (j : Nat) {e : TypeId} {ao : Option Addr} {n cap : Nat} {x : List UInt8} (hj : Ps[j]? = some (ARow e 1 (.slice ao n cap) n (x.map byteV))) : Fla.Lies B w Ps ao n cap x := by
  obtain ⟨S, hS, _⟩ := H.at (j + 1) (P := ARow e 1 (.slice ao n cap) n (x.map byteV)) hj
  obtain ⟨h1, h2, h3, h4⟩ := H.rowLen (j + 1) (xs := x.map byteV) (e := e) (size := 1) (ao := ao) (n := n) (cap := cap) hj
  exact ⟨⟨(Row.view hS).live.mono (fun _ hk => hk.2), by rw [List.length_map] at h1; omega, ⟨h2, h3⟩, fun h => (h4 h).2⟩, .inl ⟨j, e, hj⟩⟩
theorem p4 {f g x t : Asn} (h : Own.St B w0 w (f :: g :: x :: t :: Ps)) : Own.St B w0 w (x :: f :: t :: Ps) := ((h.swap2.drop 1).swap2)
set_option maxRecDepth 6000 in
set_option maxHeartbeats 8000000 in
theorem begin_any (H : S3 B w0 w (AL p pf pt fr q nx) pf pt s tb Ps) (ok : FlaM.Ok s N) (hN : N ≤ 9990) (g sq k : Nat) (hk : k = fr + g) (hk2 : k ≤ 100000) :
    Calls Try.prog 72 #[ptr p, .int .i64 (g : Int), .int .u64 (sq : Int)] w fun e w' => e = .returned (errL (headL k sq s).2) ∧ S3 B w0 w' (AL p pf pt fr q nx) pf pt (headL k sq s).1.1 tb Ps := by
  have ok1 := FlaM.ok_erase ok (k : Int)
  have ok2 := FlaM.ok_barrier ok1
  obtain ⟨X, hX⟩ : ∃ X, X = headL k sq s := ⟨_, rfl⟩
  rw [← hX]
  unfold headL at hX
  obtain ⟨r1, hr1⟩ : ∃ r, r = FlaM.erase s (k : Int) := ⟨_, rfl⟩
  rw [← hr1] at hX ok1 ok2
  obtain ⟨r2, hr2⟩ : ∃ r, r = FlaM.barrier r1.1 := ⟨_, rfl⟩
  rw [← hr2] at hX ok2
  obtain ⟨P, hP⟩ : ∃ P, P = hdr sq := ⟨_, rfl⟩
  rw [← hP] at hX
  obtain ⟨r3, hr3⟩ : ∃ r, r = FlaM.progF r2.1 (k : Int) ((0 : Nat) : Int) P := ⟨_, rfl⟩
  rw [← hr3] at hX
  have HX := Lib.hid hX
  have HH := Lib.hid H
  have SUM : Hid ((fr : Int) + (g : Int) = (k : Int)) := by show _ = _; omega
  have WR : Hid (IntKind.i64.wrap (k : Int) = (k : Int)) := IntWalk.i64_in _ (by omega)
  have HI : Hid (Fla.i64B (k : Int)) := by show Fla.i64B _; unfold Fla.i64B; omega
  have C0 : Hid (∀ wx, Below w.heap.size w wx → wx.cell? ⟨p, 0, none⟩ = some (ptr pf)) := fun wx hwx => ((HH.out.later hwx).cellV 0 rfl 0 rfl).1
  have C1 : Hid (∀ wx, Below w.heap.size w wx → wx.cell? ⟨p, 1, none⟩ = some (.int .i64 (fr : Int))) := fun wx hwx => ((HH.out.later hwx).cellV 0 rfl 1 rfl).1
  have CE : Hid (∀ wx, Below w.heap.size w wx → Calls Try.prog 86 #[ptr pf, .int .i64 (k : Int)] wx fun e w' => e = .returned (errL r1.2) ∧ S3 B w0 w' (AL p pf pt fr q nx) pf pt r1.1 tb Ps) := fun wx hwx => by
    rw [hr1]
    exact f_erase (HH.out.later hwx) ok (by omega) _ HI.out
  have CB : Hid (∀ wx, S3 B w0 wx (AL p pf pt fr q nx) pf pt r1.1 tb Ps → Calls Try.prog 17 #[ptr pf] wx fun e w' => e = .returned (errL r2.2) ∧ S3 B w0 w' (AL p pf pt fr q nx) pf pt r2.1 tb Ps) := fun wx h => by
    rw [hr2]
    exact f_barrier h ok1 (by omega)
  have CG : Hid (∀ wx b, Own.St B w0 wx (Fla.AFl pf r2.1 :: ARow 156 1 (.slice (some ⟨b, 0, none⟩) 128 128) 128 (P.map byteV) :: AL p pf pt fr q nx :: Tba.A pt tb :: Ps) → Calls Try.prog 55 #[ptr pf, .int .i64 (k : Int), .int .i64 0, .slice (some ⟨b, 0, none⟩) 128 128] wx fun e w' => e = .returned (errL r3.2) ∧ S3 B w0 w' (AL p pf pt fr q nx) pf pt r3.1 tb Ps) := fun wx b h => by
    rw [hr3]
    exact (Fla.program_any h ok2 (by omega) (k : Int) ((0 : Nat) : Int) HI.out (by unfold Fla.i64B; omega) _ 128 128 P (lies_at h 0 rfl) (by decide)).mono fun e w' h => ⟨h.1, p4 h.2⟩
  have CF0 : Hid (∀ wx, Calls Try.prog 87 #[.int .u64 (sq : Int)] wx fun e w' => ∃ v, e = .returned v ∧ (∀ b0, b0 ≤ wx.heap.size → (tyPg b0 P).holds v w') ∧ Below wx.heap.size wx w') := fun wx => by
    rw [hP]
    exact (first_any sq wx).mono fun e w' ⟨b, h1, h2⟩ => ⟨_, h1, fun b0 hb0 => by
      obtain ⟨S, hS, hB, _⟩ := h2.at 0 rfl
      exact ⟨b, S, rfl, hS, fun k hk => Nat.le_trans hb0 (hB k hk)⟩, h2.below⟩
  obtain ⟨e1, s1⟩ := r1
  obtain ⟨e2, s2⟩ := r2
  obtain ⟨e3, s3⟩ := r3
  simp only at CE CB CG
  have HX2 : Hid (X = if s1 ≠ 0 then ((e1, s.pp), s1) else if s2 ≠ 0 then ((e2, s.pp), s2) else if s3 ≠ 0 then ((e3, s.pp), s3) else ((e3, 1), 0)) := HX.out
  clear hX hr1 hr2 hr3 hP ok ok1 ok2 H HX hk
  go_enter Try.func72, Try.ntmps72
  go_wp2_with (fail)
  refine wp_laxW_list 10 (by kernel_rfl) (by kernel_rfl) (by kernel_rfl) (by kernel_rfl) (by kernel_rfl) ?_
  simp only [List.take_succ_cons, List.take_zero, List.drop_succ_cons, List.drop_zero]
  refine wpL_move (ptr p) rfl (by kernel_rfl) (by kernel_rfl) (by kernel_rfl) (by kernel_rfl) ?_
  refine wpL_run1 (x := .tmp 9) (ptr p) (ptr p) (by kernel_rfl) (by kernel_rfl) (by kernel_rfl) (by kernel_rfl) (by kernel_rfl) (fun wx ρ hwx h0 hc => by simp [go_sem, h0]) ?_
  refine wpL_run1 (x := .tmp 10) (ptr p) (.pointer (some ⟨p, 0, none⟩)) (by kernel_rfl) (by kernel_rfl) (by kernel_rfl) (by kernel_rfl) (by kernel_rfl) (fun wx ρ hwx h0 hc => by simp [go_sem, h0]) ?_
  refine wpL_run1 (x := .tmp 11) (.pointer (some ⟨p, 0, none⟩)) (ptr pf) (by kernel_rfl) (by kernel_rfl) (by kernel_rfl) (by kernel_rfl) (by kernel_rfl) (fun wx ρ hwx h0 hc => by simp [h0, go_sem, C0.out wx hwx]) ?_
  refine wpL_move (ptr p) rfl (by kernel_rfl) (by kernel_rfl) (by kernel_rfl) (by kernel_rfl) ?_
  refine wpL_run1 (x := .tmp 13) (ptr p) (ptr p) (by kernel_rfl) (by kernel_rfl) (by kernel_rfl) (by kernel_rfl) (by kernel_rfl) (fun wx ρ hwx h0 hc => by simp [go_sem, h0]) ?_
  refine wpL_run1 (x := .tmp 14) (ptr p) (.pointer (some ⟨p, 1, none⟩)) (by kernel_rfl) (by kernel_rfl) (by kernel_rfl) (by kernel_rfl) (by kernel_rfl) (fun wx ρ hwx h0 hc => by simp [go_sem, h0]) ?_
  refine wpL_run1 (x := .tmp 15) (.pointer (some ⟨p, 1, none⟩)) (.int .i64 (fr : Int)) (by kernel_rfl) (by kernel_rfl) (by kernel_rfl) (by kernel_rfl) (by kernel_rfl) (fun wx ρ hwx h0 hc => by simp [h0, go_sem, C1.out wx hwx]) ?_
  refine wpL_move (.int .i64 (g : Int)) rfl (by kernel_rfl) (by kernel_rfl) (by kernel_rfl) (by kernel_rfl) ?_
  refine wpL_run2 (x := .tmp 16) (y := .tmp 17) (.int .i64 (fr : Int)) (.int .i64 (g : Int)) (.int .i64 (k : Int)) (by kernel_rfl) (by kernel_rfl) (by kernel_rfl) (by kernel_rfl) (by kernel_rfl) (by kernel_rfl) (fun wx ρ hwx h0 h1 hc => by simp [h0, h1, go_sem, SUM.out, WR.out]) ?_
  refine wpL_end (by kernel_rfl) (fun w1 hw1 => ?_)
  simp only [FinL, setL, List.set_cons_zero, List.set_cons_succ]
  intro _
  have CE1 := Lib.hid (CE.out w1 hw1)
  clear CE C0 C1 hw1
  go_wp2_with (fail)
  refine CE1.out.mono ?_
  clear CE1
  rintro e w2 ⟨rfl, h2⟩
  have H2 := Lib.hid h2
  clear h2
  by_cases hs1 : s1 = 0
  · subst hs1
    have HX3 : Hid (X = if s2 ≠ 0 then ((e2, s.pp), s2) else if s3 ≠ 0 then ((e3, s.pp), s3) else ((e3, 1), 0)) := by show X = _; rw [HX2.out, if_neg (by simp)]
    have c0 := (H2.out.cellV 0 rfl 0 rfl).1
    clear HX2
    go_wp2_with (fail)
    refine (CB.out _ H2.out).mono ?_
    clear CB c0
    rintro e w3 ⟨rfl, h3⟩
    have H3 := Lib.hid h3
    clear h3
    by_cases hs2 : s2 = 0
    · subst hs2
      have HX4 : Hid (X = if s3 ≠ 0 then ((e3, s.pp), s3) else ((e3, 1), 0)) := by show X = _; rw [HX3.out, if_neg (by simp)]
      clear HX3
      obtain ⟨b0, hb0⟩ : ∃ b, b = w3.heap.size := ⟨_, rfl⟩
      have D0 : Hid (∀ wx, Below w3.heap.size w3 wx → wx.cell? ⟨p, 0, none⟩ = some (ptr pf)) := fun wx hwx => ((H3.out.later hwx).cellV 0 rfl 0 rfl).1
      have D1 : Hid (∀ wx, Below w3.heap.size w3 wx → wx.cell? ⟨p, 1, none⟩ = some (.int .i64 (fr : Int))) := fun wx hwx => ((H3.out.later hwx).cellV 0 rfl 1 rfl).1
      have CF : Hid (∀ wx, Below w3.heap.size w3 wx → Calls Try.prog 87 #[.int .u64 (sq : Int)] wx fun e w' => ∃ v, e = .returned v ∧ (tyPg b0 P).holds v w' ∧ Below wx.heap.size wx w') := fun wx hwx => (CF0.out wx).mono fun e w' ⟨v, h1, h2, h3⟩ => ⟨v, h1, h2 b0 (by rw [hb0]; exact hwx.size), h3⟩
      have HB0 := Lib.hid hb0
      clear CF0 hb0
      go_wp2_with (fail)
      refine wp_laxW_list 12 (by kernel_rfl) (by kernel_rfl) (by kernel_rfl) (by kernel_rfl) (by kernel_rfl) ?_
      simp only [List.take_succ_cons, List.take_zero, List.drop_succ_cons, List.drop_zero]
      refine wpL_move (ptr p) rfl (by kernel_rfl) (by kernel_rfl) (by kernel_rfl) (by kernel_rfl) ?_
      refine wpL_run1 (x := .tmp 31) (ptr p) (ptr p) (by kernel_rfl) (by kernel_rfl) (by kernel_rfl) (by kernel_rfl) (by kernel_rfl) (fun wx ρ hwx h0 hc => by simp [go_sem, h0]) ?_
      refine wpL_run1 (x := .tmp 32) (ptr p) (.pointer (some ⟨p, 0, none⟩)) (by kernel_rfl) (by kernel_rfl) (by kernel_rfl) (by kernel_rfl) (by kernel_rfl) (fun wx ρ hwx h0 hc => by simp [go_sem, h0]) ?_
      refine wpL_run1 (x := .tmp 33) (.pointer (some ⟨p, 0, none⟩)) (ptr pf) (by kernel_rfl) (by kernel_rfl) (by kernel_rfl) (by kernel_rfl) (by kernel_rfl) (fun wx ρ hwx h0 hc => by simp [h0, go_sem, D0.out wx hwx]) ?_
      refine wpL_move (ptr p) rfl (by kernel_rfl) (by kernel_rfl) (by kernel_rfl) (by kernel_rfl) ?_
      refine wpL_run1 (x := .tmp 35) (ptr p) (ptr p) (by kernel_rfl) (by kernel_rfl) (by kernel_rfl) (by kernel_rfl) (by kernel_rfl) (fun wx ρ hwx h0 hc => by simp [go_sem, h0]) ?_
      refine wpL_run1 (x := .tmp 36) (ptr p) (.pointer (some ⟨p, 1, none⟩)) (by kernel_rfl) (by kernel_rfl) (by kernel_rfl) (by kernel_rfl) (by kernel_rfl) (fun wx ρ hwx h0 hc => by simp [go_sem, h0]) ?_
      refine wpL_run1 (x := .tmp 37) (.pointer (some ⟨p, 1, none⟩)) (.int .i64 (fr : Int)) (by kernel_rfl) (by kernel_rfl) (by kernel_rfl) (by kernel_rfl) (by kernel_rfl) (fun wx ρ hwx h0 hc => by simp [h0, go_sem, D1.out wx hwx]) ?_
      refine wpL_move (.int .i64 (g : Int)) rfl (by kernel_rfl) (by kernel_rfl) (by kernel_rfl) (by kernel_rfl) ?_
      refine wpL_run2 (x := .tmp 38) (y := .tmp 39) (.int .i64 (fr : Int)) (.int .i64 (g : Int)) (.int .i64 (k : Int)) (by kernel_rfl) (by kernel_rfl) (by kernel_rfl) (by kernel_rfl) (by kernel_rfl) (by kernel_rfl) (fun wx ρ hwx h0 h1 hc => by simp [h0, h1, go_sem, SUM.out, WR.out]) ?_
      refine wpL_move (.int .u64 (sq : Int)) rfl (by kernel_rfl) (by kernel_rfl) (by kernel_rfl) (by kernel_rfl) ?_
      refine wpL_fnT (tyPg b0 P) [.int .u64 (sq : Int)] rfl rfl (by kernel_rfl) (by kernel_rfl) (by kernel_rfl) (by kernel_rfl) (fun _ _ => by simp [go_sem]) (fun wx hwx => CF.out wx hwx) ?_
      refine wpL_end (by kernel_rfl) (fun w4 hw4 v42 hv42 => ?_)
      simp only [FinL, setL, List.set_cons_zero, List.set_cons_succ]
      intro _
      obtain ⟨b, T, rfl, hT, hT2⟩ := hv42
      have h4 := H3.out.adopt hw4 _ hT (fun k hk => by rw [← HB0.out]; exact hT2 k hk)
      have h5 := h4.front 2 rfl
      simp only [List.eraseIdx_cons_succ, List.eraseIdx_cons_zero] at h5
      have CG1 := Lib.hid (CG.out w4 b h5)
      clear CG hT hT2 hw4 h4 h5 D0 D1 CF H3
      go_wp2_with (fail)
      refine CG1.out.mono ?_
      clear CG1
      rintro e w5 ⟨rfl, h5⟩
      have H5 := Lib.hid h5
      clear h5
      by_cases hs3 : s3 = 0
      · subst hs3
        have HX5 : Hid (X = ((e3, 1), 0)) := by show X = _; rw [HX4.out, if_neg (by simp)]
        clear HX4
        go_wp2
        go_ret
        rw [HX5.out]
        exact ⟨rfl, H5.out⟩
      · have HX5 : Hid (X = ((e3, s.pp), s3)) := by show X = _; rw [HX4.out, if_pos hs3]
        clear HX4
        go_wp2
        go_ret
        rw [HX5.out]
        exact ⟨rfl, H5.out⟩
    · have g1 : ((s2 : Int) != 0) = true := by simp; omega
      have HX4 : Hid (X = ((e2, s.pp), s2)) := by show X = _; rw [HX3.out, if_pos hs2]
      clear HX3 hs2
      go_wp2
      go_ret
      rw [HX4.out]
      exact ⟨rfl, H3.out⟩
  · have g1 : ((s1 : Int) != 0) = true := by simp; omega
    have HX3 : Hid (X = ((e1, s.pp), s1)) := by show X = _; rw [HX2.out, if_pos hs1]
    clear HX2 hs1
    go_wp2
    go_ret
    rw [HX3.out]
    exact ⟨rfl, H2.out⟩
end
end Lga
end Go.Proofs.Ytmdphcebmgcdbaa

end
section
namespace Go.Proofs.Ytmdphcebmgcdbaa
open Go.RowKit Go.Own
namespace Lga
open Go.LogM Byt
section
variable {B : Nat} {w0 w : World} {Ps : List Asn} {p pf pt fr pp a q nx : Nat} {σ : LG} {N : Nat}
/-- a log, whole -/
abbrev LS (B : Nat) (w0 w : World) (p pf pt fr : Nat) (σ : LG) (Ps : List Asn) : Prop := S3 B w0 w (A p pf pt fr σ.fs.pp σ.tb σ.a) pf pt σ.fs σ.tb Ps
set_option maxRecDepth 6000 in
set_option maxHeartbeats 8000000 in
theorem open_any (H : LS B w0 w p pf pt fr σ Ps) (hm : Mid fr σ N) (hN : N ≤ 9900) (hc : TabM.cur σ.tb = none) :
    Calls Try.prog 54 #[ptr p] w fun e w' => e = .returned (errL (openL fr σ).2) ∧ LS B w0 w' p pf pt fr (openL fr σ).1 Ps := by
  obtain ⟨s, tb, a⟩ := σ
  simp only at hc
  obtain ⟨q, nx, hl, H1⟩ := A_to H
  simp only at hl H1
  have c2 := (H1.cellV 0 rfl 2 rfl).1
  have CO := t_open H1 hm.tb (by omega)
  obtain ⟨R, hR⟩ : ∃ R, R = openL fr ⟨s, tb, a⟩ := ⟨_, rfl⟩
  rw [← hR]
  unfold openL at hR
  simp only at hR CO
  by_cases h0 : (TabM.openT tb).2.2.2 ≠ 0
  · rw [if_pos h0] at hR
    have ho := open_err h0
    obtain ⟨⟨x1, x2, x3⟩, hx⟩ : ∃ x, x = (TabM.openT tb).2 := ⟨_, rfl⟩
    rw [ho, ← hx] at hR
    rw [ho, ← hx] at CO
    rw [← hx] at h0
    simp only at h0 hR
    have HR := Lib.hid hR
    have HL := Lib.hid hl
    have g1 : ((x3 : Int) != 0) = true := by simp; omega
    have CO2 : Hid (Calls Try.prog 71 #[ptr pt] w fun e w' => e = .returned (.tuple #[.int .i64 (x1 : Int), .int .u64 (x2 : Int), .int .i64 (x3 : Int)]) ∧ S3 B w0 w' (AL p pf pt fr q nx) pf pt s tb Ps) := CO
    clear hR CO H H1 hm hx ho h0 hc hl
    go_enter Try.func54, Try.ntmps54
    go_wp2_with (fail)
    refine CO2.out.mono ?_
    clear CO2
    rintro e w1 ⟨rfl, h1⟩
    have H2 := Lib.hid h1
    clear h1
    go_wp2
    go_ret
    rw [HR.out]
    exact ⟨rfl, A_of HL.out H2.out⟩
  · obtain ⟨i, o⟩ := opn_of hc (by simpa using h0)
    have hroom := hm.room
    simp only at hroom
    have hilt := o.lt
    have hmfs := hm.fs.segs
    simp only at hmfs
    rw [if_neg h0, o.eq] at hR
    rw [o.eq] at CO
    simp only at hR
    obtain ⟨tb', htb⟩ : ∃ t, t = (TabM.openT tb).1 := ⟨_, rfl⟩
    rw [← htb] at hR CO
    have hp2 := hm.pp
    simp only at hp2
    have hb := hl.begun o (show 1 ≤ s.pp by omega)
    have hba := hl.bare o
    rw [← htb] at hb hba
    obtain ⟨nq, hnq⟩ : ∃ n, n = tb.next := ⟨_, rfl⟩
    rw [← hnq] at hR CO hb
    obtain ⟨f1, _, _, f4, f5⟩ := head_facts hm.fs (fr + i) nq
    simp only at f1 f4 f5
    obtain ⟨k, hk⟩ : ∃ k, k = fr + i := ⟨_, rfl⟩
    rw [← hk] at hR f1 f4 f5
    obtain ⟨Z, hZ⟩ : ∃ Z, Z = headL k nq s := ⟨_, rfl⟩
    have CBG : Hid (∀ wx, S3 B w0 wx (AL p pf pt fr q nx) pf pt s tb' Ps → Calls Try.prog 72 #[ptr p, .int .i64 (i : Int), .int .u64 (nq : Int)] wx fun e w' => e = .returned (errL Z.2) ∧ S3 B w0 w' (AL p pf pt fr q nx) pf pt Z.1.1 tb' Ps) := fun wx h => by
      rw [hZ]
      exact begin_any h hm.fs (by omega) i nq k hk (by omega)
    rw [← hZ] at hR f1 f4 f5
    obtain ⟨⟨s', a'⟩, er⟩ := Z
    simp only at hR f1 f4 f5 CBG
    have HR := Lib.hid hR
    have HBG := Lib.hid hb
    have HBA := Lib.hid hba
    have F1 := Lib.hid f1
    have F4 := Lib.hid f4
    have F5 := Lib.hid f5
    have CO2 : Hid (Calls Try.prog 71 #[ptr pt] w fun e w' => e = .returned (.tuple #[.int .i64 (i : Int), .int .u64 (nq : Int), .int .i64 0]) ∧ S3 B w0 w' (AL p pf pt fr q nx) pf pt s tb' Ps) := CO
    clear hR CO H H1 hm h0 hc hl o hroom hilt hmfs htb hp2 hb hba hnq f1 f4 f5 hk hZ
    go_enter Try.func54, Try.ntmps54
    go_wp2_with (fail)
    refine CO2.out.mono ?_
    clear CO2 c2
    rintro e w1 ⟨rfl, h1⟩
    have H2 := Lib.hid h1
    clear h1
    go_wp2_with (fail)
    refine (CBG.out _ H2.out).mono ?_
    clear CBG H2
    rintro e w2 ⟨rfl, h2⟩
    have H3 := Lib.hid h2
    clear h2
    by_cases he : er = 0
    · subst he
      have q3 := H3.out.cellV 0 rfl 3 rfl
      have h4 := H3.out.storeV 0 rfl 3 (.int .u64 (nq : Int))
      simp only [List.set_cons_zero] at h4
      have q4 := h4.cellV 0 rfl 4 rfl
      have h5 := h4.storeV 0 rfl 4 (.int .i64 1)
      simp only [List.set_cons_zero] at h5
      have H5 : Hid (S3 B w0 ((w2.setCell ⟨p, 3, none⟩ (.int .u64 (nq : Int))).setCell ⟨p, 4, none⟩ (.int .i64 1)) (AL p pf pt fr nq 1) pf pt s' tb' Ps) := h5
      clear h4 h5
      go_wp2
      go_ret
      rw [HR.out]
      refine ⟨rfl, ?_⟩
      have h6 := HBG.out
      rw [← F1.out] at h6
      have h7 := A_of h6 H5.out
      show S3 B w0 _ (A p pf pt fr s'.pp tb' a') pf pt s' tb' Ps
      rw [F5.out trivial]
      exact h7
    · have g1 : ((er : Int) != 0) = true := by simp; omega
      go_wp2
      go_ret
      rw [HR.out]
      refine ⟨rfl, ?_⟩
      have h6 := HBA.out
      rw [← F1.out] at h6
      have h7 := A_of h6 H3.out
      show S3 B w0 _ (A p pf pt fr s'.pp tb' a') pf pt s' tb' Ps
      rw [F4.out he, ← F1.out]
      exact h7
set_option maxRecDepth 6000 in
set_option maxHeartbeats 8000000 in
theorem close_any (H : LS B w0 w p pf pt fr σ Ps) (hm : LgOk fr σ N) (hN : N ≤ 9900) :
    Calls Try.prog 18 #[ptr p] w fun e w' => e = .returned (errL (closeL σ).2) ∧ LS B w0 w' p pf pt fr (closeL σ).1 Ps := by
  obtain ⟨s, tb, a⟩ := σ
  obtain ⟨q, nx, hl, H1⟩ := A_to H
  simp only at hl H1
  have c2 := (H1.cellV 0 rfl 2 rfl).1
  have HH := Lib.hid H1
  have CC := t_cur H1 hm.tb (by omega)
  obtain ⟨R, hR⟩ : ∃ R, R = closeL ⟨s, tb, a⟩ := ⟨_, rfl⟩
  rw [← hR]
  unfold closeL at hR
  simp only at CC hR
  have hmtb := hm.tb
  have hmfs := hm.fs
  have hml := hm.load
  simp only at hmtb hmfs hml
  cases hc : TabM.cur tb with
  | none =>
    rw [hc] at hR
    simp only at hR
    have HR := Lib.hid hR
    have HL := Lib.hid hl
    have CC2 : Hid (Calls Try.prog 26 #[ptr pt] w fun e w' => e = .returned (.tuple #[.int .i64 0, .bool false]) ∧ Below w.heap.size w w') := by
      have e1 : Tab.curV tb = .tuple #[.int .i64 0, .bool false] := by unfold Tab.curV; rw [hc]; rfl
      rw [e1] at CC
      exact CC
    clear hR CC H H1 hm hc hl hmtb hmfs hml
    go_enter Try.func18, Try.ntmps18
    go_wp2_with (fail)
    refine CC2.out.mono ?_
    clear CC2
    rintro e w1 ⟨rfl, hb1⟩
    have H2 := Lib.hid (HH.out.later hb1)
    clear hb1
    go_wp2
    go_ret
    rw [HR.out]
    exact ⟨rfl, A_of HL.out H2.out⟩
  | some i =>
    rw [hc] at hR
    simp only at hR
    have CC2 : Hid (Calls Try.prog 26 #[ptr pt] w fun e w' => e = .returned (.tuple #[.int .i64 (i : Int), .bool true]) ∧ Below w.heap.size w w') := by
      have e1 : Tab.curV tb = .tuple #[.int .i64 (i : Int), .bool true] := by unfold Tab.curV; rw [hc]; rfl
      rw [e1] at CC
      exact CC
    have hd := barrier_dims s
    obtain ⟨r, hr⟩ : ∃ r, r = FlaM.barrier s := ⟨_, rfl⟩
    have CB : Hid (∀ wx, S3 B w0 wx (AL p pf pt fr q nx) pf pt s tb Ps → Calls Try.prog 17 #[ptr pf] wx fun e w' => e = .returned (errL r.2) ∧ S3 B w0 w' (AL p pf pt fr q nx) pf pt r.1 tb Ps) := fun wx h => by
      rw [hr]
      exact f_barrier h hmfs (by omega)
    have hsl : (TabM.sealT tb).2 = 0 := by unfold TabM.sealT; rw [hc]
    have CS : Hid (∀ wx s', S3 B w0 wx (AL p pf pt fr q nx) pf pt s' tb Ps → Calls Try.prog 36 #[ptr pt] wx fun e w' => e = .returned (errL 0) ∧ S3 B w0 w' (AL p pf pt fr q nx) pf pt s' (TabM.sealT tb).1 Ps) := fun wx s' h => by
      have := t_seal h hmtb (by omega)
      rw [hsl] at this
      exact this
    rw [← hr] at hR hd
    obtain ⟨s', er⟩ := r
    simp only at hR hd CB
    have HR := Lib.hid hR
    have HL := Lib.hid hl
    have HLS := Lib.hid (hl.sealed hml a)
    have F1 := Lib.hid hd.1
    clear hR CC H H1 hm hc hl hmtb hmfs hml hr hd hsl
    go_enter Try.func18, Try.ntmps18
    go_wp2_with (fail)
    refine CC2.out.mono ?_
    clear CC2 c2
    rintro e w1 ⟨rfl, hb1⟩
    have H2 := Lib.hid (HH.out.later hb1)
    have c0 := (H2.out.cellV 0 rfl 0 rfl).1
    clear hb1 HH
    go_wp2_with (fail)
    refine (CB.out _ H2.out).mono ?_
    clear CB H2 c0
    rintro e w2 ⟨rfl, h2⟩
    have H3 := Lib.hid h2
    have c2 := (h2.cellV 0 rfl 2 rfl).1
    clear h2
    by_cases he : er = 0
    · subst he
      go_wp2_with (fail)
      refine (CS.out _ _ H3.out).mono ?_
      clear CS H3 c2
      rintro e w3 ⟨rfl, h3⟩
      have H4 := Lib.hid h3
      clear h3
      go_wp2
      go_ret
      rw [HR.out, if_pos trivial]
      refine ⟨rfl, ?_⟩
      have h6 := HLS.out
      rw [← F1.out] at h6
      exact A_of h6 H4.out
    · have g1 : ((er : Int) != 0) = true := by simp; omega
      go_wp2
      go_ret
      rw [HR.out, if_neg he]
      refine ⟨rfl, ?_⟩
      have h6 := HL.out
      rw [← F1.out] at h6
      exact A_of h6 H3.out
set_option maxHeartbeats 4000000 in
theorem room_any (H : LS B w0 w p pf pt fr σ Ps) (hm : LgOk fr σ N) (hN : N ≤ 9800) (m : Nat) (h1 : 1 ≤ m) (hm2 : m ≤ 1000) :
    Calls Try.prog 38 #[ptr p, .int .i64 (m : Int)] w fun e w' => e = .returned (errL (readyL fr σ m).2) ∧ LS B w0 w' p pf pt fr (readyL fr σ m).1 Ps := by
  obtain ⟨q, nx, hl, H1⟩ := A_to H
  have hpp := hm.fs.pp
  have CL := left_any H1 hm.tb (by omega) (by omega) hl.low
  rw [hl.left] at CL
  obtain ⟨R, hR⟩ : ∃ R, R = readyL fr σ m := ⟨_, rfl⟩
  rw [← hR]
  have HH := Lib.hid H
  by_cases hc : (TabM.cur σ.tb).isSome = true ∧ σ.a + m ≤ σ.fs.pp
  · rw [ready_here hc.1 hc.2] at hR
    rw [if_pos hc.1] at CL
    obtain ⟨k, hk⟩ : ∃ k, k = σ.fs.pp - σ.a := ⟨_, rfl⟩
    have hkm : (k : Int) ≥ (m : Int) := by omega
    rw [← hk] at CL
    have CL1 := Lib.hid CL
    have HR := Lib.hid hR
    clear CL H H1 hl hm hpp hk hR hc
    go_enter Try.func38, Try.ntmps38
    go_wp2_with (fail)
    refine CL1.out.mono ?_
    clear CL1
    rintro e w1 ⟨rfl, hb1⟩
    have H2 := Lib.hid (HH.out.later hb1)
    clear hb1
    go_wp2
    go_ret
    rw [HR.out]
    exact ⟨rfl, H2.out⟩
  · rw [ready_shut (m := m) hm (fun hs => by rcases Nat.lt_or_ge σ.fs.pp (σ.a + m) with h2 | h2; exact h2; exact absurd ⟨hs, h2⟩ hc)] at hR
    obtain ⟨k, hk⟩ : ∃ k, k = (if (TabM.cur σ.tb).isSome = true then σ.fs.pp - σ.a else 0) := ⟨_, rfl⟩
    have hkm : ¬ (k : Int) ≥ (m : Int) := by
      rw [hk]
      split
      · rename_i hs
        have : ¬ σ.a + m ≤ σ.fs.pp := fun h => hc ⟨hs, h⟩
        omega
      · omega
    rw [← hk] at CL
    have CL1 := Lib.hid CL
    obtain ⟨m1, m2, m3, _, _⟩ := close_mid hm
    obtain ⟨Z, hZ⟩ : ∃ Z, Z = closeL σ := ⟨_, rfl⟩
    have CC : Hid (∀ wx, LS B w0 wx p pf pt fr σ Ps → Calls Try.prog 18 #[ptr p] wx fun e w' => e = .returned (errL Z.2) ∧ LS B w0 w' p pf pt fr Z.1 Ps) := fun wx h => by
      rw [hZ]
      exact close_any h hm (by omega)
    rw [← hZ] at hR m1 m2 m3
    obtain ⟨σ', er⟩ := Z
    simp only at hR m1 m2 m3 CC
    have M1 := Lib.hid m1
    have M3 := Lib.hid m3
    have HR := Lib.hid hR
    clear CL H H1 hl hm hpp hk hR hc hZ m1 m2 m3
    go_enter Try.func38, Try.ntmps38
    go_wp2_with (fail)
    refine CL1.out.mono ?_
    clear CL1
    rintro e w1 ⟨rfl, hb1⟩
    have H2 := Lib.hid (HH.out.later hb1)
    clear hb1 HH
    go_wp2_with (fail)
    refine (CC.out _ H2.out).mono ?_
    clear CC H2
    rintro e w2 ⟨rfl, h2⟩
    have H3 := Lib.hid h2
    clear h2
    by_cases he : er = 0
    · subst he
      have CO := Lib.hid (open_any H3.out M1.out (by omega) (M3.out rfl))
      have HR2 : Hid (R = openL fr σ') := by show R = _; rw [HR.out, if_neg (by simp)]
      obtain ⟨Y, hY⟩ : ∃ Y, Y = openL fr σ' := ⟨_, rfl⟩
      rw [← hY] at CO HR2
      clear HR hY M1 M3
      go_wp2_with (fail)
      refine CO.out.mono ?_
      clear CO
      rintro e w3 ⟨rfl, h3⟩
      have H4 := Lib.hid h3
      clear h3
      go_wp2
      go_ret
      rw [HR2.out]
      exact ⟨rfl, H4.out⟩
    · have g1 : ((er : Int) != 0) = true := by simp; omega
      go_wp2
      go_ret
      rw [HR.out, if_pos he]
      exact ⟨rfl, H3.out⟩
end
end Lga
end Go.Proofs.Ytmdphcebmgcdbaa

end
