/- Merged: FlbB FlbC FlbD FlbE FlbF FlbH FlbI FlaD FlbJ FlbK FlbL FlbN FlbX LaxY LgaD -/
import Derived.Lib.Hide
import Derived.Deep.RegionLaw
import Derived.Great.Walk
import Derived.Laws.Cover3
import Derived.Test.YtahjjcmeocibbaaGreatDoorQ2
import Derived.Test.YtahjjcmeocibbaaGreatDoorQ3
import Derived.Test.YtahjjcmeocibbaaGreatDoorQ4
import Derived.Test.YtahjjcmeocibbaaGreatDoorQ7
import Derived.Test.YtahjjcmeocibbaaGreatDoorQ9
set_option linter.unusedVariables false
section
namespace Go.Own
open Go.RowKit
theorem step_row_copy {P : Program} {B : Nat} {w0 w : World} {Ps : List Asn} {t8 e8 : TypeId} (h8 : P.underlying t8 = some (.slice e8)) (i8 : (P.info? e8).map (·.size) = some 1) {ops : Array Oper} {o : Oper} {a : Act} {K : Act -> World -> Prop} {Q : Exit -> Act -> World -> Prop} {E : Prop} (hgd : o.guard = none) (d s : Operand)
 (ho : o.op = .call { callee := .builtin .copy, args := #[d, s], argTypes := #[t8, t8] }) {g n cap size : Nat} {e : TypeId} {xs : List Value} (H : St B w0 w Ps) (i : Nat) (hi : Ps[i]? = some (ARow e size (.slice (some ⟨g, 0, none⟩) n cap) n xs)) (k dn dc : Nat) (hd : a.eval d = .slice (some ⟨g, k, none⟩) dn dc) (hk : k + dn <= n * size)
 (bo : Addr) (sn sc : Nat) (news : List UInt8) (hx : a.eval s = .slice (some bo) sn sc) (hl : news.length = min sn dn)
 (hc : ∀ j u, (news.map byteV)[j]? = some u -> w.cell? (bo.add j) = some u)
 (h : ∀ w', St B w0 w' (Ps.set i (ARow e size (.slice (some ⟨g, 0, none⟩) n cap) n (xs.take k ++ news.map byteV ++ xs.drop (k + news.length)))) -> K (a.put o.dst (goInt news.length)) w') :
 if Region.wanted o (yielded ops a.tmps) = true then Oper.wp P o a w K Q else E := by
 have hw : Region.wanted o (yielded ops a.tmps) = true := by simp [Region.wanted, hgd]
 rw [if_pos hw]
 have hset := St.rowCells i (news.map byteV) k w Ps xs H hi (by rw [List.length_map]; omega)
 rw [List.length_map] at hset
 have hlen := (H.rowLen i hi).1
 have hcells : ∀ j, j < (news.map byteV).length -> (w.cell? ⟨g, k + j, none⟩).isSome = true /\ w.frozen? ⟨g, k + j, none⟩ = false := by
  intro j hj
  rw [List.length_map] at hj
  obtain ⟨h1, h2⟩ := H.rowRange i hi (k + j) (by omega)
  refine ⟨?_, h2⟩
  rw [h1, List.getElem?_eq_getElem (by omega)]
  rfl
 have hrun := run_copy_cells (P := P) w t8 t8 o.type e8 g k dn dc bo sn sc (news.map byteV) h8 i8 (by rw [List.length_map, hl]) hc (fun j hj => (hcells j hj).1) (fun j hj => (hcells j hj).2) (byteV_one _)
 rw [List.length_map] at hrun
 unfold Oper.wp
 simp [execOp, ho, resolve, invoke, builtin, hd, hx, hrun, Result.andThen]
 exact h _ hset
end Go.Own
namespace Go.Proofs.YtahjjcmeocibbaaGreatDoor
open Go.RowKit Go.Own
namespace Fla
open Go.FlaM Byt
theorem getD_some {G : List (List Bs)} {n pp : Nat} (h : Shape G n pp) {i : Nat} (hi : i < n) : G[i]? = some (G.getD i []) := by
 have := h.len
 rw [List.getD_eq_getElem?_getD, List.getElem?_eq_getElem (by omega)]
 rfl
set_option maxRecDepth 10000 in
set_option maxHeartbeats 400000 in
theorem apply_erase {B : Nat} {w0 w : World} {Ps : List Asn} {v : Value} {G : List (List Bs)} {n pp : Nat} (H : Own.St B w0 w (PGrid 80 123 v G :: Ps)) (hs : Shape G n pp) (hn : n <= 256) (hp : 1 <= pp /\ pp <= 64) (seg : Nat) (hseg : seg < n) (cs : List Value) (hc1 : cs[1]? = some (.int .i64 (seg : Int))) (hc0 : cs[0]? = some (.bool true)) (ext : Int) (he : i64B ext) :
 Calls Tryz.prog 75 #[.agg cs.toArray, v, .int .i64 ext] w fun e w' => e = .returned (.tuple #[]) /\ Own.St B w0 w' (PGrid 80 123 v (clearTo G seg (min ext.toNat pp)) :: Ps) := by
 have hsome := getD_some hs hseg
 have HW := Lib.hid (wide_of hs seg hseg)
 have hrl := hs.rows seg hseg
 have hgl := hs.len
 have HCL := Lib.hid (clear_row G seg (min ext.toNat pp) (by omega))
 obtain ⟨row, hrow⟩ : ∃ r, r = G.getD seg [] := ⟨_, rfl⟩
 rw [<- hrow] at hsome hrl HW HCL
 have hbox := (H.boxV 142 cs)
 have c0 := (hbox.cellV 0 rfl 0 hc0).1
 have c1 := (hbox.cellV 0 rfl 1 hc1).1
 obtain ⟨g, c, ⟨ao, cap⟩, Qs, rfl, cg, hR, put⟩ := (hbox.swap2).pRowAt seg row hsome
 have HR := Lib.hid hR
 have HPUT := Lib.hid put
 obtain ⟨n0, hn0⟩ : ∃ m, m = ext.toNat := ⟨_, rfl⟩
 obtain ⟨m, hm⟩ : ∃ m, m = min n0 pp := ⟨_, rfl⟩
 rw [<- hn0, <- hm] at HCL ⊢
 have hrlen := hR.rowLen 0 rfl
 obtain ⟨b, rfl, _, _, _⟩ := hR.rowAt 0 rfl 0 (by omega)
 obtain ⟨l, hl⟩ : ∃ l, l = G.length := ⟨_, rfl⟩
 have hsl : seg < l := by omega
 have hl2 : l <= 256 := by omega
 rw [<- hl] at HPUT ⊢
 obtain ⟨k, hk⟩ : ∃ k, k = row.length := ⟨_, rfl⟩
 have CG : Hid ((w.alloc (.cells cs.toArray 142)).cell? ⟨g, seg, none⟩ = some (.slice (some ⟨b, 0, none⟩) k cap)) := by rw [hk]; exact cg
 have cg2 := CG.out
 have hkp : k = pp := by omega
 have hkc : k <= cap := by omega
 have hmk : m <= k := by omega
 have hmc : m <= cap := by omega
 have HK := Lib.hid hk
 have hcapM : cap <= maxLen := hrlen.2.2.1
 have hn0b : n0 <= 9223372036854775807 := by have := he.2; omega
 have hmax : ∀ wx, (Builtin.max_ #[3, 3] 3 #[.int .i64 ext, .int .i64 0]).run Tryz.prog wx = .ok (.int .i64 (n0 : Int)) wx := by
  intro wx
  rw [show (n0 : Int) = max ext 0 by omega]
  simp [Builtin.max_, Builtin.max2, go_sem]
  try omega
 have hmin : ∀ wx, (Builtin.min_ #[3, 3] 3 #[.int .i64 (n0 : Int), .int .i64 (k : Int)]).run Tryz.prog wx = .ok (.int .i64 (m : Int)) wx := by
  intro wx
  rw [show (m : Int) = min (n0 : Int) (k : Int) by omega]
  simp [Builtin.min_, Builtin.min2, go_sem]
  try omega
 have CW := wipe_st hR HW.out m (by omega) (by omega)
 have CW2 := Lib.hid CW
 clear hbox hR put hsome hrl hgl hn0 hm hl hk cg CG hc0 hc1 H CW hrlen hrow HW HR hs he hkp
 unfold maxLen at hcapM
 go_enter Tryz.func75, Tryz.ntmps75
 go_wp2_with (fail)
 refine CW2.out.mono ?_
 rintro e w1 ⟨rfl, h1⟩
 have H1 := Lib.hid (HPUT.out w1 _ (wipeTo_len row m) h1)
 clear h1
 go_wp2
 refine bodyPost_ret (results_none rfl _ _ _) rfl ?_
 exact ⟨rfl, by rw [HCL.out]; exact H1.out.drop2⟩
theorem flat_cells {row : List Bs} (h : Wide row) (k : Nat) (hk : k < row.length) (b : Bs) (m : Nat) (hb : b.length = 128) (hm : m <= 128) :
 ((row.set k (b.take m ++ (row.getD k []).drop m)).flatten.map byteV) = (row.flatten.map byteV).take (k * 128) ++ (b.take m).map byteV ++ (row.flatten.map byteV).drop (k * 128 + m) := by
 rw [flat_set k _ h hk, List.map_append, List.map_append, List.map_append, <- flat_page k h hk]
 have hfl := flat_len h
 obtain ⟨D, hD⟩ : ∃ D, D = row.flatten.drop (k * 128) := ⟨_, rfl⟩
 have hDl : 128 <= D.length := by rw [hD, List.length_drop, hfl]; omega
 have e1 : row.flatten.drop (k * 128 + m) = D.drop m := by rw [hD, List.drop_drop]
 have e2 : row.flatten.drop ((k + 1) * 128) = D.drop 128 := by rw [hD, List.drop_drop, show k * 128 + 128 = (k + 1) * 128 by omega]
 have e3 : D.drop m = (D.take 128).drop m ++ D.drop 128 := by
  have h1 : (D.take 128 ++ D.drop 128).drop m = (D.take 128).drop m ++ D.drop 128 := List.drop_append_of_le_length (by rw [List.length_take]; omega)
  rw [List.take_append_drop] at h1
  exact h1
 rw [<- hD, <- List.map_drop, e1, e2, e3, List.map_append, List.map_take]
 simp only [List.append_assoc]
set_option maxRecDepth 10000 in
set_option maxHeartbeats 800000 in
theorem apply_prog {B : Nat} {w0 w : World} {Ps : List Asn} {v : Value} {G : List (List Bs)} {n pp : Nat} (H : Own.St B w0 w (PGrid 80 123 v G :: Ps)) (hs : Shape G n pp) (hn : n <= 256) (hp : 1 <= pp /\ pp <= 64) (seg page : Nat) (hseg : seg < n) (hpage : page < pp) (cs : List Value) (b : Bs) (hb : b.length = 128) (hc0 : cs[0]? = some (.bool false)) (hc1 : cs[1]? = some (.int .i64 (seg : Int))) (hc2 : cs[2]? = some (.int .i64 (page : Int))) (hc3 : ∀ j, j < 128 -> cs[3 + j]? = some (byteV (b.getD j 0))) (ext : Int) (he : i64B ext) :
 Calls Tryz.prog 75 #[.agg cs.toArray, v, .int .i64 ext] w fun e w' => e = .returned (.tuple #[]) /\ Own.St B w0 w' (PGrid 80 123 v (setPage G seg page (b.take (min ext.toNat 128) ++ (pageAt G seg page).drop (min ext.toNat 128))) :: Ps) := by
 have hsome := getD_some hs hseg
 have HW := Lib.hid (wide_of hs seg hseg)
 have hrl := hs.rows seg hseg
 have hgl := hs.len
 obtain ⟨row, hrow⟩ : ∃ r, r = G.getD seg [] := ⟨_, rfl⟩
 have HRW := Lib.hid hrow
 unfold pageAt setPage
 rw [<- hrow] at hsome hrl HW ⊢
 have hbox := (H.boxV 142 cs)
 have c0 := (hbox.cellV 0 rfl 0 hc0).1
 have c1 := (hbox.cellV 0 rfl 1 hc1).1
 have c2 := (hbox.cellV 0 rfl 2 hc2).1
 have CB := Lib.hid (fun (j : Nat) (hj : j < 128) => (hbox.cellV 0 rfl (3 + j) (hc3 j hj)).1)
 obtain ⟨g, c, ⟨ao, cap⟩, Qs, rfl, cg, hR, put⟩ := (hbox.swap2).pRowAt seg row hsome
 have HPUT := Lib.hid put
 obtain ⟨n0, hn0⟩ : ∃ m, m = ext.toNat := ⟨_, rfl⟩
 obtain ⟨m, hm⟩ : ∃ m, m = min n0 128 := ⟨_, rfl⟩
 rw [<- hn0, <- hm]
 have hrlen := hR.rowLen 0 rfl
 obtain ⟨bb, rfl, h1x, h2x, h3x⟩ := hR.rowAt 0 rfl 0 (by omega)
 have HR := Lib.hid hR
 clear h1x h2x h3x
 obtain ⟨l, hl⟩ : ∃ l, l = G.length := ⟨_, rfl⟩
 have hsl : seg < l := by omega
 have hl2 : l <= 256 := by omega
 rw [<- hl] at HPUT ⊢
 obtain ⟨k, hk⟩ : ∃ k, k = row.length := ⟨_, rfl⟩
 have CG : Hid ((w.alloc (.cells cs.toArray 142)).cell? ⟨g, seg, none⟩ = some (.slice (some ⟨bb, 0, none⟩) k cap)) := by rw [hk]; exact cg
 have cg2 := CG.out
 have hkc : k <= cap := by omega
 have hpk : page < k := by omega
 have hpk2 : k <= 64 := by omega
 have hm128 : m <= 128 := by omega
 have hn0b : n0 <= 9223372036854775807 := by have := he.2; omega
 have HK := Lib.hid hk
 have HB := Lib.hid hb
 have HM := Lib.hid hm
 have hmax : ∀ wx, (Builtin.max_ #[3, 3] 3 #[.int .i64 ext, .int .i64 0]).run Tryz.prog wx = .ok (.int .i64 (n0 : Int)) wx := by
  intro wx
  rw [show (n0 : Int) = max ext 0 by omega]
  simp [Builtin.max_, Builtin.max2, go_sem]
  try omega
 have hmin : ∀ wx, (Builtin.min_ #[3, 3] 3 #[.int .i64 (n0 : Int), .int .i64 128]).run Tryz.prog wx = .ok (.int .i64 (m : Int)) wx := by
  intro wx
  rw [show (m : Int) = min (n0 : Int) 128 by omega]
  simp [Builtin.min_, Builtin.min2, go_sem]
  try omega
 obtain ⟨news, hnews⟩ : ∃ x, x = b.take m := ⟨_, rfl⟩
 have HN := Lib.hid hnews
 have HNL : Hid (news.length = m) := by show news.length = m; rw [hnews, List.length_take]; omega
 have HC : Hid (∀ j u, (news.map byteV)[j]? = some u -> (w.alloc (.cells cs.toArray 142)).drew.cell? ((⟨w.heap.size, 3, none⟩ : Addr).add j) = some u) := by
  intro j u hu
  have hj := (List.getElem?_eq_some_iff.1 hu).1
  rw [List.length_map, HNL.out] at hj
  rw [add_of]
  have := CB.out j (by omega)
  refine this.trans ?_
  rw [<- hu, hnews]
  have hjb : j < b.length := by omega
  simp [byteV, hj, hjb]
 clear hbox hR put hsome hrl hgl hn0 hm hl hk cg CG hc0 hc1 hc2 hc3 H hrlen hrow hs he hnews hb hp
 go_enter Tryz.func75, Tryz.ntmps75
 go_wp2_with (fail)
 have hm128i : (m : Int) <= 128 := by omega
 go_region_law (refine step_row_copy Tryz.underlying37 info8 rfl (.tmp 27) (.tmp 31) rfl HR.out.drew 0 rfl (page * 128) 128 128 (by simp [Act.eval, Act.put]) (by rw [<- HK.out]; omega) ⟨w.heap.size, 3, none⟩ m 128 news (by simp [Act.eval, Act.put]) (by rw [HNL.out]; omega) HC.out ?_; intro w2 h2; simp only [List.set_cons_zero] at h2; rw [HNL.out] at h2; rw [HNL.out]; have H2 := Lib.hid h2; clear h2)
 all_goals
  go_simp
  go_wp2
  go_end0
  refine ⟨rfl, ?_⟩
  have h := H2.out
  rw [HN.out, <- flat_cells HW.out page (by rw [<- HK.out]; exact hpk) b m HB.out hm128] at h
  have h3 := HPUT.out w2 (row.set page (b.take m ++ (row.getD page []).drop m)) (by rw [List.length_set]) (by unfold pRow; rw [List.length_set]; exact h)
  exact h3.drop2
end Fla
end Go.Proofs.YtahjjcmeocibbaaGreatDoor
end
section
namespace Go.Proofs.YtahjjcmeocibbaaGreatDoor
open Go.RowKit Go.Own
namespace Fla
open Go.FlaM Byt
def wOf (a : FlaM.Act) : Bs := if a.page < 0 then List.replicate 128 0 else a.b
def opCells (a : FlaM.Act) : List Value := [.bool (decide (a.page < 0)), .int .i64 (a.seg : Int), .int .i64 (a.page.toNat : Int)] ++ (wOf a).map byteV
theorem wOf_len {n pp : Nat} {a : FlaM.Act} (h : ActOk n pp a) : (wOf a).length = 128 := by
 unfold wOf
 split
 · simp
 · rcases h.2 with ⟨_, _, h3⟩ | ⟨h1, _⟩
   · exact h3
   · omega
theorem opCells_len {n pp : Nat} {a : FlaM.Act} (h : ActOk n pp a) : (opCells a).length = 131 := by
 unfold opCells
 rw [List.length_append, List.length_map, wOf_len h]
 rfl
theorem apply_st {B : Nat} {w0 w : World} {Ps : List Asn} {v : Value} {G : List (List Bs)} {n pp : Nat} (H : Own.St B w0 w (PGrid 80 123 v G :: Ps)) (hs : Shape G n pp) (hn : n <= 256) (hp : 1 <= pp /\ pp <= 64) (a : FlaM.Act) (ha : ActOk n pp a) (ext : Int) (he : i64B ext) :
 Calls Tryz.prog 75 #[.agg (opCells a).toArray, v, .int .i64 ext] w fun e w' => e = .returned (.tuple #[]) /\ Own.St B w0 w' (PGrid 80 123 v (doOne pp G a ext) :: Ps) := by
 unfold doOne
 by_cases h : 0 <= a.page
 · rw [if_pos h]
   rcases ha.2 with ⟨h1, h2, h3⟩ | ⟨h1, _⟩
   · have hw : wOf a = a.b := by unfold wOf; rw [if_neg (by omega)]
     exact apply_prog H hs hn hp a.seg a.page.toNat ha.1 (by omega) (opCells a) a.b h3 (by simp [opCells]; omega) rfl rfl (fun j hj => by
      unfold opCells
      rw [hw, Nat.add_comm]
      simp [h3, hj]) ext he
   · omega
 · rw [if_neg h]
   exact apply_erase H hs hn hp a.seg ha.1 (opCells a) rfl (by simp [opCells]; omega) ext he
abbrev flCells (pp : Nat) (vN vS vP vW : Value) (n : Nat) (off armed : Bool) (lf : Int) : List Value := [.int .i64 (pp : Int), vN, vS, vP, vW, .int .i64 (n : Int), .bool off, .bool armed, .int .i64 lf]
set_option maxHeartbeats 1600000 in
theorem begin_st {B : Nat} {w0 w : World} {Ps : List Asn} {p pp : Nat} {vN vS vP vW : Value} {n : Nat} {off armed : Bool} {lf : Int} (H : Own.St B w0 w (AVals p 79 (flCells pp vN vS vP vW n off armed lf) :: Ps)) (hn : n <= 1000000) (hl : i64B lf) (hle : armed = true -> 0 <= lf) :
 Calls Tryz.prog 35 #[ptr p] w fun e w' => if (off || (armed && decide (lf = 0))) = true then e = .returned (errV 6) /\ Own.St B w0 w' (AVals p 79 (flCells pp vN vS vP vW n true armed lf) :: Ps)
  else e = .returned (errV 0) /\ Own.St B w0 w' (AVals p 79 (flCells pp vN vS vP vW (n + 1) false armed (if armed then lf - 1 else lf)) :: Ps) := by
 obtain ⟨l1, l2⟩ := hl
 have c6 := (H.cellV 0 rfl 6 rfl)
 have c7 := (H.cellV 0 rfl 7 rfl)
 have c8 := (H.cellV 0 rfl 8 rfl)
 have c5 := (H.cellV 0 rfl 5 rfl)
 have H0 := Lib.hid H
 clear H
 go_enter Tryz.func35, Tryz.ntmps35
 cases off <;> cases armed
 · have H1 := Lib.hid (H0.out.storeV 0 rfl 5 (.int .i64 ((n : Int) + 1)))
   clear hle
   go_wp2
   go_ret
   simp only
   exact ⟨rfl, H1.out⟩
 · have hle2 := hle rfl
   clear hle
   by_cases hz : lf = 0
   · have H1 := Lib.hid (H0.out.storeV 0 rfl 6 (.bool true))
     go_wp2
     go_ret
     subst hz
     simp only
     exact ⟨rfl, H1.out⟩
   · have h1 := (H0.out.storeV 0 rfl 8 (.int .i64 (lf - 1)))
     have H1 := Lib.hid (h1.storeV 0 rfl 5 (.int .i64 ((n : Int) + 1)))
     have c5 := (h1.cellV 0 rfl 5 rfl)
     clear h1
     go_wp2
     go_ret
     simp only
     exact ⟨rfl, H1.out⟩
 · clear hle
   go_wp2
   go_ret
   simp only
   exact ⟨rfl, H0.out⟩
 · have hle2 := hle rfl
   clear hle
   by_cases hz : lf = 0
   · have H1 := Lib.hid (H0.out.storeV 0 rfl 6 (.bool true))
     go_wp2
     go_ret
     simp only
     subst hz
     exact ⟨rfl, H1.out⟩
   · go_wp2
     go_ret
     simp only
     exact ⟨rfl, H0.out⟩
theorem retB {a b : Bool} (h : a = b) : Ending.returned (.bool a) = .returned (.bool b) := by rw [h]
theorem hasSeg_st {B : Nat} {w0 w : World} {Ps : List Asn} {p pp nS cN : Nat} {aN : Option Addr} {vS vP vW : Value} {n : Nat} {off armed : Bool} {lf : Int} (H : Own.St B w0 w (AVals p 79 (flCells pp (.slice aN nS cN) vS vP vW n off armed lf) :: Ps)) (seg : Int) :
 Calls Tryz.prog 120 #[ptr p, .int .i64 seg] w fun e w' => e = .returned (.bool (decide (0 <= seg /\ seg < (nS : Int)))) /\ w' = w := by
 have c1 := (H.cellV 0 rfl 1 rfl).1
 clear H
 go_enter Tryz.func120, Tryz.ntmps120
 by_cases h0 : 0 <= seg
 · by_cases h1 : seg < (nS : Int)
   · go_wp2
     go_ret
     exact ⟨retB (by first | (simp; done) | (simp; omega) | (rw [Bool.eq_iff_iff]; simp; omega)), rfl⟩
   · go_wp2
     go_ret
     exact ⟨retB (by first | (simp; done) | (simp; omega) | (rw [Bool.eq_iff_iff]; simp; omega)), rfl⟩
 · go_wp2
   go_ret
   exact ⟨retB (by first | (simp; done) | (simp; omega) | (rw [Bool.eq_iff_iff]; simp; omega)), rfl⟩
theorem hasPage_st {B : Nat} {w0 w : World} {Ps : List Asn} {p pp nS cN : Nat} {aN : Option Addr} {vS vP vW : Value} {n : Nat} {off armed : Bool} {lf : Int} (H : Own.St B w0 w (AVals p 79 (flCells pp (.slice aN nS cN) vS vP vW n off armed lf) :: Ps)) (seg page : Int) :
 Calls Tryz.prog 96 #[ptr p, .int .i64 seg, .int .i64 page] w fun e w' => e = .returned (.bool (decide (0 <= seg /\ seg < (nS : Int) /\ 0 <= page /\ page < (pp : Int)))) /\ w' = w := by
 have CS := Lib.hid (hasSeg_st H seg)
 have c0 := (H.cellV 0 rfl 0 rfl).1
 clear H
 go_enter Tryz.func96, Tryz.ntmps96
 go_wp2_with (fail)
 refine CS.out.mono ?_
 clear CS
 by_cases hs : 0 <= seg /\ seg < (nS : Int)
 · rw [decide_eq_true hs]
   rintro e w1 ⟨rfl, rfl⟩
   by_cases h0 : 0 <= page
   · by_cases h1 : page < (pp : Int)
     · go_wp2
       go_ret
       exact ⟨retB (by first | (simp; done) | (simp; omega) | (rw [Bool.eq_iff_iff]; simp; omega)), rfl⟩
     · go_wp2
       go_ret
       exact ⟨retB (by first | (simp; done) | (simp; omega) | (rw [Bool.eq_iff_iff]; simp; omega)), rfl⟩
   · go_wp2
     go_ret
     exact ⟨retB (by first | (simp; done) | (simp; omega) | (rw [Bool.eq_iff_iff]; simp; omega)), rfl⟩
 · rw [decide_eq_false hs]
   rintro e w1 ⟨rfl, rfl⟩
   go_wp2
   go_ret
   exact ⟨retB (by first | (simp; done) | (simp; omega) | (rw [Bool.eq_iff_iff]; simp; omega)), rfl⟩
end Fla
end Go.Proofs.YtahjjcmeocibbaaGreatDoor
end
section
namespace Go.Proofs.YtahjjcmeocibbaaGreatDoor
open Go.RowKit Go.Own
namespace Fla
open Go.FlaM Byt
theorem range_map (l : List Value) (n : Nat) (h : l.length = n) : (List.range n).map (fun i => l.getD i undef) = l := by
 apply List.ext_getElem
 · simp [h]
 · intro i h1 h2
   simp [List.getD, h2]
theorem zero_op : (Tryz.prog.info? 142).map (fun i => (i.size, i.bytes)) = some (131, 152) := by kernel_rfl
theorem slot_op (f : Nat -> Value) : Tryz.prog.builtSlice 142 1 [(0, .agg ((List.range 131).map f).toArray)] = some ((List.range 131).map f).toArray := by kernel_rfl
theorem run_slot_op (cs : List Value) (hl : cs.length = 131) (w : World) : (Instr.buildSlice 77 1 #[(0, .agg cs.toArray)]).run Tryz.prog w = .ok (.slice (some ⟨w.heap.size, 0, none⟩) 1 1) (w.alloc (.cells cs.toArray 142)) := by
 have h : Tryz.prog.builtSlice 142 1 [(0, .agg cs.toArray)] = some cs.toArray := by
  have h := slot_op (fun i => cs.getD i undef)
  rw [range_map cs 131 hl] at h
  exact h
 unfold Program.builtSlice at h
 cases hie : Tryz.prog.info? 142 with
 | none => simp [hie] at h
 | some ie =>
  simp only [hie] at h
  cases hz : ie.zero with
  | none => simp [hz] at h
  | some z =>
   simp only [hz] at h
   by_cases hc : 1 * ie.size > 2 ^ 24 \/ 1 * ie.size = 0
   · simp only [Nat.one_mul] at hc
     simp at h
     omega
   · rw [if_neg hc] at h
     have h1 : ¬ (1 * ie.size > 2 ^ 24) := fun h' => hc (Or.inl h')
     have h2 : ¬ (1 * ie.size = 0) := fun h' => hc (Or.inr h')
     simp only [Nat.one_mul] at h1 h2 h
     simp [Instr.buildSlice, run_underlying Tryz.underlying77, sizeOf, typeInfo, zeroValue, hie, hz, newRow, h1, h2, h]
theorem one_op {n pp : Nat} {a : FlaM.Act} : ∀ u ∈ opCells a, u.oneCell' = true := by
 intro u hu
 unfold opCells at hu
 rcases List.mem_append.1 hu with h | h
 · simp at h
   rcases h with rfl | rfl | rfl <;> rfl
 · exact byteV_one _ u h
theorem load_op (cs : List Value) (hl : cs.length = 131) {w : World} {b o : Nat} (hr : w.rangeAt b o cs) : (Instr.loadAt 142 (.pointer (some ⟨b, o, none⟩))).run Tryz.prog w = .ok (.agg cs.toArray) w := by
 obtain ⟨i, h1, h2⟩ := Option.map_eq_some_iff.1 zero_op
 simp only [Prod.mk.injEq] at h2
 exact run_loadAt_mid (P := Tryz.prog) w b o 142 cs _ hr Tryz.underlying142 rfl (by rw [h1, hl]; simp [h2.1])
theorem load_opE (cs : List Value) (hl : cs.length = 131) {o : Oper} {x : Tmp} (ho : o.op = .load 142 (.tmp x)) {b k : Nat} (ρ : Operand -> Value) {w : World} (hr : w.rangeAt b k cs) (h0 : ρ (.tmp x) = .pointer (some ⟨b, k, none⟩)) : (execOp ρ o).run Tryz.prog w = .ok (.value (.agg cs.toArray)) w := by
 have := load_op cs hl hr
 unfold execOp
 simp only [ho, h0, Sem.run_bind, this, Result.andThen_ok, Sem.run_pure]
theorem info_op : (Tryz.prog.info? 142).map (fun i => (i.zero.map (·.cells.size), i.size, i.bytes)) = some (some 131, 131, 152) := by kernel_rfl
theorem range_box {B : Nat} {w0 w : World} {Ps : List Asn} {b : Nat} {t : TypeId} {cs : List Value} (H : Own.St B w0 w Ps) (i : Nat) (hi : Ps[i]? = some (AVals b t cs)) : w.rangeAt b 0 cs := fun j v hv => by
 rw [Nat.zero_add]
 exact (H.cellV i hi j hv).1
theorem run_op_append {B : Nat} {w0 w : World} {Ps : List Asn} (H : Own.St B w0 w Ps) (i : Nat) {v : Value} {n : Nat} {xs : List Value} (hi : Ps[i]? = some (ARow 142 131 v n xs)) (ty : TypeId)
 (bo : Addr) (ys : List Value) (hy : ys.length = 131) (hc : ∀ j u, ys[j]? = some u -> w.cell? (bo.add j) = some u) (h1 : ∀ u ∈ ys, u.oneCell' = true) (b1 : n + 1 <= 20000) :
 ∃ v' w', (Builtin.append_ #[77, 77] ty #[v, .slice (some bo) 1 1]).run Tryz.prog w = .ok v' w' /\ Own.St B w0 w' (Ps.set i (ARow 142 131 v' (n + 1) (xs ++ ys))) := by
 obtain ⟨i0, hi0, hz⟩ := Option.map_eq_some_iff.1 info_op
 simp only [Prod.mk.injEq] at hz
 obtain ⟨hz0, hz1, hz2⟩ := hz
 obtain ⟨z, hz3, hz4⟩ := Option.map_eq_some_iff.1 hz0
 obtain ⟨S, hS, _, put⟩ := H.at i hi
 obtain ⟨v', w', T', hr, hrow, hst⟩ := run_append_row (P := Tryz.prog) w 77 ty 142 i0 z 131 152 Tryz.underlying77 hi0 hz3 hz1 hz2 hz4 (by decide) v n xs hS (some bo) 1 1 ys (by intro h; cases h) (by rw [hy]) (fun a ha j u hu => by cases ha; exact hc j u hu) h1 (by unfold maxLen; omega) (by omega)
 exact ⟨v', w', hr, put T' w' (ARow 142 131 v' (n + 1) (xs ++ ys)) hrow hst⟩
theorem slot_opE {o : Oper} {x : Tmp} (ho : o.op = .buildSlice 77 1 #[(0, .tmp x)]) (cs : List Value) (hl : cs.length = 131) (ρ : Operand -> Value) (w : World) (h0 : ρ (.tmp x) = .agg cs.toArray) : (execOp ρ o).run Tryz.prog w = .ok (.value (.slice (some ⟨w.heap.size, 0, none⟩) 1 1)) (w.alloc (.cells cs.toArray 142)) := by
 have := run_slot_op cs hl w
 unfold execOp
 simp [ho, h0, this]
theorem app_E {o : Oper} {s x : Tmp} {t1 t2 : TypeId} (ho : o.op = .call { callee := .builtin .append, args := #[.tmp s, .tmp x], argTypes := #[t1, t2] }) {ρ : Operand -> Value} {w w' : World} {v vs vx : Value} (h0 : ρ (.tmp s) = vs) (h1 : ρ (.tmp x) = vx) (hrun : (Builtin.append_ #[t1, t2] o.type #[vs, vx]).run Tryz.prog w = .ok v w') : (execOp ρ o).run Tryz.prog w = .ok (.value v) w' := by
 unfold execOp
 simp [ho, h0, h1, resolve, invoke, builtin, hrun, Result.andThen]
theorem store_E {o : Oper} {x y : Tmp} {t : TypeId} (ho : o.op = .store t (.tmp x) (.tmp y)) {ρ : Operand -> Value} {w w' : World} {a v : Value} (h0 : ρ (.tmp x) = a) (h1 : ρ (.tmp y) = v) (hrun : (Instr.storeAt t a v).run Tryz.prog w = .ok () w') : (execOp ρ o).run Tryz.prog w = .ok .skip w' := by
 unfold execOp
 simp [ho, h0, h1, hrun, Result.andThen]
set_option maxRecDepth 10000 in
set_option maxHeartbeats 800000 in
theorem perform_st {B : Nat} {w0 w : World} {Ps : List Asn} {p pp nn : Nat} {vN vS vP vW : Value} {G : List (List Bs)} {L : List FlaM.Act} {n : Nat} {off armed : Bool} {lf : Int}
 (H : Own.St B w0 w (AVals p 79 (flCells pp vN vS vP vW n off armed lf) :: PGrid 80 123 vN G :: ARow 142 131 vP L.length (L.flatMap opCells) :: Ps))
 (hs : Shape G nn pp) (hn : nn <= 256) (hp : 1 <= pp /\ pp <= 64) (a : FlaM.Act) (ha : ActOk nn pp a) (hL : L.length <= 10000) :
 Calls Tryz.prog 97 #[ptr p, .agg (opCells a).toArray] w fun e w' => e = .returned (.tuple #[]) /\ ∃ vP', Own.St B w0 w' (AVals p 79 (flCells pp vN vS vP' vW n off armed lf) :: PGrid 80 123 vN (doOne pp G a 9223372036854775807) :: ARow 142 131 vP' (L ++ [a]).length ((L ++ [a]).flatMap opCells) :: Ps) := by
 obtain ⟨cs, hcs⟩ : ∃ c, c = opCells a := ⟨_, rfl⟩
 have hcl : cs.length = 131 := by rw [hcs]; exact opCells_len ha
 have HONE : Hid (∀ u ∈ cs, u.oneCell' = true) := by rw [hcs]; exact one_op (n := nn) (pp := pp)
 have hbox := H.boxV 142 cs
 obtain ⟨bx, hbx⟩ : ∃ b, b = w.heap.size := ⟨_, rfl⟩
 obtain ⟨W1, hW1⟩ : ∃ W, W = w.alloc (.cells cs.toArray 142) := ⟨_, rfl⟩
 rw [<- hbx, <- hW1] at hbox
 have H1 := Lib.hid hbox
 have HW1 := Lib.hid hW1
 have HBX := Lib.hid hbx
 have APP : Hid (∀ wx, Below W1.heap.size W1 wx -> Calls Tryz.prog 75 #[.agg cs.toArray, vN, .int .i64 9223372036854775807] wx fun e w' => e = .returned (.tuple #[]) /\ Own.St B w0 w' (PGrid 80 123 vN (doOne pp G a 9223372036854775807) :: AVals bx 142 cs :: AVals p 79 (flCells pp vN vS vP vW n off armed lf) :: ARow 142 131 vP L.length (L.flatMap opCells) :: Ps)) := by
  intro wx hwx
  have h1 := (H1.out.later hwx).front 2 rfl
  simp only [List.eraseIdx_cons_succ, List.eraseIdx_cons_zero] at h1
  rw [hcs]
  rw [hcs] at h1
  exact apply_st h1 hs hn hp a ha 9223372036854775807 (by unfold i64B; omega)
 have R1 : Hid (∀ wx, Below W1.heap.size W1 wx -> wx.rangeAt bx 0 cs) := fun wx hwx => range_box (H1.out.later hwx) 0 rfl
 have C1 : Hid (∀ wx, Below W1.heap.size W1 wx -> wx.cell? ⟨p, 1, none⟩ = some vN) := fun wx hwx => ((H1.out.later hwx).cellV 1 rfl 1 rfl).1
 have HCL := Lib.hid hcl
 have hfm : Hid ((L ++ [a]).flatMap opCells = L.flatMap opCells ++ cs) := by
  show (L ++ [a]).flatMap opCells = L.flatMap opCells ++ cs
  rw [List.flatMap_append, hcs]; simp
 rw [<- hcs]
 have hll : Hid ((L ++ [a]).length = L.length + 1) := by show (L ++ [a]).length = L.length + 1; simp
 obtain ⟨xs, hxs⟩ : ∃ x, x = L.flatMap opCells := ⟨_, rfl⟩
 obtain ⟨k, hk⟩ : ∃ x, x = L.length := ⟨_, rfl⟩
 rw [<- hxs, <- hk] at APP
 rw [<- hxs] at hfm
 rw [<- hk] at hll hL
 clear hcs hcl hbox hbx hW1 H hs hn hp ha hxs hk H1
 go_enter Tryz.func97, Tryz.ntmps97
 go_wp2_with (fail)
 rw [<- HBX.out, <- HW1.out]
 clear HBX HW1
 refine wp_laxW_list 5 (by kernel_rfl) (by kernel_rfl) (by kernel_rfl) (by kernel_rfl) (by kernel_rfl) ?_
 simp only [List.take_succ_cons, List.take_zero, List.drop_succ_cons, List.drop_zero]
 refine lxR (.tmp 3) (.pointer (some ⟨bx, 0, none⟩)) (.agg cs.toArray) (fun wx ρ hwx h0 hc => load_opE cs HCL.out rfl ρ (R1.out wx hwx) h0) ?_; refine lxM (.pointer (some ⟨p, 0, none⟩)) rfl ?_; refine lxA (.tmp 5) (.pointer (some ⟨p, 0, none⟩)) (.pointer (some ⟨p, 0, none⟩)) ?_; refine lxA (.tmp 6) (.pointer (some ⟨p, 0, none⟩)) (.pointer (some ⟨p, 1, none⟩)) ?_; refine lxR (.tmp 7) (.pointer (some ⟨p, 1, none⟩)) vN (fun wx ρ hwx h0 hc => by simp [go_sem, h0, C1.out wx hwx]) ?_
 refine wpL_end (by kernel_rfl) (fun w2 hw2 => ?_)
 simp only [FinL, setL, List.set_cons_zero, List.set_cons_succ]
 intro _
 have CA := Lib.hid (APP.out w2 hw2)
 clear APP R1 C1 hw2
 go_wp2_with (fail)
 refine CA.out.mono ?_
 clear CA
 rintro e w3 ⟨rfl, h3⟩
 have c3 := (h3.cellV 2 rfl 3 rfl).1
 have H3 := Lib.hid h3
 have LD := load_op cs HCL.out (range_box h3.drew 1 rfl)
 have BS := run_slot_op cs HCL.out w3.drew
 have h4 := (h3.drew).alloc (.cells cs.toArray 142)
 have CN : Hid (∀ j u, cs[j]? = some u -> (w3.drew.alloc (.cells cs.toArray 142)).cell? ((⟨w3.heap.size, 0, none⟩ : Addr).add j) = some u) := by
  intro j u hu
  rw [add_of, Nat.zero_add]
  exact cell_of_block (heap_alloc_new w3.drew _) (by simpa using hu)
 have H4 := Lib.hid h4
 obtain ⟨v5, w5, hr5, h5⟩ := run_op_append h4 3 rfl 77 ⟨w3.heap.size, 0, none⟩ cs HCL.out CN.out HONE.out (by omega)
 simp only [List.set_cons_zero, List.set_cons_succ] at h5
 obtain ⟨ao5, cap5, rfl⟩ := h5.rowForm 3 rfl
 have q5 := (h5.cellV 2 rfl 3 rfl)
 have H6 := Lib.hid (h5.storeV 2 rfl 3 (.slice ao5 (k + 1) cap5))
 have HR5 := Lib.hid hr5
 have Q5 := Lib.hid q5
 have C3a := Lib.hid c3
 have C3b : Hid ((w3.drew.alloc (.cells cs.toArray 142)).cell? ⟨p, 3, none⟩ = some vP) := (h4.cellV 2 rfl 3 rfl).1
 have HLD : Hid (w3.drew.rangeAt bx 0 cs) := range_box H3.out.drew 1 rfl
 clear h3 h4 h5 q5 hr5 c3 LD BS
 go_wp2_with (fail)
 refine wp_chain_list [6, 7, 10] (fun j wx => wx = match j with | 0 => w3.drew | 1 => w3.drew.alloc (.cells cs.toArray 142) | 2 => w5 | _ => w5.setCell ⟨p, 3, none⟩ (.slice ao5 (k + 1) cap5)) (by kernel_rfl) (by kernel_rfl) (by kernel_rfl) (by kernel_rfl) rfl ?_
 refine wpG_move (.pointer (some ⟨p, 0, none⟩)) rfl (by kernel_rfl) (by kernel_rfl) (by kernel_rfl) ?_
 refine wpG_move (.pointer (some ⟨p, 0, none⟩)) rfl (by kernel_rfl) (by kernel_rfl) (by kernel_rfl) ?_
 refine wpG_run1 (x := .tmp 11) (.pointer (some ⟨p, 0, none⟩)) (.pointer (some ⟨p, 0, none⟩)) (by kernel_rfl) (by kernel_rfl) (by kernel_rfl) (by kernel_rfl) (fun j wx ρ hC h0 hc => by simp [go_sem, h0]) ?_
 refine wpG_run1 (x := .tmp 12) (.pointer (some ⟨p, 0, none⟩)) (.pointer (some ⟨p, 3, none⟩)) (by kernel_rfl) (by kernel_rfl) (by kernel_rfl) (by kernel_rfl) (fun j wx ρ hC h0 hc => by simp [go_sem, h0]) ?_
 refine wpG_runU1 (x := .tmp 13) 1 (.pointer (some ⟨p, 3, none⟩)) vP (by kernel_rfl) (by kernel_rfl) (by kernel_rfl) (by kernel_rfl) (by kernel_rfl) (by kernel_rfl) (fun j wx ρ hj hC h0 hc => ?_) ?_
 · have hcell : wx.cell? ⟨p, 3, none⟩ = some vP := by
    match j, hj with
    | 0, _ => subst hC; exact C3a.out
    | 1, _ => subst hC; exact C3b.out
   simp [go_sem, h0, hcell]
 refine wpG_runU1 (x := .tmp 3) 0 (.pointer (some ⟨bx, 0, none⟩)) (.agg cs.toArray) (by kernel_rfl) (by kernel_rfl) (by kernel_rfl) (by kernel_rfl) (by kernel_rfl) (by kernel_rfl) (fun j wx ρ hj hC h0 hc => ?_) ?_
 · obtain rfl : j = 0 := by omega
   subst hC
   exact load_opE cs HCL.out rfl ρ HLD.out h0
 refine wpG_op 0 (.slice (some ⟨w3.heap.size, 0, none⟩) 1 1) _ (.inl rfl) (by kernel_rfl) (by kernel_rfl) (by kernel_rfl) (by kernel_rfl) (by kernel_rfl) (fun wx hC => ⟨_, by subst hC; exact slot_opE rfl cs HCL.out _ _ rfl, rfl⟩) ?_
 refine wpG_op 1 (.slice ao5 (k + 1) cap5) _ (.inl rfl) (by kernel_rfl) (by kernel_rfl) (by kernel_rfl) (by kernel_rfl) (by kernel_rfl) (fun wx hC => ⟨_, by subst hC; exact app_E rfl rfl rfl HR5.out, rfl⟩) ?_
 refine wpG_run1 (x := .tmp 10) (.pointer (some ⟨p, 0, none⟩)) (.pointer (some ⟨p, 0, none⟩)) (by kernel_rfl) (by kernel_rfl) (by kernel_rfl) (by kernel_rfl) (fun j wx ρ hC h0 hc => by simp [go_sem, h0]) ?_
 refine wpG_run1 (x := .tmp 18) (.pointer (some ⟨p, 0, none⟩)) (.pointer (some ⟨p, 3, none⟩)) (by kernel_rfl) (by kernel_rfl) (by kernel_rfl) (by kernel_rfl) (fun j wx ρ hC h0 hc => by simp [go_sem, h0]) ?_
 refine wpG_op 2 undef _ (.inr ⟨rfl, rfl⟩) (by kernel_rfl) (by kernel_rfl) (by kernel_rfl) (by kernel_rfl) (by kernel_rfl) (fun wx hC => ⟨w5.setCell ⟨p, 3, none⟩ (.slice ao5 (k + 1) cap5), by subst hC; exact store_E (a := .pointer (some ⟨p, 3, none⟩)) (v := .slice ao5 (k + 1) cap5) rfl (by kernel_rfl) (by kernel_rfl) (by simp [go_sem, Q5.out.1, Q5.out.2]), rfl⟩) ?_
 refine wpG_end (fun w9 hw9 => ?_)
 subst hw9
 simp only [setL, List.set_cons_zero, List.set_cons_succ]
 go_wp2
 go_end0
 refine ⟨rfl, .slice ao5 (k + 1) cap5, ?_⟩
 have h := H6.out
 simp only [List.set_cons_zero, List.set_cons_succ] at h
 rw [hll.out, hfm.out]
 have h2 := (h.front 2 rfl)
 simp only [List.eraseIdx_cons_succ, List.eraseIdx_cons_zero] at h2
 exact (h2.perm ((List.Perm.swap _ _ _).cons _)).perm ((List.Perm.swap _ _ _)) |>.drop 1 |>.perm (List.Perm.refl _)
end Fla
end Go.Proofs.YtahjjcmeocibbaaGreatDoor
end
section
namespace Go.Own
open Go.RowKit
end Go.Own
namespace Go.Proofs.YtahjjcmeocibbaaGreatDoor
open Go.RowKit Go.Own
namespace Fla
open Go.FlaM Byt
theorem zero_opV : ∃ z : Array Value, z.size = 131 /\ (Tryz.prog.info? 142).bind (·.zero) = some (.agg z) := by
 refine ⟨#[.bool false, .int .i64 0, .int .i64 0] ++ ((List.replicate 128 (0 : UInt8)).map byteV).toArray, by simp, ?_⟩
 kernel_rfl
theorem info_opL (cs : List Value) (h : cs.length = 131) : (Tryz.prog.info? 142).map (·.size) = some cs.toArray.size := by
 have h0 : (Tryz.prog.info? 142).map (fun i => i.size) = some 131 := by kernel_rfl
 rw [List.size_toArray, h]
 exact h0
theorem fn_enter {o : Oper} {x y : Tmp} {ts : Array TypeId} (ho : o.op = .call { callee := .value (.tmp x), args := #[.tmp y], argTypes := ts }) (f : FuncId) (caps : Array Value) (hfn : ∀ (args : Array Value) w, (callFunc f args).run Tryz.prog w = .ok (.enter f args) w) (ρ : Operand -> Value) {v : Value} (h0 : ρ (.tmp x) = .func (.func f) #[] caps) (h1 : ρ (.tmp y) = v) (w : World) :
 (execOp ρ o).run Tryz.prog w = .ok (.enter f (#[v] ++ caps)) w := by
 unfold execOp
 simp [ho, resolve, h0, h1, Deferred.ofValue, invoke, go_sem, hfn]
set_option maxRecDepth 10000 in
set_option maxHeartbeats 1600000 in
theorem settle_st {B : Nat} {w0 w : World} {Ps : List Asn} {p pp nn : Nat} {vN vS vP vW : Value} {G : List (List Bs)} {L : List FlaM.Act} {n : Nat} {off armed : Bool} {lf : Int} (f : FuncId) (caps : Array Value) (φ : Nat -> Int)
 (H : Own.St B w0 w (AVals p 79 (flCells pp vN vS vP vW n off armed lf) :: PGrid 80 123 vS G :: ARow 142 131 vP L.length (L.flatMap opCells) :: Ps))
 (hs : Shape G nn pp) (hn : nn <= 256) (hp : 1 <= pp /\ pp <= 64) (hall : ∀ a ∈ L, ActOk nn pp a) (hL : L.length <= 10000) (hφ : ∀ i, i64B (φ i))
 (hent : ∀ (args : Array Value) w, (callFunc f args).run Tryz.prog w = .ok (.enter f args) w)
 (hf : ∀ (i : Nat) (wx : World) (Xs : List Asn), i < L.length -> Own.St B w0 wx (Xs ++ Ps) -> Calls Tryz.prog f (#[.int .i64 (i : Int)] ++ caps) wx fun e w' => e = .returned (.int .i64 (φ i)) /\ Below wx.heap.size wx w') :
 Calls Tryz.prog 36 #[ptr p, .func (.func f) #[] caps] w fun e w' => e = .returned (.tuple #[]) /\ Own.St B w0 w' (AVals p 79 (flCells pp vN vS (.slice none 0 0) vW n off armed lf) :: PGrid 80 123 vS (doAllF pp φ G 0 L) :: ARow 142 131 (.slice none 0 0) 0 [] :: Ps) := by
 have HALL := Lib.hid hall
 have HS := Lib.hid hs
 have HF := Lib.hid hf
 have HP := Lib.hid hp
 have HN := Lib.hid hn
 have HPHI := Lib.hid hφ
 have HENT := Lib.hid hent
 obtain ⟨R, hR⟩ : ∃ R, R = doAllF pp φ G 0 L := ⟨_, rfl⟩
 rw [<- hR]
 have HR := Lib.hid hR
 obtain ⟨aP, cP, rfl⟩ := H.rowForm 2 rfl
 obtain ⟨l, hl⟩ : ∃ l, l = L.length := ⟨_, rfl⟩
 rw [<- hl] at H hL hf
 have HLL := Lib.hid hl
 have c3 := (H.cellV 0 rfl 3 rfl).1
 have H0 := Lib.hid H
 have hflat := flat_length opCells 131 L (fun a ha => opCells_len (hall a ha))
 have HFLAT := Lib.hid hflat
 obtain ⟨z, hz1, hz2⟩ := zero_opV
 have HZ1 := Lib.hid hz1
 have HZ2 := Lib.hid hz2
 clear hall hs hf hp hn hφ hent hR hl H hflat hz1 hz2
 go_enter Tryz.func36, Tryz.ntmps36
 go_wp2
 clear c3
 go_loopw [11] (fun v wr => ∃ (k : Nat) (Gk : List (List Bs)), k <= l /\ v = .int .i64 (k : Int) /\ Shape Gk nn pp /\ R = doAllF pp φ Gk k (L.drop k) /\ Own.St B w0 wr (AVals p 79 (flCells pp vN vS (.slice aP l cP) vW n off armed lf) :: PGrid 80 123 vS Gk :: ARow 142 131 (.slice aP l cP) l (L.flatMap opCells) :: Ps)) (fun v _ => l - (intOf v).toNat)
 case atStart => exact ⟨0, G, Nat.zero_le _, rfl, HS.out, HR.out, H0.out⟩
 case round =>
  obtain ⟨k, Gk, hkl, rfl, hsh, hrk, H⟩ := hrel
  have H := Lib.hid H
  have HSH := Lib.hid hsh
  have HRK := Lib.hid hrk
  clear H0 hsh hrk
  by_cases hk : (k : Int) < (l : Int)
  · have hkn : k < l := by omega
    obtain ⟨a, hak⟩ : ∃ a, L[k]? = some a := ⟨_, List.getElem?_eq_getElem (by rw [<- HLL.out]; exact hkn)⟩
    have HAK := Lib.hid hak
    have HA := Lib.hid (HALL.out a (List.mem_of_getElem? hak))
    obtain ⟨cs, hcs⟩ : ∃ c, c = opCells a := ⟨_, rfl⟩
    have HCS := Lib.hid hcs
    have HCL : Hid (cs.length = 131) := by show cs.length = 131; rw [hcs]; exact opCells_len HA.out
    have HONE : Hid (∀ u ∈ cs, u.oneCell' = true) := by rw [hcs]; exact one_op (n := nn) (pp := pp)
    obtain ⟨g, rfl, _, _, _⟩ := H.out.rowAt 2 rfl (k * 131) (by omega)
    have RNG : Hid (wr.rangeAt g (k * 131) cs) := by
     intro j v hv
     have hj := (List.getElem?_eq_some_iff.1 hv).1
     rw [HCL.out] at hj
     have h1 := (H.out.rowRange 2 rfl (k * 131 + j) (by omega)).1
     rw [h1, flat_at opCells 131 L (fun a ha => opCells_len (HALL.out a ha)) k a HAK.out j hj, <- hcs]
     exact hv
    have IO := Lib.hid (info_opL cs HCL.out)
    have IOL : Hid ((Tryz.prog.info? 142).map (·.size) = some cs.length) := by have := info_opL cs HCL.out; rwa [List.size_toArray] at this
    have OO : Hid (cs.toArray.all (·.oneCell') = true) := all_oneCell_toArray HONE.out
    obtain ⟨b5, hb5⟩ : ∃ b, b = wr.heap.size := ⟨_, rfl⟩
    obtain ⟨W1, hW1⟩ : ∃ W, W = wr.alloc (.cells z 142) := ⟨_, rfl⟩
    have hbx := H.out.box (.cells z 142)
    have hbx2 : Own.St B w0 W1 (AVals b5 142 z.toList :: AVals p 79 (flCells pp vN vS (.slice (some ⟨g, 0, none⟩) l cP) vW n off armed lf) :: PGrid 80 123 vS Gk :: ARow 142 131 (.slice (some ⟨g, 0, none⟩) l cP) l (L.flatMap opCells) :: Ps) := by
     unfold AVals
     rw [hb5, hW1, Array.toArray_toList]
     exact hbx
    have HB5 := Lib.hid hb5
    have HW1 := Lib.hid hW1
    have TH : Hid (W1.there b5 0 cs.toArray.size) := hbx2.thereV 0 rfl (by rw [List.size_toArray, HCL.out, Array.length_toList, HZ1.out]; exact Nat.le_refl _)
    have hset := Own.St.setAll 0 cs 0 W1 _ z.toList hbx2 rfl (by rw [HCL.out, Array.length_toList, HZ1.out])
    simp only [List.set_cons_zero, List.take_zero, List.nil_append] at hset
    obtain ⟨W2, hW2⟩ : ∃ W, W = W1.setCells b5 0 cs.toArray.toList := ⟨_, rfl⟩
    have HW2 := Lib.hid hW2
    have H2 : Hid (Own.St B w0 W2 (AVals b5 142 cs :: AVals p 79 (flCells pp vN vS (.slice (some ⟨g, 0, none⟩) l cP) vW n off armed lf) :: PGrid 80 123 vS Gk :: ARow 142 131 (.slice (some ⟨g, 0, none⟩) l cP) l (L.flatMap opCells) :: Ps)) := by
     rw [hW2, List.toList_toArray]; exact hset
    have R5 : Hid (∀ wx, Below W2.heap.size W2 wx -> wx.rangeAt b5 0 cs) := fun wx hwx => range_box (H2.out.later hwx) 0 rfl
    have C2 : Hid (∀ wx, Below W2.heap.size W2 wx -> wx.cell? ⟨p, 2, none⟩ = some vS) := fun wx hwx => ((H2.out.later hwx).cellV 1 rfl 2 rfl).1
    have CF : Hid (∀ wx, Below W2.heap.size W2 wx -> Calls Tryz.prog f (#[.int .i64 (k : Int)] ++ caps) wx fun e w' => e = .returned (.int .i64 (φ k)) /\ Below wx.heap.size wx w') := fun wx hwx =>
     HF.out k wx [_, _, _, _] (by rw [<- HLL.out]; exact hkn) (H2.out.later hwx)
    obtain ⟨ext, hext⟩ : ∃ e, e = φ k := ⟨_, rfl⟩
    rw [<- hext] at CF
    have CA : Hid (∀ wx, Below W2.heap.size W2 wx -> Calls Tryz.prog 75 #[.agg cs.toArray, vS, .int .i64 ext] wx fun e w' => e = .returned (.tuple #[]) /\ Own.St B w0 w' (PGrid 80 123 vS (doOne pp Gk a ext) :: AVals b5 142 cs :: AVals p 79 (flCells pp vN vS (.slice (some ⟨g, 0, none⟩) l cP) vW n off armed lf) :: ARow 142 131 (.slice (some ⟨g, 0, none⟩) l cP) l (L.flatMap opCells) :: Ps)) := by
     intro wx hwx
     have h1 := (H2.out.later hwx).front 2 rfl
     simp only [List.eraseIdx_cons_succ, List.eraseIdx_cons_zero] at h1
     rw [hcs]
     rw [hcs] at h1
     exact apply_st h1 HSH.out HN.out HP.out a HA.out ext (by rw [hext]; exact HPHI.out k)
    have HSN : Hid (Shape (doOne pp Gk a ext) nn pp) := shape_one HSH.out a HA.out ext
    have HRN : Hid (R = doAllF pp φ (doOne pp Gk a ext) (k + 1) (L.drop (k + 1))) := by
     show R = _
     rw [HRK.out, doAllF_step pp φ L Gk k a HAK.out, hext]
    clear hak hcs hb5 hW1 hbx hbx2 hset hW2 hext HAK HA HCS HONE H HSH HRK
    go_wp2_with (first
     | (refine wpList_load_mid rfl 142 (.tmp 14) rfl g (k * 131) rfl cs _ RNG.out Tryz.underlying142 rfl IOL.out ?_)
     | (refine Fla.wpList_allocZ rfl 142 rfl z HZ2.out ?_; rw [<- HB5.out, <- HW1.out])
     | (refine wpList_store_mid rfl 142 (.tmp 5) (.tmp 15) rfl b5 0 cs.toArray rfl rfl TH.out IO.out OO.out ?_; rw [<- HW2.out]))
    clear RNG TH
    refine wp_laxW_list 8 (by kernel_rfl) (by kernel_rfl) (by kernel_rfl) (by kernel_rfl) (by kernel_rfl) ?_
    simp only [List.take_succ_cons, List.take_zero, List.drop_succ_cons, List.drop_zero]
    refine lxR (.tmp 5) (.pointer (some ⟨b5, 0, none⟩)) (.agg cs.toArray) (fun wx ρ hwx h0 hc => load_opE cs HCL.out rfl ρ (R5.out wx hwx) h0) ?_; refine lxM (.pointer (some ⟨p, 0, none⟩)) rfl ?_; refine lxA (.tmp 17) (.pointer (some ⟨p, 0, none⟩)) (.pointer (some ⟨p, 0, none⟩)) ?_; refine lxA (.tmp 18) (.pointer (some ⟨p, 0, none⟩)) (.pointer (some ⟨p, 2, none⟩)) ?_; refine lxR (.tmp 19) (.pointer (some ⟨p, 2, none⟩)) vS (fun wx ρ hwx h0 hc => by simp [go_sem, h0, C2.out wx hwx]) ?_; refine lxM (.func (.func f) #[] caps) rfl ?_; refine lxM (.int .i64 (k : Int)) rfl ?_
    refine wpL_call (.int .i64 ext) (#[.int .i64 (k : Int)] ++ caps) (by kernel_rfl) (by kernel_rfl) (by kernel_rfl) (by kernel_rfl) (fun wx => fn_enter rfl f caps HENT.out _ (by kernel_rfl) (by kernel_rfl) wx) ?_ ?_
    · clear CA
      intro wx hwx
      exact CF.out wx hwx
    refine wpL_end (by kernel_rfl) (fun w3 hw3 => ?_)
    simp only [FinL, setL, List.set_cons_zero, List.set_cons_succ]
    intro _
    have CA3 := Lib.hid (CA.out w3 hw3)
    clear CA CF R5 C2 hw3
    go_wp2_with (fail)
    refine CA3.out.mono ?_
    clear CA3
    rintro e w4 ⟨rfl, h4⟩
    have H4 := Lib.hid h4
    clear h4
    go_wp2
    go_roundw
    case rel =>
     refine ⟨k + 1, _, by omega, by go_num, HSN.out, HRN.out, ?_⟩
     have h := (H4.out.perm ((List.Perm.swap _ _ _))).drop 1
     exact h.swap2
    case measure => simp [intOf]; omega
  · have hkl2 : k = l := by omega
    have HE : Hid (R = Gk) := by
     show R = Gk
     rw [HRK.out, List.drop_of_length_le (by rw [<- HLL.out]; omega)]
     rfl
    have q := H.out.cellV 0 rfl 3 rfl
    have HF2 := Lib.hid (H.out.storeV 0 rfl 3 (.slice none 0 0))
    clear HRK HR
    go_wp2
    go_end0
    refine ⟨rfl, ?_⟩
    have h := (HF2.out.front 2 rfl).drop 1
    simp only [List.set_cons_zero, List.set_cons_succ, List.eraseIdx_cons_succ, List.eraseIdx_cons_zero, List.drop_succ_cons, List.drop_zero] at h
    rw [HE.out]
    exact ((h.rowFresh (e := 142) (size := 131)).perm (List.Perm.swap _ _ _)).perm ((List.Perm.swap _ _ _).cons _)
end Fla
end Go.Proofs.YtahjjcmeocibbaaGreatDoor
end
section
namespace Go.Proofs.YtahjjcmeocibbaaGreatDoor
open Go.RowKit Go.Own
namespace Fla
open Go.FlaM Byt
theorem manyPage : Many Tryz.prog 80 123 128 128 := ⟨Tryz.underlying80, by kernel_rfl, by decide⟩
theorem manyByte : Many Tryz.prog 37 5 1 1 := ⟨Tryz.underlying37, by kernel_rfl, by decide⟩
theorem oneRowB : One Tryz.prog 76 80 (.slice none 0 0) 24 := ⟨Tryz.underlying76, by kernel_rfl, rfl⟩
set_option maxHeartbeats 800000 in
theorem clonePages {B : Nat} {w0 w : World} {Ps : List Asn} {ao : Option Addr} {n cap : Nat} {xs : List Value} (H : Own.St B w0 w (ARow 123 128 (.slice ao n cap) n xs :: Ps)) (h1 : ∀ u ∈ xs, u.oneCell' = true) (hb : n <= 100000) :
 Calls Tryz.prog 63 #[.slice ao n cap] w fun e w' => ∃ a' c', e = .returned (.slice a' n c') /\ Own.St B w0 w' (ARow 123 128 (.slice a' n c') n xs :: ARow 123 128 (.slice ao n cap) n xs :: Ps) := by
 have hl := H.rowLen 0 rfl
 have H0 := Lib.hid H
 have HO := Lib.hid h1
 have H1 := Lib.hid (H.emptyRow 123 128)
 have HN := Lib.hid (H1.out.rowNews 1 rfl)
 have HL := Lib.hid hl
 clear H h1 hl
 go_enter Tryz.func63, Tryz.ntmps63
 rcases ao with _ | a
 · obtain ⟨rfl, rfl⟩ := HL.out.2.2.2 rfl
   have hx : xs = [] := List.eq_nil_of_length_eq_zero (by have := HL.out.1; omega)
   subst hx
   clear HN H1 HO HL
   have hq := eqlNil (P := Tryz.prog) w 80 _ none 0 0 Tryz.underlying80
   simp only [Option.isNone_none] at hq
   go_wp2
   go_ret
   exact ⟨none, 0, rfl, H0.out.rowFresh⟩
 · have hq := eqlNil (P := Tryz.prog) w 80 _ (some a) n cap Tryz.underlying80
   simp only [Option.isNone_some] at hq
   go_wp2_with (refine wpList_many_append manyPage rfl (.tmp 5) (.tmp 6) rfl H1.out 0 rfl rfl (some a) n cap xs rfl (by intro h; cases h) HL.out.1 HN.out HO.out (by omega) (by decide) ?_; intro a2 c2 w2 h2; simp only [List.set_cons_zero, Nat.zero_add, List.nil_append] at h2 ⊢; have H2 := Lib.hid h2; clear h2)
   go_ret
   exact ⟨_, _, rfl, H2.out⟩
set_option maxHeartbeats 800000 in
theorem cloneBytes {B : Nat} {w0 w : World} {Ps : List Asn} (H : Own.St B w0 w Ps) (a : Addr) (n cap : Nat) (l : Bs) (hl : l.length = n) (hc : ∀ j u, (l.map byteV)[j]? = some u -> w.cell? (a.add j) = some u) (hlt : n = 0 \/ a.block < w.heap.size) (hb : n <= 100000) :
 Calls Tryz.prog 47 #[.slice (some a) n cap] w fun e w' => ∃ a' c', e = .returned (.slice a' n c') /\ Own.St B w0 w' (AB a' n c' l :: Ps) := by
 have H1 := Lib.hid (H.emptyRow 5 1)
 have HL : Hid ((l.map byteV).length = n * 1) := by show (l.map byteV).length = n * 1; simp [hl]
 have HN : Hid (∀ a', some a = some a' -> ∀ j u, (l.map byteV)[j]? = some u -> (w.alloc (.cells #[] 5)).cell? (a'.add j) = some u) := by
  intro a' ha j u hu
  cases ha
  exact cell_alloc (hc j u hu) _
 clear H hc hlt
 have hq := eqlNil (P := Tryz.prog) w 37 _ (some a) n cap Tryz.underlying37
 simp only [Option.isNone_some] at hq
 go_enter Tryz.func47, Tryz.ntmps47
 go_wp2_with (refine wpList_many_append manyByte rfl (.tmp 5) (.tmp 6) rfl H1.out 0 rfl rfl (some a) n cap (l.map byteV) rfl (by intro h; cases h) HL.out HN.out (byteV_one _) (by omega) (by decide) ?_; intro a2 c2 w2 h2; simp only [List.set_cons_zero, Nat.zero_add, List.nil_append] at h2 ⊢; have H2 := Lib.hid h2; clear h2)
 go_ret
 exact ⟨_, _, rfl, H2.out⟩
theorem take_set_next {α : Type} (rows : List α) (d : α) (k : Nat) (row : α) (h : rows[k]? = some row) : (rows.take k ++ List.replicate (rows.length - k) d).set k row = rows.take (k + 1) ++ List.replicate (rows.length - (k + 1)) d := by
 obtain ⟨hl, rfl⟩ := List.getElem?_eq_some_iff.1 h
 have e : rows.length - k = (rows.length - (k + 1)) + 1 := by omega
 rw [e, List.replicate_succ, List.set_append_right _ _ (by rw [List.length_take]; omega), List.length_take, show k - min k rows.length = 0 by omega, List.set_cons_zero, List.take_succ_eq_append_getElem hl, List.append_assoc]
 rfl
set_option maxHeartbeats 1600000 in
theorem clone_st {B : Nat} {w0 w : World} {Ps : List Asn} {v : Value} {G : List (List Bs)} {nn pp : Nat} (H : Own.St B w0 w (PGrid 80 123 v G :: Ps)) (hs : Shape G nn pp) (hn : nn <= 256) (hp : 1 <= pp /\ pp <= 64) :
 Calls Tryz.prog 24 #[v] w fun e w' => ∃ a' c', e = .returned (.slice a' G.length c') /\ Own.St B w0 w' (PGrid 80 123 (.slice a' G.length c') G :: PGrid 80 123 v G :: Ps) := by
 have hgl := hs.len
 have HS := Lib.hid hs
 obtain ⟨l, hl⟩ : ∃ l, l = G.length := ⟨_, rfl⟩
 have hlb : l <= 256 := by omega
 have HL := Lib.hid hl
 obtain ⟨rs, hrs, ho⟩ := H.pOpen
 obtain ⟨aV, cV, rfl⟩ := ho.rowForm 0 rfl
 rw [<- hl]
 rw [<- hl] at H
 clear ho hrs rs
 obtain ⟨w1, g1, hmk, h1⟩ := St.pMake (e := 123) oneRowB H .i64 .i64 l (by omega) (by decide)
 have H1 := Lib.hid h1
 clear H h1 hl hgl hs
 go_enter Tryz.func24, Tryz.ntmps24
 go_wp2
 clear hmk
 go_loopw [10] (fun v wr => ∃ k : Nat, k <= l /\ v = .int .i64 (k : Int) /\ Own.St B w0 wr (PGrid 80 123 (.slice (some ⟨g1, 0, none⟩) l l) (G.take k ++ List.replicate (G.length - k) []) :: PGrid 80 123 (.slice aV l cV) G :: Ps)) (fun v _ => l - (intOf v).toNat)
 case atStart => exact ⟨0, Nat.zero_le _, rfl, by rw [List.take_zero, List.nil_append, Nat.sub_zero, <- HL.out]; exact H1.out⟩
 case round =>
  obtain ⟨k, hkl, rfl, H⟩ := hrel
  have H := Lib.hid H
  clear H1
  by_cases hk : (k : Int) < (l : Int)
  · have hkn : k < l := by omega
    obtain ⟨row, hrow⟩ : ∃ row, G[k]? = some row := ⟨_, List.getElem?_eq_getElem (by rw [<- HL.out]; exact hkn)⟩
    have hnn : l = nn := by rw [HL.out]; exact HS.out.len
    have hgd : G.getD k [] = row := by rw [List.getD_eq_getElem?_getD, hrow]; rfl
    have hrl : row.length = pp := by rw [<- hgd]; exact HS.out.rows k (by omega)
    obtain ⟨g, c, ⟨ar, cr⟩, Qs, hv, cg, hR, put⟩ := H.out.swap2.pRowAtX k row hrow
    simp only [Value.slice.injEq] at hv
    obtain ⟨rfl, hvl, rfl⟩ := hv
    clear hvl
    have HR := Lib.hid hR
    have PUT : Hid (∀ w' a' c', Own.St B w0 w' (pRow 123 (a', c') row :: pRow 123 (ar, cr) row :: Qs) -> ∃ (c1 : Nat), c1 = l /\ (∃ u, w'.cell? ⟨g1, k, none⟩ = some u) /\ w'.frozen? ⟨g1, k, none⟩ = false /\ Own.St B w0 (w'.setCell ⟨g1, k, none⟩ (.slice a' row.length c')) (PGrid 80 123 (.slice (some ⟨g1, 0, none⟩) l l) (G.take (k + 1) ++ List.replicate (G.length - (k + 1)) []) :: PGrid 80 123 (.slice (some ⟨g, 0, none⟩) l cV) G :: Ps)) := by
     intro w' a' c' h
     have h2 := put w' row [pRow 123 (a', c') row] rfl h
     rw [show G.set k row = G by
      obtain ⟨hl2, rfl⟩ := List.getElem?_eq_some_iff.1 hrow
      exact List.set_getElem_self hl2] at h2
     have h3 := h2.front 2 rfl
     simp only [List.cons_append, List.nil_append, List.eraseIdx_cons_succ, List.eraseIdx_cons_zero] at h3
     have hlen : (G.take k ++ List.replicate (G.length - k) ([] : List Bs)).length = l := by rw [List.length_append, List.length_take, List.length_replicate]; have := HL.out; omega
     obtain ⟨g2, c2, hv2, hcu, hfz, h4⟩ := h3.pPut k (by rw [hlen]; exact hkn)
     simp only [Value.slice.injEq, hlen] at hv2
     obtain ⟨e1, _, rfl⟩ := hv2
     cases e1
     rw [take_set_next G [] k row hrow] at h4
     exact ⟨_, rfl, hcu, hfz, h4⟩
    have CG : Hid (wr.cell? ⟨g, k, none⟩ = some (.slice ar pp cr)) := by rw [<- hrl]; exact cg
    have cg2 := CG.out
    have HRL := Lib.hid hrl
    have CC : Hid (Calls Tryz.prog 63 #[.slice ar pp cr] wr fun e w' => ∃ a' c', e = .returned (.slice a' pp c') /\ Own.St B w0 w' (pRow 123 (a', c') row :: pRow 123 (ar, cr) row :: Qs)) := by
     have h := clonePages (n := row.length) hR (byteV_one _) (by omega)
     rw [hrl] at h
     refine h.mono ?_
     rintro e w' ⟨a', c', he, h'⟩
     refine ⟨a', c', he, ?_⟩
     unfold pRow
     rw [hrl]
     exact h'
    clear hrow hgd hrl hR put cg CG H HR hnn
    go_wp2_with (fail)
    refine CC.out.mono ?_
    clear CC cg2
    rintro e w2 ⟨a2, c2, rfl, h2⟩
    obtain ⟨_, _, ⟨u, cu⟩, fu, h3⟩ := PUT.out w2 a2 c2 h2
    rw [HRL.out] at h3
    have H3 := Lib.hid h3
    clear h2 h3 PUT
    go_wp2
    go_roundw
    case rel => exact ⟨k + 1, by omega, by go_num, H3.out⟩
    case measure => simp [intOf]; omega
  · obtain rfl : k = l := by omega
    have H2 : Hid (Own.St B w0 wr (PGrid 80 123 (.slice (some ⟨g1, 0, none⟩) k k) G :: PGrid 80 123 (.slice aV k cV) G :: Ps)) := by
     have h := H.out
     rw [<- HL.out, List.take_of_length_le (by rw [<- HL.out]; exact Nat.le_refl _), Nat.sub_self, List.replicate_zero, List.append_nil] at h
     exact h
    clear H
    go_wp2
    go_ret
    exact ⟨_, _, rfl, H2.out⟩
end Fla
end Go.Proofs.YtahjjcmeocibbaaGreatDoor
end
section
namespace Go.FlaM
theorem doOne_len (pp : Nat) (G : List (List Bs)) (a : Act) (e : Int) : (doOne pp G a e).length = G.length := by
 unfold doOne
 split
 · exact setPage_len _ _ _ _
 · exact clearTo_len _ _ _
theorem nowG_len (pp : Nat) : ∀ (L : List Act) (G : List (List Bs)), (nowG pp G L).length = G.length
 | [], _ => rfl
 | a :: L, G => (nowG_len pp L _).trans (doOne_len pp G a 128)
end Go.FlaM
namespace Go.Proofs.YtahjjcmeocibbaaGreatDoor
open Go.RowKit Go.Own
namespace Fla
open Go.FlaM Byt
abbrev intV (n : Nat) : Value := .int .i64 (n : Int)
structure Hidden where
 aN : Option Addr
 cN : Nat
 aS : Option Addr
 cS : Nat
 vP : Value
 vW : Value
 armed : Bool
 lf : Int
structure HRel (x : Hidden) (s : FS) : Prop where
 i64 : i64B x.lf
 on : s.off = false -> (x.armed = true -> x.lf = s.left) /\ (x.armed = false -> s.left = -1)
 pos : x.armed = true -> 0 <= x.lf
abbrev gridT (v : Value) (G : List (List Bs)) : Asn := PGrid 80 123 v G
def flParts (p : Nat) (x : Hidden) (s : FS) : List Asn := [AVals p 79 (flCells s.pp (.slice x.aN s.safe.length x.cN) (.slice x.aS s.safe.length x.cS) x.vP x.vW s.n s.off x.armed x.lf), gridT (.slice x.aN s.safe.length x.cN) (nowG s.pp s.safe s.L), gridT (.slice x.aS s.safe.length x.cS) s.safe, ARow 142 131 x.vP s.L.length (s.L.flatMap opCells), ARow 3 1 x.vW s.wear.length (s.wear.map intV)]
def AFl (p : Nat) (s : FS) : Asn := AEx (α := { x : Hidden // HRel x s }) fun x => AJoin (flParts p x.1 s)
section
variable {B : Nat} {w0 w : World} {Ps : List Asn} {p : Nat} {s : FS}
theorem flOpen (H : Own.St B w0 w (AFl p s :: Ps)) : ∃ x, HRel x s /\ Own.St B w0 w (flParts p x s ++ Ps) := by
 obtain ⟨⟨x, hx⟩, h⟩ := H.openE
 exact ⟨x, hx, h.openJ⟩
theorem flClose {x : Hidden} (hx : HRel x s) (H : Own.St B w0 w (flParts p x s ++ Ps)) : Own.St B w0 w (AFl p s :: Ps) :=
 St.closeE (α := { x : Hidden // HRel x s }) (P := fun x => AJoin (flParts p x.1 s)) ⟨x, hx⟩ H.closeJ
theorem segs_any {N : Nat} (H : Own.St B w0 w (AFl p s :: Ps)) (ok : Ok s N) : Calls Tryz.prog 25 #[ptr p] w fun e w' => e = .returned (errV s.safe.length) /\ Below w.heap.size w w' := by
 obtain ⟨x, _, h⟩ := flOpen H
 have c1 := (h.cellV 0 rfl 1 rfl).1
 have := ok.segs
 go_enter Tryz.func25, Tryz.ntmps25
 go_wp2
 go_ret
 exact ⟨rfl, Below.refl _ _⟩
theorem pages_any (H : Own.St B w0 w (AFl p s :: Ps)) : Calls Tryz.prog 27 #[ptr p] w fun e w' => e = .returned (errV s.pp) /\ Below w.heap.size w w' := by
 obtain ⟨x, _, h⟩ := flOpen H
 have c1 := (h.cellV 0 rfl 0 rfl).1
 go_enter Tryz.func27, Tryz.ntmps27
 go_wp2
 go_ret
 exact ⟨rfl, Below.refl _ _⟩
theorem cut_any (H : Own.St B w0 w (AFl p s :: Ps)) (after : Int) (ha : i64B after) : Calls Tryz.prog 8 #[ptr p, .int .i64 after] w fun e w' => e = .returned (.tuple #[]) /\ Own.St B w0 w' (AFl p (cut s after) :: Ps) := by
 obtain ⟨x, hx, h⟩ := flOpen H
 have c6 := (h.cellV 0 rfl 6 rfl)
 have c7 := (h.cellV 0 rfl 7 rfl)
 have h1 := h.storeV 0 rfl 7 (.bool (decide (0 <= after)))
 have c8 := (h1.cellV 0 rfl 8 rfl)
 have h2 := h1.storeV 0 rfl 8 (.int .i64 after)
 have H0 := Lib.hid H
 have H2 := Lib.hid h2
 clear H h h1 h2
 obtain ⟨off, hoff⟩ : ∃ o, o = s.off := ⟨_, rfl⟩
 rw [<- hoff] at c6
 have HO := Lib.hid hoff
 clear hoff
 go_enter Tryz.func8, Tryz.ntmps8
 cases off
 · by_cases h0 : 0 <= after
   · rw [decide_eq_true h0] at c8 H2
     go_wp2
     go_end0
     refine ⟨rfl, ?_⟩
     have e : cut s after = { s with left := max after (-1) } := by unfold cut; rw [<- HO.out]; rfl
     rw [e]
     exact flClose (x := { x with armed := true, lf := after }) ⟨ha, fun _ => ⟨fun _ => by show after = max after (-1); omega, fun h => (by cases h)⟩, fun _ => h0⟩ H2.out
   · rw [decide_eq_false h0] at c8 H2
     go_wp2
     go_end0
     refine ⟨rfl, ?_⟩
     have e : cut s after = { s with left := max after (-1) } := by unfold cut; rw [<- HO.out]; rfl
     rw [e]
     exact flClose (x := { x with armed := false, lf := after }) ⟨ha, fun _ => ⟨fun h => (by cases h), fun _ => by show max after (-1) = -1; omega⟩, fun h => (by cases h)⟩ H2.out
 · clear c7 c8
   go_wp2
   refine bodyPost_ret (results_none rfl _ _ _) rfl ?_
   refine ⟨rfl, ?_⟩
   have e : cut s after = s := by unfold cut; rw [<- HO.out]; rfl
   rw [e]
   exact H0.out
end
end Fla
end Go.Proofs.YtahjjcmeocibbaaGreatDoor
end
section
namespace Go.Proofs.YtahjjcmeocibbaaGreatDoor
open Go.RowKit Go.Own
namespace Fla
open Go.FlaM Byt
theorem wpList_built {P : Program} {ops : Array Oper} {rest : List Oper} {o : Oper} {a : Go.Act} {w : World} {Q : Exit -> Go.Act -> World -> Prop} (hgd : o.guard = none) (t : TypeId) (parts : Array (Nat × Operand)) (ho : o.op = .build t parts) (cells : Array Value)
 (hf : P.built t (parts.map fun (i, x) => (i, a.eval x)).toList = some cells) (h : wpList P ops Q rest (a.put o.dst (.agg cells)) w) : wpList P ops Q (o :: rest) a w := by
 refine wpList_plain hgd fun K hK => ?_
 have := run_build w t (parts.map fun (i, x) => (i, a.eval x)) cells hf
 unfold Oper.wp
 simp [execOp, ho, this, Result.andThen]
 exact hK _ _ h
theorem built_erase (k : Nat) : Tryz.prog.built 142 [(0, .bool true), (1, .int .i64 (k : Int))] = some (opCells ⟨k, -1, []⟩).toArray := by kernel_rfl
theorem built_prog0 (k q : Nat) (f : Nat -> Value) : Tryz.prog.built 142 [(1, .int .i64 (k : Int)), (2, .int .i64 (q : Int)), (3, .agg ((List.range 128).map f).toArray)] = some (([.bool false, .int .i64 (k : Int), .int .i64 (q : Int)] : List Value) ++ ((List.range 128).map f)).toArray := by kernel_rfl
theorem built_prog (k q : Nat) (b : Bs) (hb : b.length = 128) : Tryz.prog.built 142 [(1, .int .i64 (k : Int)), (2, .int .i64 (q : Int)), (3, .agg (b.map byteV).toArray)] = some (opCells ⟨k, (q : Int), b⟩).toArray := by
 have h := built_prog0 k q (fun i => (b.map byteV).getD i undef)
 rw [range_map (b.map byteV) 128 (by simp [hb])] at h
 rw [h]
 unfold opCells wOf
 rw [if_neg (by show ¬ (q : Int) < 0; omega), decide_eq_false (by show ¬ (q : Int) < 0; omega)]
 rfl
theorem trip_off {x : Hidden} {s : FS} (hx : HRel x s) : (s.off || (x.armed && decide (x.lf = 0))) = (trip s).off := by
 unfold trip
 cases ho : s.off with
 | true => split <;> simp_all
 | false =>
  obtain ⟨h1, h2⟩ := hx.on ho
  cases ha : x.armed with
  | true =>
   have := h1 ha
   by_cases h0 : s.left = 0
   · rw [if_pos h0]; simp [this, h0]
   · rw [if_neg h0]; simp [this, h0, ho]
  | false =>
   have := h2 ha
   rw [if_neg (by omega)]; simp [ho]
section
variable {B : Nat} {w0 w : World} {Ps : List Asn} {p : Nat} {s : FS} {N : Nat}
theorem begin_fl {x : Hidden} (H : Own.St B w0 w (flParts p x s ++ Ps)) (hx : HRel x s) (ok : Ok s N) (hN : N <= 10000) :
 Calls Tryz.prog 35 #[ptr p] w fun e w' => if (trip s).off = true then e = .returned (errV 6) /\ ∃ x', HRel x' (trip s) /\ Own.St B w0 w' (flParts p x' (trip s) ++ Ps)
  else e = .returned (errV 0) /\ ∃ x', HRel x' (okd (trip s)) /\ Own.St B w0 w' (flParts p x' (okd (trip s)) ++ Ps) := by
 obtain ⟨e1, e2, e3, e4, e5⟩ := trip_safe s
 have hn := ok.n
 refine (begin_st (n := s.n) H (by omega) hx.i64 hx.pos).mono ?_
 intro e w' h
 rw [trip_off hx] at h
 by_cases ho : (trip s).off = true
 · rw [if_pos ho] at h ⊢
   refine ⟨h.1, x, ⟨hx.i64, fun h0 => (by rw [ho] at h0; cases h0), hx.pos⟩, ?_⟩
   have h2 := h.2
   unfold flParts
   rw [e1, e2, e3, e4, e5, ho]
   exact h2
 · rw [if_neg ho] at h ⊢
   have hoff : (trip s).off = false := by simpa using ho
   have hto := trip_off hx
   rw [hoff] at hto
   have hso : s.off = false := by
    cases h : s.off with
    | false => rfl
    | true => rw [h] at hto; simp at hto
   have hl0 : ¬ s.left = 0 := fun h0 => by unfold trip at hoff; rw [if_pos h0] at hoff; cases hoff
   have htr : trip s = s := by unfold trip; rw [if_neg hl0]
   obtain ⟨r1, r2⟩ := hx.on hso
   have hlb := ok.left
   have hxi := hx.i64
   refine ⟨h.1, { x with lf := if x.armed = true then x.lf - 1 else x.lf }, ⟨?_, fun _ => ⟨fun ha => ?_, fun ha => ?_⟩, fun ha => ?_⟩, ?_⟩
   · show i64B (if x.armed = true then x.lf - 1 else x.lf)
     split
     · rename_i ha
       have := hx.pos ha
       obtain ⟨q1, q2⟩ := hxi
       exact ⟨by omega, by omega⟩
     · exact hxi
   · have ha' : x.armed = true := ha
     have hpos := hx.pos ha'
     have := r1 ha'
     show (if x.armed = true then x.lf - 1 else x.lf) = (if 0 < (trip s).left then (trip s).left - 1 else (trip s).left)
     rw [htr, if_pos ha', if_pos (by omega), this]
   · have ha' : x.armed = false := ha
     have := r2 ha'
     show (if 0 < (trip s).left then (trip s).left - 1 else (trip s).left) = -1
     rw [htr, if_neg (by omega), this]
   · have ha' : x.armed = true := ha
     have := r1 ha'
     have := hx.pos ha'
     show 0 <= (if x.armed = true then x.lf - 1 else x.lf)
     rw [if_pos ha']
     omega
   · have h2 := h.2
     rw [htr]
     unfold flParts okd
     simp only
     rw [hso]
     exact h2
theorem perm_d {α : Type _} (a b c d : α) (r : List α) : (a :: b :: c :: d :: r).Perm (a :: b :: d :: c :: r) := ((List.Perm.swap d c r).cons b).cons a
theorem perm_s {α : Type _} (a b c d : α) (r : List α) : (a :: b :: c :: d :: r).Perm (a :: c :: d :: b :: r) := ((List.Perm.swap c b _).trans ((List.Perm.swap d b r).cons c)).cons a
theorem perform_fl {x : Hidden} (H : Own.St B w0 w (flParts p x s ++ Ps)) (hx : HRel x s) (hsh0 : Shape s.safe s.safe.length s.pp) (hsg : s.safe.length <= 256) (hpp : 1 <= s.pp /\ s.pp <= 64) (hacts : ∀ a ∈ s.L, ActOk s.safe.length s.pp a) (a : FlaM.Act) (ha : ActOk s.safe.length s.pp a) (hL : s.L.length <= 10000) :
 Calls Tryz.prog 97 #[ptr p, .agg (opCells a).toArray] w fun e w' => e = .returned (.tuple #[]) /\ Own.St B w0 w' (AFl p { s with L := s.L ++ [a] } :: Ps) := by
 have hsh := nowG_shape s.L s.safe hsh0 hacts
 refine (perform_st (nn := s.safe.length) (G := nowG s.pp s.safe s.L) (L := s.L) (H.perm (perm_d _ _ _ _ _)) hsh hsg hpp a ha hL).mono ?_
 rintro e w' ⟨he, vP', h⟩
 refine ⟨he, flClose (x := { x with vP := vP' }) ⟨hx.i64, hx.on, hx.pos⟩ ?_⟩
 have h2 := h.perm (perm_d _ _ _ _ _)
 unfold flParts
 show Own.St B w0 w' (_ :: gridT _ (nowG s.pp s.safe (s.L ++ [a])) :: _)
 rw [nowG_snoc, doOne_big hpp.2 _ a 128 9223372036854775807 (by decide) (by decide)]
 exact h2
set_option maxHeartbeats 1600000 in
theorem erase_any (H : Own.St B w0 w (AFl p s :: Ps)) (ok : Ok s N) (hN : N <= 10000) (seg : Int) (hseg : i64B seg) :
 Calls Tryz.prog 118 #[ptr p, .int .i64 seg] w fun e w' => e = .returned (errV (erase s seg).2) /\ Own.St B w0 w' (AFl p (erase s seg).1 :: Ps) := by
 obtain ⟨x, hx, h⟩ := flOpen H
 have HS := Lib.hid (hasSeg_st h seg)
 have H0 := Lib.hid H
 have HB := Lib.hid (begin_fl h hx ok hN)
 have hpp := ok.pp
 have hdec : there s seg 0 = decide (0 <= seg /\ seg < (s.safe.length : Int)) := by unfold there; congr 1; apply propext; constructor <;> omega
 by_cases hin : 0 <= seg /\ seg < (s.safe.length : Int)
 · have ht : there s seg 0 = true := by rw [hdec, decide_eq_true hin]
   rw [decide_eq_true hin] at HS
   by_cases ho : (trip s).off = true
   · have HE : Hid (erase s seg = (trip s, 6)) := by
      show erase s seg = (trip s, 6)
      unfold erase
      rw [if_neg (by rw [ht]; decide), if_pos ho]
     have HB2 : Hid (Calls Tryz.prog 35 #[ptr p] w fun e w' => e = .returned (errV 6) /\ Own.St B w0 w' (AFl p (trip s) :: Ps)) := by
      refine HB.out.mono ?_
      intro e w' h'
      rw [if_pos ho] at h'
      obtain ⟨he, x', hx', h2⟩ := h'
      exact ⟨he, flClose hx' h2⟩
     rw [HE.out]
     clear hin hdec ht ho H h HB hpp ok hx
     go_enter Tryz.func118, Tryz.ntmps118
     go_wp2_with (fail)
     refine HS.out.mono ?_
     rintro e w1 ⟨rfl, rfl⟩
     clear HS
     go_wp2_with (fail)
     refine HB2.out.mono ?_
     clear HB2
     rintro e w2 ⟨rfl, h2⟩
     have H2 := Lib.hid h2
     clear h2
     go_wp2
     go_ret
     exact ⟨rfl, H2.out⟩
   · obtain ⟨k, hk⟩ : ∃ k : Nat, seg = (k : Int) := ⟨seg.toNat, by omega⟩
     subst hk
     have HE : Hid (erase s (k : Int) = ({ okd (trip s) with L := (okd (trip s)).L ++ [⟨k, -1, []⟩], wear := bump (okd (trip s)).wear k }, 0)) := by
      show erase s (k : Int) = _
      unfold erase
      rw [if_neg (by rw [ht]; decide), if_neg ho]
      rfl
     have okt : Ok (okd (trip s)) (N + 1) := by
      have g := ok_trip ok
      exact ⟨g.segs, g.pp, g.rows, g.pages, g.wear, g.acts, left_okd _ g.left, Nat.succ_le_succ g.n, Nat.le_succ_of_le g.log, fun i => Nat.le_succ_of_le (g.worn i)⟩
     have hsl : (okd (trip s)).safe.length = s.safe.length := by show (trip s).safe.length = _; rw [(trip_safe s).1]
     obtain ⟨t, htt⟩ : ∃ t, t = okd (trip s) := ⟨_, rfl⟩
     rw [<- htt] at HE okt hsl
     have HB2 : Hid (Calls Tryz.prog 35 #[ptr p] w fun e w' => e = .returned (errV 0) /\ ∃ x', HRel x' t /\ Own.St B w0 w' (flParts p x' t ++ Ps)) := by
      refine HB.out.mono ?_
      intro e w' h'
      rw [if_neg ho, <- htt] at h'
      exact h'
     have HOK := Lib.hid okt
     have hkl : k < t.safe.length := by omega
     have hlog : t.L.length <= 10000 := by rw [htt]; show (trip s).L.length <= _; rw [(trip_safe s).2.1]; have := ok.log; have := ok.n; omega
     rw [HE.out]
     clear hin hdec ht ho H h HB hpp ok hx htt hsl okt
     go_enter Tryz.func118, Tryz.ntmps118
     go_wp2_with (fail)
     refine HS.out.mono ?_
     rintro e w1 ⟨rfl, rfl⟩
     clear HS
     go_wp2_with (fail)
     refine HB2.out.mono ?_
     clear HB2
     rintro e w2 ⟨rfl, x', hx', h2⟩
     have hwl := HOK.out.wear
     obtain ⟨aW, cW, hW⟩ := h2.rowForm 4 rfl
     have c4 := (h2.cellV 0 rfl 4 rfl).1
     rw [hW] at c4
     have h4 : (flParts p x' t ++ Ps)[4]? = some (ARow 3 1 (.slice aW t.wear.length cW) t.wear.length (t.wear.map intV)) := by rw [<- hW]; rfl
     obtain ⟨g, rfl, ⟨u, hu, cu⟩, fu, put⟩ := h2.rowAt 4 h4 k (by omega)
     obtain ⟨q, hq⟩ : ∃ q, t.wear[k]? = some q := ⟨_, List.getElem?_eq_getElem (by omega)⟩
     rw [List.getElem?_map, hq] at hu
     cases hu
     have hqn : q <= 10001 := by
      have h1 := HOK.out.worn k
      rw [List.getD_eq_getElem?_getD, hq] at h1
      have h2 := HOK.out.n
      exact Nat.le_trans h1 (by omega)
     obtain ⟨q1, hq1⟩ : ∃ x, q + 1 = x := ⟨_, rfl⟩
     have hqi : (q : Int) + 1 = (q1 : Int) := by omega
     have PF : Hid (∀ (wx : World), wx = w2.setCell ⟨g, k, none⟩ (intV q1) -> Calls Tryz.prog 97 #[ptr p, .agg (opCells ⟨k, -1, []⟩).toArray] wx fun e w' => e = .returned (.tuple #[]) /\ Own.St B w0 w' (AFl p { t with L := t.L ++ [⟨k, -1, []⟩], wear := bump t.wear k } :: Ps)) := by
      intro wx hwx
      subst hwx
      have hst : Own.St B w0 (w2.setCell ⟨g, k, none⟩ (intV q1)) (flParts p x' { t with wear := bump t.wear k } ++ Ps) := by
       have h5 := put (intV q1)
       have e1 : (flParts p x' t ++ Ps).set 4 (ARow 3 1 (.slice (some ⟨g, 0, none⟩) t.wear.length cW) t.wear.length ((t.wear.map intV).set k (intV q1))) = flParts p x' { t with wear := bump t.wear k } ++ Ps := by
        unfold flParts
        simp only [List.cons_append, List.nil_append, List.set_cons_succ, List.set_cons_zero]
        have e2 : bump t.wear k = t.wear.set k q1 := by unfold bump; rw [List.getD_eq_getElem?_getD, hq]; simp [hq1]
        rw [e2, List.length_set, List.map_set, <- hW]
       rw [e1] at h5
       exact h5
      exact perform_fl (s := { t with wear := bump t.wear k }) hst ⟨hx'.i64, hx'.on, hx'.pos⟩ HOK.out.shape HOK.out.segs HOK.out.pp HOK.out.acts ⟨k, -1, []⟩ ⟨hkl, .inr ⟨rfl, rfl⟩⟩ hlog
     obtain ⟨nW, hnW⟩ : ∃ n, n = t.wear.length := ⟨_, rfl⟩
     rw [<- hnW] at c4
     have hkn : k < nW := by rw [hnW, hwl]; exact hkl
     clear put h4 hW hq h2 hnW hwl hq1 hx'
     obtain ⟨cs, hcs⟩ : ∃ c, c = opCells ⟨k, -1, []⟩ := ⟨_, rfl⟩
     have BE : Hid (Tryz.prog.built 142 [(0, .bool true), (1, .int .i64 (k : Int))] = some cs.toArray) := by rw [hcs]; exact built_erase k
     rw [<- hcs] at PF
     clear hcs
     go_wp2_with (refine Fla.wpList_built rfl 142 #[(0, .const (.bool true)), (1, .tmp 27)] rfl cs.toArray ?_ ?_; · (simp only [List.map_toArray, List.map_cons, List.map_nil, List.toList_toArray]; exact BE.out))
     refine (PF.out _ rfl).mono ?_
     clear PF BE
     rintro e w3 ⟨rfl, h3⟩
     have H3 := Lib.hid h3
     clear h3
     go_wp2
     go_ret
     exact ⟨rfl, H3.out⟩
 · have ht : there s seg 0 = false := by rw [hdec, decide_eq_false hin]
   rw [decide_eq_false hin] at HS
   have HE : Hid (erase s seg = (s, 1)) := by
    show erase s seg = (s, 1)
    unfold erase
    rw [if_pos ht]
   rw [HE.out]
   clear hin hdec ht H h HB hpp ok hx
   go_enter Tryz.func118, Tryz.ntmps118
   go_wp2_with (fail)
   refine HS.out.mono ?_
   rintro e w1 ⟨rfl, rfl⟩
   clear HS
   go_wp2
   go_ret
   exact ⟨rfl, H0.out⟩
end
end Fla
end Go.Proofs.YtahjjcmeocibbaaGreatDoor
end
section
namespace Go.Proofs.YtahjjcmeocibbaaGreatDoor
open Go.RowKit Go.Own
namespace Fla
open Go.FlaM Byt
theorem IView.same' {w w' : World} {B : Nat} {ao : Option Addr} {l : List Int} (h : IView w B ao l) (g : ∀ k, k < B -> w'.heap[k]? = w.heap[k]?) (hs : B <= w'.heap.size) : IView w' B ao l := by
 rcases h with h | ⟨b, o, e, hb, hsz, hc⟩
 · exact .inl h
 · exact .inr ⟨b, o, e, hb, Nat.lt_of_lt_of_le hb hs, fun j hj => ⟨(World.cell?_of_block (w := w) (g b hb)).trans (hc j hj).1, (hc j hj).2⟩⟩
section
variable {W : World} (K : Kept W)
end
end Fla
end Go.Proofs.YtahjjcmeocibbaaGreatDoor
end
section
namespace Go.Proofs.YtahjjcmeocibbaaGreatDoor
open Go.RowKit Go.Own
namespace Fla
open Go.FlaM Byt
theorem whole_any (i : Int) (w : World) : Calls Tryz.prog 37 #[.int .i64 i] w fun e w' => e = .returned (.int .i64 9223372036854775807) /\ Below w.heap.size w w' := by
 go_enter Tryz.func37, Tryz.ntmps37
 go_wp2
 go_ret
 exact ⟨rfl, Below.refl _ _⟩
section
variable {B : Nat} {w0 w : World} {Ps : List Asn} {p : Nat} {s : FS} {N : Nat}
theorem settle_fl {x : Hidden} (H : Own.St B w0 w (flParts p x s ++ Ps)) (hsh : Shape s.safe s.safe.length s.pp) (hsg : s.safe.length <= 256) (hpp : 1 <= s.pp /\ s.pp <= 64) (hacts : ∀ a ∈ s.L, ActOk s.safe.length s.pp a) (hL : s.L.length <= 10000)
 (f : FuncId) (caps : Array Value) (φ : Nat -> Int) (hφ : ∀ i, i64B (φ i)) (hent : ∀ (args : Array Value) w, (callFunc f args).run Tryz.prog w = .ok (.enter f args) w)
 (hf : ∀ (i : Nat) (wx : World) (Xs : List Asn), i < s.L.length -> Own.St B w0 wx (Xs ++ (gridT (.slice x.aN s.safe.length x.cN) (nowG s.pp s.safe s.L) :: ARow 3 1 x.vW s.wear.length (s.wear.map intV) :: Ps)) -> Calls Tryz.prog f (#[.int .i64 (i : Int)] ++ caps) wx fun e w' => e = .returned (.int .i64 (φ i)) /\ Below wx.heap.size wx w') :
 Calls Tryz.prog 36 #[ptr p, .func (.func f) #[] caps] w fun e w' => e = .returned (.tuple #[]) /\ Own.St B w0 w' (AVals p 79 (flCells s.pp (.slice x.aN s.safe.length x.cN) (.slice x.aS s.safe.length x.cS) (.slice none 0 0) x.vW s.n s.off x.armed x.lf) :: gridT (.slice x.aS s.safe.length x.cS) (doAllF s.pp φ s.safe 0 s.L) :: ARow 142 131 (.slice none 0 0) 0 [] :: gridT (.slice x.aN s.safe.length x.cN) (nowG s.pp s.safe s.L) :: ARow 3 1 x.vW s.wear.length (s.wear.map intV) :: Ps) :=
 settle_st (nn := s.safe.length) (G := s.safe) (L := s.L) f caps φ (H.perm (perm_s _ _ _ _ _)) hsh hsg hpp hacts hL hφ hent hf
theorem perm_s' {α : Type _} (a b c d : α) (r : List α) : (a :: b :: c :: d :: r).Perm (a :: d :: b :: c :: r) := (perm_s a d b c r).symm
set_option maxHeartbeats 800000 in
theorem barrier_any (H : Own.St B w0 w (AFl p s :: Ps)) (ok : Ok s N) (hN : N <= 10000) :
 Calls Tryz.prog 13 #[ptr p] w fun e w' => e = .returned (errV (barrier s).2) /\ Own.St B w0 w' (AFl p (barrier s).1 :: Ps) := by
 obtain ⟨x, hx, h⟩ := flOpen H
 have HB := Lib.hid (begin_fl h hx ok hN)
 by_cases ho : (trip s).off = true
 · have HE : Hid (barrier s = (trip s, 6)) := by
    show barrier s = (trip s, 6)
    unfold barrier
    rw [if_pos ho]
   have HB2 : Hid (Calls Tryz.prog 35 #[ptr p] w fun e w' => e = .returned (errV 6) /\ Own.St B w0 w' (AFl p (trip s) :: Ps)) := by
    refine HB.out.mono ?_
    intro e w' h'
    rw [if_pos ho] at h'
    obtain ⟨he, x', hx', h2⟩ := h'
    exact ⟨he, flClose hx' h2⟩
   rw [HE.out]
   clear ho H h HB ok hx
   go_enter Tryz.func13, Tryz.ntmps13
   go_wp2_with (fail)
   refine HB2.out.mono ?_
   clear HB2
   rintro e w2 ⟨rfl, h2⟩
   have H2 := Lib.hid h2
   clear h2
   go_wp2
   go_ret
   exact ⟨rfl, H2.out⟩
 · obtain ⟨t, htt⟩ : ∃ t, t = okd (trip s) := ⟨_, rfl⟩
   have HB2 : Hid (Calls Tryz.prog 35 #[ptr p] w fun e w' => e = .returned (errV 0) /\ ∃ x', HRel x' t /\ Own.St B w0 w' (flParts p x' t ++ Ps)) := by
    refine HB.out.mono ?_
    intro e w' h'
    rw [if_neg ho, <- htt] at h'
    exact h'
   have g := ok_trip ok
   have hsh : Shape t.safe t.safe.length t.pp := by rw [htt]; exact g.shape
   have hsg : t.safe.length <= 256 := by rw [htt]; exact g.segs
   have hpp : 1 <= t.pp /\ t.pp <= 64 := by rw [htt]; exact g.pp
   have hacts : ∀ a ∈ t.L, ActOk t.safe.length t.pp a := by rw [htt]; exact g.acts
   have hL : t.L.length <= 10000 := by rw [htt]; show (trip s).L.length <= _; rw [(trip_safe s).2.1]; have := ok.log; have := ok.n; omega
   have HE : Hid (barrier s = ({ t with safe := nowG t.pp t.safe t.L, L := [] }, 0)) := by
    show barrier s = _
    unfold barrier
    rw [if_neg ho, htt]
    unfold some' okd
    simp only
    rw [doAll_whole _ _ _ 0 (fun j hj => by rw [Nat.zero_add]; simp [List.getD, hj])]
   have SET : Hid (∀ (wx : World) (x' : Hidden), HRel x' t -> Own.St B w0 wx (flParts p x' t ++ Ps) -> Calls Tryz.prog 36 #[ptr p, .func (.func 37) #[] #[]] wx fun e w' => e = .returned (.tuple #[]) /\ Own.St B w0 w' (AFl p { t with safe := nowG t.pp t.safe t.L, L := [] } :: Ps)) := by
    intro wx x' hx' hst
    refine (settle_fl hst hsh hsg hpp hacts hL 37 #[] (fun _ => 9223372036854775807) (fun _ => by unfold i64B; omega) (fun _ _ => by simp [go_sem]) (fun i wy _ _ _ => whole_any i wy)).mono ?_
    rintro e w' ⟨he, h'⟩
    refine ⟨he, flClose (x := { x' with vP := .slice none 0 0 }) ⟨hx'.i64, hx'.on, hx'.pos⟩ ?_⟩
    rw [doAllF_big hpp.2 _ (fun _ => by decide)] at h'
    have h2 := h'.perm (perm_s' _ _ _ _ _)
    unfold flParts
    simp only [nowG_len]
    exact h2
   rw [HE.out]
   clear ho H h HB ok hx htt g hsh hsg hpp hacts hL
   go_enter Tryz.func13, Tryz.ntmps13
   go_wp2_with (fail)
   refine HB2.out.mono ?_
   clear HB2
   rintro e w2 ⟨rfl, x', hx', h2⟩
   have S2 := Lib.hid (SET.out w2 x' hx' h2)
   clear h2 SET hx'
   go_wp2_with (fail)
   refine S2.out.mono ?_
   clear S2
   rintro e w3 ⟨rfl, h3⟩
   have H3 := Lib.hid h3
   clear h3
   go_wp2
   go_ret
   exact ⟨rfl, H3.out⟩
theorem liesI_at {ao : Option Addr} {n cap : Nat} {l : List Int} {Qs Zs : List Asn} {wx : World} (h : LiesI B w Ps ao n cap l) (H : Own.St B w0 w Qs) (hx : Own.St B w0 wx (Ps ++ Zs)) (j : Nat) (hj : j < n) :
 ∃ b o, ao = some ⟨b, o, none⟩ /\ wx.cell? ⟨b, o + j, none⟩ = some (.int .i64 (l.getD j 0)) := by
 have hjl : j < l.length := by rw [h.size]; exact hj
 rcases h.where_ with ⟨j0, b, h1, h2⟩ | h1
 · refine ⟨b, 0, h2, ?_⟩
   have h3 : (Ps ++ Zs)[j0]? = some (AVals b 3 (l.map (Value.int .i64))) := by rw [List.getElem?_append_left (List.getElem?_eq_some_iff.1 h1).1]; exact h1
   rw [Nat.zero_add]
   refine (hx.cellV j0 h3 j ?_).1
   simp [List.getD, hjl]
 · have h2 : IView wx B ao l := IView.same' h1 (Below.both H.below hx.below) hx.size
   rcases h2 with h2 | ⟨b, o, e, _, _, hc⟩
   · rw [h2] at hjl; simp at hjl
   · exact ⟨b, o, e, (hc j hjl).1⟩
theorem fates_any (i : Nat) (hi : i <= 1000000) (bx : Nat) (ao : Option Addr) (n cap : Nat) (l : List Int) (hl : l.length = n) (hn : n <= cap /\ cap <= maxLen) (wx : World) (hb : wx.cell? ⟨bx, 0, none⟩ = some (.slice ao n cap)) (hc : i < n -> ∃ b o, ao = some ⟨b, o, none⟩ /\ wx.cell? ⟨b, o + i, none⟩ = some (.int .i64 (l.getD i 0))) :
 Calls Tryz.prog 41 (#[.int .i64 (i : Int)] ++ #[.pointer (some ⟨bx, 0, none⟩)]) wx fun e w' => e = .returned (.int .i64 (l.getD i 0)) /\ Below wx.heap.size wx w' := by
 show Calls Tryz.prog 41 #[.int .i64 (i : Int), .pointer (some ⟨bx, 0, none⟩)] wx _
 obtain ⟨hn1, hn2⟩ := hn
 unfold maxLen at hn2
 by_cases h : i < n
 · obtain ⟨b, o, rfl, cc⟩ := hc h
   obtain ⟨v, hv⟩ : ∃ v, v = l.getD i 0 := ⟨_, rfl⟩
   rw [<- hv] at cc ⊢
   clear hc hv hl
   go_enter Tryz.func41, Tryz.ntmps41
   go_wp2
   go_ret
   exact ⟨rfl, Below.refl _ _⟩
 · have e : l.getD i 0 = 0 := by rw [List.getD_eq_getElem?_getD, List.getElem?_eq_none (by omega)]; rfl
   rw [e]
   clear hc e hl
   go_enter Tryz.func41, Tryz.ntmps41
   go_wp2
   go_ret
   exact ⟨rfl, Below.refl _ _⟩
set_option maxHeartbeats 1600000 in
theorem crash_any (H : Own.St B w0 w (AFl p s :: Ps)) (ok : Ok s N) (hN : N <= 10000) (ao : Option Addr) (n cap : Nat) (l : List Int) (hl : LiesI B w Ps ao n cap l) :
 Calls Tryz.prog 16 #[ptr p, .slice ao n cap] w fun e w' => e = .returned (.tuple #[]) /\ Own.St B w0 w' (AFl p (crash s l) :: Ps) := by
 obtain ⟨x, hx, h⟩ := flOpen H
 have hL : s.L.length <= 10000 := by have := ok.log; have := ok.n; omega
 obtain ⟨bx, hbx⟩ : ∃ b, b = w.heap.size := ⟨_, rfl⟩
 have hbox := h.boxV 23 [.slice ao n cap]
 obtain ⟨W1, hW1⟩ : ∃ W, W = w.alloc (.cells #[.slice ao n cap] 23) := ⟨_, rfl⟩
 have hb1 : Own.St B w0 W1 (flParts p x s ++ (AVals bx 23 [.slice ao n cap] :: Ps)) := by
  rw [hW1, hbx]
  exact hbox.perm (List.perm_middle (l₁ := flParts p x s)).symm
 obtain ⟨S1, hS1⟩ : ∃ S, S = doAll s.pp l s.safe 0 s.L := ⟨_, rfl⟩
 have hsh1 : Shape S1 s.safe.length s.pp := by rw [hS1]; exact shape_all l s.L s.safe 0 ok.shape ok.acts
 have hF : doAllF s.pp (fun i => l.getD i 0) s.safe 0 s.L = S1 := by rw [hS1, doAll_F]
 have hi64 : ∀ i, i64B (l.getD i 0) := by
  intro i
  by_cases hi : i < n
  · exact hl.ints i hi
  · rw [List.getD_eq_getElem?_getD, List.getElem?_eq_none (by have := hl.size; omega)]
    unfold i64B; simp
 have SET : Hid (Calls Tryz.prog 36 #[ptr p, .func (.func 41) #[] #[.pointer (some ⟨bx, 0, none⟩)]] W1 fun e w' => e = .returned (.tuple #[]) /\ Own.St B w0 w' (AVals p 79 (flCells s.pp (.slice x.aN s.safe.length x.cN) (.slice x.aS s.safe.length x.cS) (.slice none 0 0) x.vW s.n s.off x.armed x.lf) :: gridT (.slice x.aS s.safe.length x.cS) S1 :: ARow 142 131 (.slice none 0 0) 0 [] :: ARow 3 1 x.vW s.wear.length (s.wear.map intV) :: Ps)) := by
  refine (settle_fl hb1 ok.shape ok.segs ok.pp ok.acts hL 41 #[.pointer (some ⟨bx, 0, none⟩)] (fun i => l.getD i 0) hi64 (fun _ _ => by simp [go_sem]) ?_).mono ?_
  · intro i wx Xs hi hst
    have h2 := hst.perm List.perm_append_comm
    have hbc := (h2.cellV 2 rfl 0 rfl).1
    refine fates_any i (by omega) bx ao n cap l hl.size hl.room wx hbc (fun hin => ?_)
    have h3 := (h2.drop 3)
    exact liesI_at hl H (by simpa using h3) i hin
  · rintro e w' ⟨he, h'⟩
    refine ⟨he, ?_⟩
    rw [hF] at h'
    have h2 := (h'.front 3 rfl).drop 1
    simp only [List.eraseIdx_cons_succ, List.eraseIdx_cons_zero, List.drop_succ_cons, List.drop_zero] at h2
    have h3 := (h2.front 4 rfl).drop 1
    simp only [List.eraseIdx_cons_succ, List.eraseIdx_cons_zero, List.drop_succ_cons, List.drop_zero] at h3
    exact h3
 have CLN : Hid (∀ wx, Own.St B w0 wx (AVals p 79 (flCells s.pp (.slice x.aN s.safe.length x.cN) (.slice x.aS s.safe.length x.cS) (.slice none 0 0) x.vW s.n s.off x.armed x.lf) :: gridT (.slice x.aS s.safe.length x.cS) S1 :: ARow 142 131 (.slice none 0 0) 0 [] :: ARow 3 1 x.vW s.wear.length (s.wear.map intV) :: Ps) -> Calls Tryz.prog 24 #[.slice x.aS s.safe.length x.cS] wx fun e w' => ∃ a' c', e = .returned (.slice a' s.safe.length c') /\ Own.St B w0 w' (AVals p 79 (flCells s.pp (.slice x.aN s.safe.length x.cN) (.slice x.aS s.safe.length x.cS) (.slice none 0 0) x.vW s.n s.off x.armed x.lf) :: gridT (.slice a' s.safe.length c') S1 :: gridT (.slice x.aS s.safe.length x.cS) S1 :: ARow 142 131 (.slice none 0 0) 0 [] :: ARow 3 1 x.vW s.wear.length (s.wear.map intV) :: Ps)) := by
  intro wx hst
  refine (clone_st hst.swap2 hsh1 ok.segs ok.pp).mono ?_
  rintro e w' ⟨a', c', he, h'⟩
  rw [hsh1.len] at he h'
  refine ⟨a', c', he, ?_⟩
  have h2 := (h'.front 2 rfl)
  simp only [List.eraseIdx_cons_succ, List.eraseIdx_cons_zero] at h2
  exact h2
 have FIN : Hid (∀ wx a' c', Own.St B w0 wx (AVals p 79 (flCells s.pp (.slice a' s.safe.length c') (.slice x.aS s.safe.length x.cS) (.slice none 0 0) x.vW s.n false false x.lf) :: gridT (.slice a' s.safe.length c') S1 :: gridT (.slice x.aS s.safe.length x.cS) S1 :: ARow 142 131 (.slice none 0 0) 0 [] :: ARow 3 1 x.vW s.wear.length (s.wear.map intV) :: Ps) -> Own.St B w0 wx (AFl p (crash s l) :: Ps)) := by
  intro wx a' c' hst
  refine flClose (x := { x with aN := a', cN := c', vP := .slice none 0 0, armed := false }) ⟨hx.i64, fun _ => ⟨fun h => (by cases h), fun _ => rfl⟩, fun h => (by cases h)⟩ ?_
  unfold flParts crash some'
  simp only [<- hS1, hsh1.len]
  exact hst
 have HW1 := Lib.hid hW1
 have HBX := Lib.hid hbx
 clear H h hL hbox hb1 hS1 hsh1 hF hi64 ok hl hW1 hbx hx
 go_enter Tryz.func16, Tryz.ntmps16
 go_wp2_with (fail)
 rw [<- HW1.out, <- HBX.out]
 clear HW1 HBX
 refine SET.out.mono ?_
 clear SET
 rintro e w2 ⟨rfl, h2⟩
 have c2 := (h2.cellV 0 rfl 2 rfl).1
 have C2 := Lib.hid (CLN.out w2 h2)
 clear h2 CLN
 go_wp2_with (fail)
 refine C2.out.mono ?_
 clear C2 c2
 rintro e w3 ⟨a3, c3, rfl, h3⟩
 have q1 := (h3.cellV 0 rfl 1 rfl)
 have h4 := h3.storeV 0 rfl 1 (.slice a3 s.safe.length c3)
 have q2 := (h4.cellV 0 rfl 6 rfl)
 have h5 := h4.storeV 0 rfl 6 (.bool false)
 have q3 := (h5.cellV 0 rfl 7 rfl)
 have h6 := h5.storeV 0 rfl 7 (.bool false)
 have H6 := Lib.hid (FIN.out _ a3 c3 h6)
 clear h3 h4 h5 h6 FIN
 go_wp2
 go_end0
 exact ⟨rfl, H6.out⟩
end
end Fla
end Go.Proofs.YtahjjcmeocibbaaGreatDoor
end
section
namespace Go.Proofs.YtahjjcmeocibbaaGreatDoor
open Go.RowKit Go.Own
namespace Fla
open Go.FlaM Byt
theorem bytes_ints (l : Bs) : (l.map (fun x => (x.toNat : Int))).map (Value.int .u8) = l.map byteV := by
 rw [List.map_map]; rfl
theorem bytes_eq (a b : Bs) : decide (a.map (fun x => (x.toNat : Int)) = b.map (fun x => (x.toNat : Int))) = decide (a = b) := by
 apply decide_eq_decide.2
 constructor
 · intro h
   exact (List.map_inj_right (fun x y h => UInt8.toNat_inj.1 (by omega))).1 h
 · rintro rfl; rfl
theorem neq_pageE {o : Oper} {x y : Tmp} (ho : o.op = .binOp .neq 123 (.tmp x) (.tmp y) 123) {a b : Bs} (ha : a.length = 128) (hb : b.length = 128) {v : Bool} (hv : decide (a = b) = v) (ρ : Operand -> Value) (w : World)
 (h0 : ρ (.tmp x) = .agg (a.map byteV).toArray) (h1 : ρ (.tmp y) = .agg (b.map byteV).toArray) : (execOp ρ o).run Tryz.prog w = .ok (.value (.bool (!v))) w := by
 have h := run_equalIn_ints (P := Tryz.prog) 9998 123 5 .u8 (a.map (fun x => (x.toNat : Int))) (b.map (fun x => (x.toNat : Int))) (by simp [ha, hb]) (by rw [List.length_map, ha]; exact Tryz.underlying123) Tryz.underlying5 (fun w => by kernel_rfl) (fun w => by kernel_rfl) w
 rw [bytes_eq, hv, bytes_ints, bytes_ints] at h
 have h' : (Op.equalIn 10000 123 (.agg (a.map byteV).toArray) (.agg (b.map byteV).toArray)).run Tryz.prog w = .ok v w := h
 unfold execOp
 simp only [ho, h0, h1]
 generalize (a.map byteV).toArray = A at h' ⊢
 generalize (b.map byteV).toArray = B at h' ⊢
 simp [go_sem, h']
theorem idx_rowsE {o : Oper} {x y : Tmp} (ho : o.op = .indexAddr 76 (.tmp x) (.tmp y)) (g n c k : Nat) (hk : k < n) : ∀ (ρ : Operand -> Value) w, ρ (.tmp x) = .slice (some ⟨g, 0, none⟩) n c -> ρ (.tmp y) = .int .i64 (k : Int) -> (execOp ρ o).run Tryz.prog w = .ok (.value (.pointer (some ⟨g, k, none⟩))) w := by
 intro ρ w h0 h1
 have hk' : (k : Int) < (n : Int) := by omega
 simp [execOp, ho, h0, h1, go_sem, hk', add_of]
theorem idx_pageE {o : Oper} {x y : Tmp} (ho : o.op = .indexAddr 80 (.tmp x) (.tmp y)) (g n c k : Nat) (hk : k < n) : ∀ (ρ : Operand -> Value) w, ρ (.tmp x) = .slice (some ⟨g, 0, none⟩) n c -> ρ (.tmp y) = .int .i64 (k : Int) -> (execOp ρ o).run Tryz.prog w = .ok (.value (.pointer (some ⟨g, k * 128, none⟩))) w := by
 intro ρ w h0 h1
 have hk' : (k : Int) < (n : Int) := by omega
 simp [execOp, ho, h0, h1, go_sem, hk', add_of]
theorem load_pageE (l : Bs) (hl : l.length = 128) {o : Oper} {x : Tmp} (ho : o.op = .load 123 (.tmp x)) {b k : Nat} (ρ : Operand -> Value) {w : World} (hr : w.rangeAt b k (l.map byteV)) (h0 : ρ (.tmp x) = .pointer (some ⟨b, k, none⟩)) : (execOp ρ o).run Tryz.prog w = .ok (.value (.agg (l.map byteV).toArray)) w := by
 have := run_loadAt_mid (P := Tryz.prog) w b k 123 (l.map byteV) _ hr Tryz.underlying123 rfl (info_pageL l hl)
 unfold execOp
 simp only [ho, h0, Sem.run_bind, this, Result.andThen_ok, Sem.run_pure]
theorem rangeLater {w w' : World} {b o : Nat} {cs : List Value} (h : w.rangeAt b o cs) (g : Below w.heap.size w w') : w'.rangeAt b o cs := fun j v hv => cellLater (h j v hv) g
section
variable {B : Nat} {w0 w : World} {Ps : List Asn} {p : Nat} {s : FS} {N : Nat}
theorem now_cells {x : Hidden} (H : Own.St B w0 w (flParts p x s ++ Ps)) (ok : Ok s N) (k q : Nat) (hk : k < s.safe.length) (hq : q < s.pp) :
 ∃ gN g2 cR : Nat, x.aN = some ⟨gN, 0, none⟩ /\ w.cell? ⟨gN, k, none⟩ = some (.slice (some ⟨g2, 0, none⟩) s.pp cR) /\ w.rangeAt g2 (q * 128) ((now s k q).map byteV) /\ g2 < w.heap.size /\ (now s k q).length = 128 /\ s.pp <= cR /\ cR <= maxLen := by
 have hsh := nowG_shape s.L s.safe ok.shape ok.acts
 have hsome := getD_some hsh hk
 have hW := wide_of hsh k hk
 have hrl := hsh.rows k hk
 have hat := nowG_at ok k q hk hq
 have hpl := hsh.pages k q hk hq
 obtain ⟨row, hrow⟩ : ∃ r, r = (nowG s.pp s.safe s.L).getD k [] := ⟨_, rfl⟩
 unfold pageAt at hat hpl
 rw [<- hrow] at hsome hW hrl hat hpl
 obtain ⟨g, c, ⟨ao, cR⟩, Qs, hv, cg, hR, _⟩ := (H.front 1 rfl).pRowAt k row hsome
 simp only [Value.slice.injEq] at hv
 have hlen := hR.rowLen 0 rfl
 obtain ⟨g2, rfl, ⟨u, hu, cu⟩, _, _⟩ := hR.rowAt 0 rfl (q * 128) (by omega)
 refine ⟨g, g2, cR, hv.1, by rw [<- hrl]; exact cg, ?_, World.block_lt_of_cell? w _ cu, by rw [<- hat]; exact hpl, by rw [<- hrl]; exact hlen.2.1, hlen.2.2.1⟩
 intro j v hj
 have hj2 := (List.getElem?_eq_some_iff.1 hj).1
 rw [List.length_map, <- hat, hpl] at hj2
 have h1 := (hR.rowRange 0 rfl (q * 128 + j) (by omega)).1
 rw [h1, <- hj, <- hat, <- flat_page q hW (by omega), List.map_take, List.map_drop, List.getElem?_take_of_lt hj2, List.getElem?_drop]
theorem lies_later {ao : Option Addr} {n cap : Nat} {y : Bs} {Qs Xs : List Asn} {wx : World} (h : Lies B w Ps ao n cap y) (H : Own.St B w0 w Qs) (hx : Own.St B w0 wx (Xs ++ Ps)) : Given wx ao n cap y := by
 rcases h.where_ with ⟨j0, e, h1⟩ | h1
 · have h2 := hx.perm List.perm_append_comm
   obtain ⟨S, hS, _⟩ := h2.at j0 (P := ARow e 1 (.slice ao n cap) n (y.map byteV)) (by rw [List.getElem?_append_left (List.getElem?_eq_some_iff.1 h1).1]; exact h1)
   exact ⟨(Row.view hS).live.mono (fun k hk => hk.2), h.given.size, h.given.room, h.given.nil⟩
 · have h2 : View wx (fun k => k < B) ao y := View.same h1 (Below.both H.below hx.below)
   exact ⟨h2.mono (fun k hk => Nat.lt_of_lt_of_le hk hx.size), h.given.size, h.given.room, h.given.nil⟩
theorem okd_trip (ok : Ok s N) : Ok (okd (trip s)) (N + 1) := by
 have g := ok_trip ok
 exact ⟨g.segs, g.pp, g.rows, g.pages, g.wear, g.acts, left_okd _ g.left, Nat.succ_le_succ g.n, Nat.le_succ_of_le g.log, fun i => Nat.le_succ_of_le (g.worn i)⟩
theorem progF_cases (s : FS) (seg page : Int) (b : Bs) (h1 : there s seg page = true) (h2 : b.length = 128) (h3 : s.off = false) : progF s seg page b = if now s seg.toNat page.toNat ≠ FlaM.blank then (s, 70) else if (trip s).off = true then (trip s, 6) else ({ okd (trip s) with L := (okd (trip s)).L ++ [⟨seg.toNat, page, b⟩] }, 0) := by
 unfold progF
 rw [if_neg (by rw [h1, h2]; simp), if_neg (by rw [h3]; decide)]
 rfl
set_option maxRecDepth 10000 in
set_option maxHeartbeats 3200000 in
theorem program_any (H : Own.St B w0 w (AFl p s :: Ps)) (ok : Ok s N) (hN : N <= 10000) (seg page : Int) (hseg : i64B seg) (hpage : i64B page) (ao : Option Addr) (n cap : Nat) (y : Bs) (hy : Lies B w Ps ao n cap y) (hn : n <= 20000) :
 Calls Tryz.prog 68 #[ptr p, .int .i64 seg, .int .i64 page, .slice ao n cap] w fun e w' => e = .returned (errV (progF s seg page y).2) /\ Own.St B w0 w' (AFl p (progF s seg page y).1 :: Ps) := by
 obtain ⟨x, hx, h⟩ := flOpen H
 have HS0 := hasPage_st h seg page
 have hthere : there s seg page = decide (0 <= seg /\ seg < (s.safe.length : Int) /\ 0 <= page /\ page < (s.pp : Int)) := rfl
 rw [<- hthere] at HS0
 have HS := Lib.hid HS0
 have c6 := (h.cellV 0 rfl 6 rfl).1
 have H0 := Lib.hid H
 have hyl := hy.given.size
 obtain ⟨th, hth⟩ : ∃ t, t = there s seg page := ⟨_, rfl⟩
 rw [<- hth] at HS
 cases th
 · have HE : Hid (progF s seg page y = (s, 1)) := by
    show progF s seg page y = (s, 1)
    unfold progF
    rw [if_pos (.inl hth.symm)]
   rw [HE.out]
   clear H h hx ok hy hth hthere c6 HS0 hyl
   go_enter Tryz.func68, Tryz.ntmps68
   go_wp2_with (fail)
   refine HS.out.mono ?_
   rintro e w1 ⟨rfl, rfl⟩
   clear HS
   go_wp2
   go_ret
   exact ⟨rfl, H0.out⟩
 by_cases hn8 : ¬ n = 128
 · have HE : Hid (progF s seg page y = (s, 1)) := by
    show progF s seg page y = (s, 1)
    unfold progF
    rw [if_pos (.inr (by rw [hyl]; exact hn8))]
   rw [HE.out]
   have hni : ((n : Int) != 128) = true := by simp; omega
   clear H h hx ok hy hth hthere c6 HS0 hyl hn8
   go_enter Tryz.func68, Tryz.ntmps68
   go_wp2_with (fail)
   refine HS.out.mono ?_
   rintro e w1 ⟨rfl, rfl⟩
   clear HS
   go_wp2
   go_ret
   exact ⟨rfl, H0.out⟩
 have hn8' : n = 128 := by omega
 subst hn8'
 clear hn8
 by_cases hoff : true = s.off
 · have HE : Hid (progF s seg page y = (s, 6)) := by
    show progF s seg page y = (s, 6)
    unfold progF
    rw [if_neg (by rw [<- hth, hyl]; simp), if_pos hoff.symm]
   rw [HE.out]
   rw [<- hoff] at c6
   clear H h hx ok hy hth hthere HS0 hyl hoff
   go_enter Tryz.func68, Tryz.ntmps68
   go_wp2_with (fail)
   refine HS.out.mono ?_
   rintro e w1 ⟨rfl, rfl⟩
   clear HS
   go_wp2
   go_ret
   exact ⟨rfl, H0.out⟩
 have hoff2 : s.off = false := by cases h : s.off with | false => rfl | true => exact absurd h.symm hoff
 rw [hoff2] at c6
 have hPF := progF_cases s seg page y hth.symm hyl hoff2
 obtain ⟨t1, t2, t3, t4⟩ := there_spec hth.symm
 obtain ⟨k, hk⟩ : ∃ k : Nat, seg = (k : Int) := ⟨seg.toNat, by omega⟩
 obtain ⟨q, hq⟩ : ∃ q : Nat, page = (q : Int) := ⟨page.toNat, by omega⟩
 subst hk hq
 rw [show ((k : Int)).toNat = k from rfl, show ((q : Int)).toNat = q from rfl] at hPF
 have hks : k < s.safe.length := by omega
 have hqp : q < s.pp := by omega
 obtain ⟨gN, g2, cR, haN, cg, rg, hg2, hnl, hcR, hcR2⟩ := now_cells h ok k q hks hqp
 have c1 := (h.cellV 0 rfl 1 rfl).1
 rw [haN] at c1
 obtain ⟨nw, hnw⟩ : ∃ b, b = now s k q := ⟨_, rfl⟩
 rw [<- hnw] at rg hnl hPF
 obtain ⟨bl, hbl⟩ : ∃ b, b = FlaM.blank := ⟨_, rfl⟩
 rw [<- hbl] at hPF
 have hbll : bl.length = 128 := by rw [hbl]; exact blank_len
 have C1 : Hid (∀ wx, Below w.heap.size w wx -> wx.cell? ⟨p, 1, none⟩ = some (.slice (some ⟨gN, 0, none⟩) s.safe.length x.cN)) := fun wx hwx => cellLater c1 hwx
 have CG : Hid (∀ wx, Below w.heap.size w wx -> wx.cell? ⟨gN, k, none⟩ = some (.slice (some ⟨g2, 0, none⟩) s.pp cR)) := fun wx hwx => cellLater cg hwx
 have RG : Hid (∀ wx, Below w.heap.size w wx -> wx.rangeAt g2 (q * 128) (nw.map byteV)) := fun wx hwx => rangeLater rg hwx
 have CE : Hid (∀ wx, Below w.heap.size w wx -> Calls Tryz.prog 62 #[] wx fun e w' => e = .returned (.agg (bl.map byteV).toArray) /\ Below wx.heap.size wx w') := by
  intro wx _
  rw [hbl]
  exact (erased_st (Own.St.start wx)).mono fun e w' ⟨he, h'⟩ => ⟨he, h'.below⟩
 have HNL := Lib.hid hnl
 have HBL := Lib.hid hbll
 obtain ⟨nS, hnS⟩ : ∃ z, z = s.safe.length := ⟨_, rfl⟩
 rw [<- hnS] at C1 hks
 obtain ⟨pp, hpp⟩ : ∃ z, z = s.pp := ⟨_, rfl⟩
 rw [<- hpp] at CG hqp
 by_cases hne : ¬ nw = bl
 · rw [if_pos hne] at hPF
   have HE := Lib.hid hPF
   rw [HE.out]
   have HD : Hid (decide (nw = bl) = false) := decide_eq_false hne
   clear H h hx ok hy hth hthere HS0 hyl hoff hoff2 hPF t1 t2 t3 t4 haN cg rg hg2 hnl hcR hcR2 c1 hnw hbl hbll hnS hpp hne
   go_enter Tryz.func68, Tryz.ntmps68
   go_wp2_with (fail)
   refine HS.out.mono ?_
   rintro e w1 ⟨rfl, rfl⟩
   clear HS
   go_wp2_with (fail)
   refine lxX ?_; refine lxM (.pointer (some ⟨p, 0, none⟩)) rfl ?_; refine lxA (.tmp 26) (.pointer (some ⟨p, 0, none⟩)) (.pointer (some ⟨p, 0, none⟩)) ?_; refine lxA (.tmp 27) (.pointer (some ⟨p, 0, none⟩)) (.pointer (some ⟨p, 1, none⟩)) ?_; refine lxR (.tmp 28) (.pointer (some ⟨p, 1, none⟩)) (.slice (some ⟨gN, 0, none⟩) nS x.cN) (fun wx ρ hwx h0 hc => by simp [go_sem, h0, C1.out wx hwx]) ?_; refine lxM (.int .i64 (k : Int)) rfl ?_; refine lxT (.tmp 29) (.tmp 30) (.slice (some ⟨gN, 0, none⟩) nS x.cN) (.int .i64 (k : Int)) (.pointer (some ⟨gN, k, none⟩)) (fun wx ρ hwx h0 h1 hc => idx_rowsE rfl gN nS x.cN k hks ρ wx h0 h1) ?_; refine lxR (.tmp 31) (.pointer (some ⟨gN, k, none⟩)) (.slice (some ⟨g2, 0, none⟩) pp cR) (fun wx ρ hwx h0 hc => by simp [go_sem, h0, CG.out wx hwx]) ?_; refine lxM (.int .i64 (q : Int)) rfl ?_; refine lxT (.tmp 32) (.tmp 33) (.slice (some ⟨g2, 0, none⟩) pp cR) (.int .i64 (q : Int)) (.pointer (some ⟨g2, q * 128, none⟩)) (fun wx ρ hwx h0 h1 hc => idx_pageE rfl g2 pp cR q hqp ρ wx h0 h1) ?_; refine lxR (.tmp 34) (.pointer (some ⟨g2, q * 128, none⟩)) (.agg (nw.map byteV).toArray) (fun wx ρ hwx h0 hc => load_pageE nw HNL.out rfl ρ (RG.out wx hwx) h0) ?_
   refine wpL_fn (.agg (bl.map byteV).toArray) [] rfl (by kernel_rfl) (by kernel_rfl) (by kernel_rfl) (by kernel_rfl) (fun _ _ => by simp [go_sem]) (fun wx hwx => CE.out wx hwx) ?_
   refine lxT (.tmp 35) (.tmp 36) (.agg (nw.map byteV).toArray) (.agg (bl.map byteV).toArray) (.bool true) (fun wx ρ hwx h0 h1 hc => neq_pageE rfl HNL.out HBL.out HD.out ρ wx h0 h1) ?_
   refine wpL_end (by kernel_rfl) (fun w2 hw2 => ?_)
   simp only [FinL, setL, List.set_cons_zero, List.set_cons_succ]
   have H2 := Lib.hid (H0.out.later hw2)
   clear hw2 C1 CG RG CE H0
   go_wp2
   go_ret
   exact ⟨rfl, H2.out⟩
 · have hne2 : nw = bl := by simpa using hne
   rw [if_neg hne] at hPF
   have HD : Hid (decide (nw = bl) = true) := decide_eq_true hne2
   have HST := Lib.hid h
   have HXX := Lib.hid hx
   have HOK := Lib.hid ok
   have HLY := Lib.hid hy
   by_cases ho : (trip s).off = true
   · rw [if_pos ho] at hPF
     have HE := Lib.hid hPF
     rw [HE.out]
     have HB2 : Hid (∀ wx, Below w.heap.size w wx -> Calls Tryz.prog 35 #[ptr p] wx fun e w' => e = .returned (errV 6) /\ Own.St B w0 w' (AFl p (trip s) :: Ps)) := by
      intro wx hwx
      refine (begin_fl (HST.out.later hwx) HXX.out HOK.out hN).mono ?_
      intro e w' h'
      rw [if_pos ho] at h'
      obtain ⟨he, x', hx', h2⟩ := h'
      exact ⟨he, flClose hx' h2⟩
     clear H h hx ok hy hth hthere HS0 hyl hoff hoff2 hPF t1 t2 t3 t4 haN cg rg hg2 hnl hcR hcR2 c1 hnw hbl hbll hnS hpp hne hne2 ho HST HXX HOK HLY H0
     go_enter Tryz.func68, Tryz.ntmps68
     go_wp2_with (fail)
     refine HS.out.mono ?_
     rintro e w1 ⟨rfl, rfl⟩
     clear HS
     go_wp2_with (fail)
     refine lxX ?_; refine lxM (.pointer (some ⟨p, 0, none⟩)) rfl ?_; refine lxA (.tmp 26) (.pointer (some ⟨p, 0, none⟩)) (.pointer (some ⟨p, 0, none⟩)) ?_; refine lxA (.tmp 27) (.pointer (some ⟨p, 0, none⟩)) (.pointer (some ⟨p, 1, none⟩)) ?_; refine lxR (.tmp 28) (.pointer (some ⟨p, 1, none⟩)) (.slice (some ⟨gN, 0, none⟩) nS x.cN) (fun wx ρ hwx h0 hc => by simp [go_sem, h0, C1.out wx hwx]) ?_; refine lxM (.int .i64 (k : Int)) rfl ?_; refine lxT (.tmp 29) (.tmp 30) (.slice (some ⟨gN, 0, none⟩) nS x.cN) (.int .i64 (k : Int)) (.pointer (some ⟨gN, k, none⟩)) (fun wx ρ hwx h0 h1 hc => idx_rowsE rfl gN nS x.cN k hks ρ wx h0 h1) ?_; refine lxR (.tmp 31) (.pointer (some ⟨gN, k, none⟩)) (.slice (some ⟨g2, 0, none⟩) pp cR) (fun wx ρ hwx h0 hc => by simp [go_sem, h0, CG.out wx hwx]) ?_; refine lxM (.int .i64 (q : Int)) rfl ?_; refine lxT (.tmp 32) (.tmp 33) (.slice (some ⟨g2, 0, none⟩) pp cR) (.int .i64 (q : Int)) (.pointer (some ⟨g2, q * 128, none⟩)) (fun wx ρ hwx h0 h1 hc => idx_pageE rfl g2 pp cR q hqp ρ wx h0 h1) ?_; refine lxR (.tmp 34) (.pointer (some ⟨g2, q * 128, none⟩)) (.agg (nw.map byteV).toArray) (fun wx ρ hwx h0 hc => load_pageE nw HNL.out rfl ρ (RG.out wx hwx) h0) ?_
     refine wpL_fn (.agg (bl.map byteV).toArray) [] rfl (by kernel_rfl) (by kernel_rfl) (by kernel_rfl) (by kernel_rfl) (fun _ _ => by simp [go_sem]) (fun wx hwx => CE.out wx hwx) ?_
     refine lxT (.tmp 35) (.tmp 36) (.agg (nw.map byteV).toArray) (.agg (bl.map byteV).toArray) (.bool false) (fun wx ρ hwx h0 h1 hc => neq_pageE rfl HNL.out HBL.out HD.out ρ wx h0 h1) ?_
     refine wpL_end (by kernel_rfl) (fun w2 hw2 => ?_)
     simp only [FinL, setL, List.set_cons_zero, List.set_cons_succ]
     have HB3 := Lib.hid (HB2.out w2 hw2)
     clear hw2 C1 CG RG CE HB2
     go_wp2_with (fail)
     refine HB3.out.mono ?_
     clear HB3
     rintro e w3 ⟨rfl, h3⟩
     have H3 := Lib.hid h3
     clear h3
     go_wp2
     go_ret
     exact ⟨rfl, H3.out⟩
   · rw [if_neg ho] at hPF
     obtain ⟨t, htt⟩ : ∃ t, t = okd (trip s) := ⟨_, rfl⟩
     rw [<- htt] at hPF
     have HE := Lib.hid hPF
     rw [HE.out]
     have HB2 : Hid (∀ wx, Below w.heap.size w wx -> Calls Tryz.prog 35 #[ptr p] wx fun e w' => e = .returned (errV 0) /\ ∃ x', HRel x' t /\ Own.St B w0 w' (flParts p x' t ++ Ps)) := by
      intro wx hwx
      refine (begin_fl (HST.out.later hwx) HXX.out HOK.out hN).mono ?_
      intro e w' h'
      rw [if_neg ho, <- htt] at h'
      exact h'
     have okt : Ok t (N + 1) := by rw [htt]; exact okd_trip ok
     have HOT := Lib.hid okt
     have hlog : t.L.length <= 10000 := by rw [htt]; show (trip s).L.length <= _; rw [(trip_safe s).2.1]; have := ok.log; have := ok.n; omega
     have hsl : t.safe.length = s.safe.length := by rw [htt]; show (trip s).safe.length = _; rw [(trip_safe s).1]
     have hps : t.pp = s.pp := by rw [htt]; show (trip s).pp = _; exact (trip_safe s).2.2.2.2
     have ACT : Hid (ActOk t.safe.length t.pp ⟨k, (q : Int), y⟩) := ⟨by show k < t.safe.length; omega, .inl ⟨by show (0 : Int) <= (q : Int); omega, by show (q : Int) < (t.pp : Int); omega, hyl⟩⟩
     have LAT : Hid (∀ (wx : World) (Xs : List Asn), Own.St B w0 wx (Xs ++ Ps) -> Given wx ao 128 cap y) := fun wx Xs hst => lies_later HLY.out HST.out hst
     have HYL := Lib.hid hyl
     clear H h hx ok hy hth hthere HS0 hyl hoff hoff2 hPF t1 t2 t3 t4 haN cg rg hg2 hnl hcR hcR2 c1 hnw hbl hbll hnS hpp hne hne2 ho HST HXX HOK HLY H0 htt okt hsl hps
     go_enter Tryz.func68, Tryz.ntmps68
     go_wp2_with (fail)
     refine HS.out.mono ?_
     rintro e w1 ⟨rfl, rfl⟩
     clear HS
     go_wp2_with (fail)
     refine lxX ?_; refine lxM (.pointer (some ⟨p, 0, none⟩)) rfl ?_; refine lxA (.tmp 26) (.pointer (some ⟨p, 0, none⟩)) (.pointer (some ⟨p, 0, none⟩)) ?_; refine lxA (.tmp 27) (.pointer (some ⟨p, 0, none⟩)) (.pointer (some ⟨p, 1, none⟩)) ?_; refine lxR (.tmp 28) (.pointer (some ⟨p, 1, none⟩)) (.slice (some ⟨gN, 0, none⟩) nS x.cN) (fun wx ρ hwx h0 hc => by simp [go_sem, h0, C1.out wx hwx]) ?_; refine lxM (.int .i64 (k : Int)) rfl ?_; refine lxT (.tmp 29) (.tmp 30) (.slice (some ⟨gN, 0, none⟩) nS x.cN) (.int .i64 (k : Int)) (.pointer (some ⟨gN, k, none⟩)) (fun wx ρ hwx h0 h1 hc => idx_rowsE rfl gN nS x.cN k hks ρ wx h0 h1) ?_; refine lxR (.tmp 31) (.pointer (some ⟨gN, k, none⟩)) (.slice (some ⟨g2, 0, none⟩) pp cR) (fun wx ρ hwx h0 hc => by simp [go_sem, h0, CG.out wx hwx]) ?_; refine lxM (.int .i64 (q : Int)) rfl ?_; refine lxT (.tmp 32) (.tmp 33) (.slice (some ⟨g2, 0, none⟩) pp cR) (.int .i64 (q : Int)) (.pointer (some ⟨g2, q * 128, none⟩)) (fun wx ρ hwx h0 h1 hc => idx_pageE rfl g2 pp cR q hqp ρ wx h0 h1) ?_; refine lxR (.tmp 34) (.pointer (some ⟨g2, q * 128, none⟩)) (.agg (nw.map byteV).toArray) (fun wx ρ hwx h0 hc => load_pageE nw HNL.out rfl ρ (RG.out wx hwx) h0) ?_
     refine wpL_fn (.agg (bl.map byteV).toArray) [] rfl (by kernel_rfl) (by kernel_rfl) (by kernel_rfl) (by kernel_rfl) (fun _ _ => by simp [go_sem]) (fun wx hwx => CE.out wx hwx) ?_
     refine lxT (.tmp 35) (.tmp 36) (.agg (nw.map byteV).toArray) (.agg (bl.map byteV).toArray) (.bool false) (fun wx ρ hwx h0 h1 hc => neq_pageE rfl HNL.out HBL.out HD.out ρ wx h0 h1) ?_
     refine wpL_end (by kernel_rfl) (fun w2 hw2 => ?_)
     simp only [FinL, setL, List.set_cons_zero, List.set_cons_succ]
     have HB3 := Lib.hid (HB2.out w2 hw2)
     clear hw2 C1 CG RG CE HB2
     go_wp2_with (fail)
     refine HB3.out.mono ?_
     clear HB3
     rintro e w3 ⟨rfl, x', hx', h3⟩
     have G3 := LAT.out w3 _ h3
     obtain ⟨bo, oo, rfl, _, _, _⟩ := vat G3.view (k := 0) (by rw [HYL.out]; decide)
     have RY : Hid (w3.rangeAt bo oo (y.map byteV)) := by
      intro j v hv
      have := vcells G3.view _ rfl j v hv
      rw [add_of] at this
      exact this
     have hat : (Instr.arrayAt 123 (.slice (some ⟨bo, oo, none⟩) 128 cap)).run Tryz.prog w3 = .ok (.pointer (some ⟨bo, oo, none⟩)) w3 := run_arrayAt w3 123 _ 128 _ 128 cap Tryz.underlying123 (Nat.le_refl _)
     have IY := Lib.hid (info_pageL y HYL.out)
     obtain ⟨cs, hcs⟩ : ∃ c, c = opCells ⟨k, (q : Int), y⟩ := ⟨_, rfl⟩
     have BE : Hid (Tryz.prog.built 142 [(1, .int .i64 (k : Int)), (2, .int .i64 (q : Int)), (3, .agg (y.map byteV).toArray)] = some cs.toArray) := by rw [hcs]; exact built_prog k q y HYL.out
     have PF : Hid (Calls Tryz.prog 97 #[ptr p, .agg cs.toArray] w3 fun e w' => e = .returned (.tuple #[]) /\ Own.St B w0 w' (AFl p { t with L := t.L ++ [⟨k, (q : Int), y⟩] } :: Ps)) := by
      rw [hcs]
      exact perform_fl h3 hx' HOT.out.shape HOT.out.segs HOT.out.pp HOT.out.acts ⟨k, (q : Int), y⟩ ACT.out hlog
     clear h3 G3 hcs hx' LAT
     go_wp2_with (first
      | (refine wpList_load_mid rfl 123 (.tmp 47) rfl bo oo rfl (y.map byteV) _ RY.out Tryz.underlying123 rfl IY.out ?_)
      | (refine Fla.wpList_built rfl 142 #[(1, .tmp 44), (2, .tmp 45), (3, .tmp 48)] rfl cs.toArray ?_ ?_; · (simp only [List.map_toArray, List.map_cons, List.map_nil, List.toList_toArray]; exact BE.out)))
     refine PF.out.mono ?_
     clear PF BE RY hat
     rintro e w4 ⟨rfl, h4⟩
     have H4 := Lib.hid h4
     clear h4
     go_wp2
     go_ret
     exact ⟨rfl, H4.out⟩
end
end Fla
end Go.Proofs.YtahjjcmeocibbaaGreatDoor
end
section
namespace Go.Proofs.YtahjjcmeocibbaaGreatDoor
open Go.RowKit Go.Own
namespace Fla
open Go.FlaM Byt
section
variable {B : Nat} {w0 w : World} {Ps : List Asn} {p : Nat} {s : FS} {N : Nat}
set_option maxHeartbeats 1600000 in
theorem read_any (H : Own.St B w0 w (AFl p s :: Ps)) (ok : Ok s N) (hN : N <= 10000) (seg page : Int) (hseg : i64B seg) (hpage : i64B page) :
 Calls Tryz.prog 81 #[ptr p, .int .i64 seg, .int .i64 page] w fun e w' => ∃ ao cap, e = .returned (.tuple #[.slice ao (read s seg page).1.length cap, errV (read s seg page).2]) /\ Own.St B w0 w' (AB ao (read s seg page).1.length cap (read s seg page).1 :: AFl p s :: Ps) := by
 obtain ⟨x, hx, h⟩ := flOpen H
 have HS0 := hasPage_st h seg page
 have hthere : there s seg page = decide (0 <= seg /\ seg < (s.safe.length : Int) /\ 0 <= page /\ page < (s.pp : Int)) := rfl
 rw [<- hthere] at HS0
 have HS := Lib.hid HS0
 have c6 := (h.cellV 0 rfl 6 rfl).1
 have H0 := Lib.hid H
 obtain ⟨th, hth⟩ : ∃ t, t = there s seg page := ⟨_, rfl⟩
 rw [<- hth] at HS
 cases th
 · have HE : Hid (read s seg page = ([], 1)) := by
    show read s seg page = ([], 1)
    unfold FlaM.read
    rw [if_pos hth.symm]
   rw [HE.out]
   clear H h hx ok hth hthere c6 HS0
   go_enter Tryz.func81, Tryz.ntmps81
   go_wp2_with (fail)
   refine HS.out.mono ?_
   rintro e w1 ⟨rfl, rfl⟩
   clear HS
   go_wp2
   go_ret2
   exact ⟨none, 0, rfl, ab_nil H0.out⟩
 by_cases hoff : true = s.off
 · have HE : Hid (read s seg page = ([], 6)) := by
    show read s seg page = ([], 6)
    unfold FlaM.read
    rw [if_neg (by rw [<- hth]; simp), if_pos hoff.symm]
   rw [HE.out]
   rw [<- hoff] at c6
   clear H h hx ok hth hthere HS0 hoff
   go_enter Tryz.func81, Tryz.ntmps81
   go_wp2_with (fail)
   refine HS.out.mono ?_
   rintro e w1 ⟨rfl, rfl⟩
   clear HS
   go_wp2
   go_ret2
   exact ⟨none, 0, rfl, ab_nil H0.out⟩
 have hoff2 : s.off = false := by cases h : s.off with | false => rfl | true => exact absurd h.symm hoff
 rw [hoff2] at c6
 obtain ⟨t1, t2, t3, t4⟩ := there_spec hth.symm
 obtain ⟨k, hk⟩ : ∃ k : Nat, seg = (k : Int) := ⟨seg.toNat, by omega⟩
 obtain ⟨q, hq⟩ : ∃ q : Nat, page = (q : Int) := ⟨page.toNat, by omega⟩
 subst hk hq
 have hks : k < s.safe.length := by omega
 have hqp : q < s.pp := by omega
 obtain ⟨gN, g2, cR, haN, cg, rg, hg2, hnl, hcR, hcR2⟩ := now_cells h ok k q hks hqp
 have HE : Hid (read s (k : Int) (q : Int) = (now s k q, 0)) := by
  show read s (k : Int) (q : Int) = (now s k q, 0)
  unfold FlaM.read
  rw [if_neg (by rw [<- hth]; simp), if_neg (by rw [hoff2]; decide)]
  rfl
 rw [HE.out]
 have c1 := (h.cellV 0 rfl 1 rfl).1
 rw [haN] at c1
 obtain ⟨nw, hnw⟩ : ∃ b, b = now s k q := ⟨_, rfl⟩
 rw [<- hnw] at rg hnl ⊢
 have CB : Hid (Calls Tryz.prog 47 #[.slice (some ⟨g2, q * 128, none⟩) 128 128] w fun e w' => ∃ a' c', e = .returned (.slice a' 128 c') /\ Own.St B w0 w' (AB a' 128 c' nw :: AFl p s :: Ps)) :=
  cloneBytes H ⟨g2, q * 128, none⟩ 128 128 nw hnl (fun j u hu => by rw [add_of]; exact rg j u hu) (.inr hg2) (by decide)
 have HNL := Lib.hid hnl
 obtain ⟨nS, hnS⟩ : ∃ z, z = s.safe.length := ⟨_, rfl⟩
 rw [<- hnS] at c1 hks
 obtain ⟨pp, hpp⟩ : ∃ z, z = s.pp := ⟨_, rfl⟩
 rw [<- hpp] at cg hqp
 clear H h hx ok hth hthere HS0 hoff hoff2 t1 t2 t3 t4 haN rg hg2 hnl hcR hcR2 hnw hnS hpp H0
 go_enter Tryz.func81, Tryz.ntmps81
 go_wp2_with (fail)
 refine HS.out.mono ?_
 rintro e w1 ⟨rfl, rfl⟩
 clear HS
 go_wp2_with (fail)
 refine CB.out.mono ?_
 clear CB c1 cg c6
 rintro e w2 ⟨a2, c2, rfl, h2⟩
 have H2 := Lib.hid h2
 clear h2
 go_wp2
 go_ret2
 refine ⟨a2, c2, ?_, ?_⟩
 · rw [HNL.out]; rfl
 · rw [HNL.out]; exact H2.out
end
end Fla
end Go.Proofs.YtahjjcmeocibbaaGreatDoor
end
section
namespace Go.Own
open Go.RowKit Go.FlaM
end Go.Own
namespace Go.Proofs.YtahjjcmeocibbaaGreatDoor
open Go.RowKit Go.Own
namespace Fla
open Go.FlaM Byt
theorem oneInt8 : One Tryz.prog 23 3 (.int .i64 0) 8 := ⟨Tryz.underlying23, by kernel_rfl, rfl⟩
theorem make_E {o : Oper} {x : Tmp} {t : TypeId} (ho : o.op = .makeSlice t (.tmp x) (.tmp x)) {ρ : Operand -> Value} {w w' : World} {n v : Value} (h0 : ρ (.tmp x) = n) (hrun : (Instr.makeSlice t n n).run Tryz.prog w = .ok v w') : (execOp ρ o).run Tryz.prog w = .ok (.value v) w' := by
 unfold execOp
 simp [ho, h0, hrun]
def zeroPage : Bs := List.replicate 128 0
theorem wipe_all (row : List Bs) : wipeTo row row.length = List.replicate row.length FlaM.blank := by
 have : ∀ m, m <= row.length -> wipeTo row m = List.replicate m FlaM.blank ++ row.drop m := by
  intro m
  induction m with
  | zero => intro _; simp [wipeTo]
  | succ m ih =>
   intro hm
   rw [wipeTo, ih (by omega), List.set_append_right _ _ (by simp), List.length_replicate, Nat.sub_self, List.drop_eq_getElem_cons (by omega), List.set_cons_zero, List.replicate_succ', List.append_assoc]
   rfl
 rw [this _ (Nat.le_refl _), List.drop_length, List.append_nil]
theorem rep_set (S k : Nat) (hk : k < S) (a b : List Bs) : (List.replicate k a ++ List.replicate (S - k) b).set k a = List.replicate (k + 1) a ++ List.replicate (S - (k + 1)) b := by
 have e : S - k = (S - (k + 1)) + 1 := by omega
 rw [e, List.replicate_succ, List.set_append_right _ _ (by simp), List.length_replicate, Nat.sub_self, List.set_cons_zero, List.replicate_succ', List.append_assoc]
 rfl
section
variable {B : Nat} {w0 w : World} {Ps : List Asn}
theorem new_no (segs pages : Int) (H : Own.St B w0 w Ps) (hm : ¬ mayBe segs pages = true) :
 Calls Tryz.prog 5 #[.int .i64 segs, .int .i64 pages] w fun e w' => e = .returned (.tuple #[.pointer none, errV 1]) /\ Own.St B w0 w' Ps := by
 have H0 := Lib.hid H
 have hm2 : ¬ (0 <= segs /\ segs <= 256 /\ 1 <= pages /\ pages <= 64) := by simpa [mayBe] using hm
 clear H hm
 by_cases q1 : segs < 0
 · clear hm2
   go_enter Tryz.func5, Tryz.ntmps5
   go_wp2
   go_ret2
   exact ⟨rfl, H0.out⟩
 by_cases q2 : 256 < segs
 · clear hm2
   go_enter Tryz.func5, Tryz.ntmps5
   go_wp2
   go_ret2
   exact ⟨rfl, H0.out⟩
 by_cases q3 : pages < 1
 · clear hm2
   go_enter Tryz.func5, Tryz.ntmps5
   go_wp2
   go_ret2
   exact ⟨rfl, H0.out⟩
 have q4 : 64 < pages := by omega
 clear hm2
 go_enter Tryz.func5, Tryz.ntmps5
 go_wp2
 go_ret2
 exact ⟨rfl, H0.out⟩
set_option maxRecDepth 10000 in
set_option maxHeartbeats 3200000 in
theorem new_yes (S PP : Nat) (H : Own.St B w0 w Ps) (hS256 : S <= 256) (hPP : 1 <= PP /\ PP <= 64) :
 Calls Tryz.prog 5 #[.int .i64 (S : Int), .int .i64 (PP : Int)] w fun e w' => ∃ p, e = .returned (.tuple #[ptr p, errV 0]) /\ Own.St B w0 w' (AFl p (fresh S PP) :: Ps) := by
 obtain ⟨wA, gA, eA, hA⟩ := St.pMake (e := 123) oneRowB H.drew .i64 .i64 S (by omega) (by decide)
 obtain ⟨wA2, gA2, eA2, hA2⟩ := St.oneMake oneInt8 hA .i64 .i64 S (by omega) (by decide) rfl
 obtain ⟨wB, gB, eB, hB⟩ := St.oneMake oneInt8 H.drew .i64 .i64 S (by omega) (by decide) rfl
 obtain ⟨wB2, gB2, eB2, hB2⟩ := St.pMake (e := 123) oneRowB hB .i64 .i64 S (by omega) (by decide)
 have HA2 := Lib.hid hA2.swap2
 have HB2 := Lib.hid hB2
 clear hA hA2 hB hB2 H
 obtain ⟨hp1, hp2⟩ := hPP
 go_enter Tryz.func5, Tryz.ntmps5
 go_wp2_with (fail)
 go_region
 all_goals
  go_wp2
  first
   | (obtain ⟨gS, hgS⟩ : ∃ x, x = gA := ⟨_, rfl⟩; obtain ⟨gW, hgW⟩ : ∃ x, x = gA2 := ⟨_, rfl⟩; obtain ⟨w2, hw2⟩ : ∃ x, x = wA2 := ⟨_, rfl⟩; rw [<- hw2]; rw [<- hgS, <- hgW] at HA2 ⊢; rw [<- hw2] at HA2; have HH := HA2; clear HA2 HB2 eA eA2 eB eB2 hgS hgW hw2)
   | (obtain ⟨gS, hgS⟩ : ∃ x, x = gB2 := ⟨_, rfl⟩; obtain ⟨gW, hgW⟩ : ∃ x, x = gB := ⟨_, rfl⟩; obtain ⟨w2, hw2⟩ : ∃ x, x = wB2 := ⟨_, rfl⟩; rw [<- hw2]; rw [<- hgS, <- hgW] at HB2 ⊢; rw [<- hw2] at HB2; have HH := HB2; clear HA2 HB2 eA eA2 eB eB2 hgS hgW hw2)
  have hb := HH.out.boxV 79 (flCells PP (.slice none 0 0) (.slice (some ⟨gS, 0, none⟩) S S) (.slice none 0 0) (.slice (some ⟨gW, 0, none⟩) S S) 0 false false 0)
  obtain ⟨p, hp⟩ : ∃ p, p = w2.heap.size := ⟨_, rfl⟩
  rw [<- hp] at hb ⊢
  obtain ⟨W, hW⟩ : ∃ W, W = w2.alloc (.cells (flCells PP (.slice none 0 0) (.slice (some ⟨gS, 0, none⟩) S S) (.slice none 0 0) (.slice (some ⟨gW, 0, none⟩) S S) 0 false false 0).toArray 79) := ⟨_, rfl⟩
  have hW2 : w2.alloc (.cells #[.int .i64 (PP : Int), .slice none 0 0, .slice (some ⟨gS, 0, none⟩) S S, .slice none 0 0, .slice (some ⟨gW, 0, none⟩) S S, .int .i64 0, .bool false, .bool false, .int .i64 0] 79) = W := hW.symm
  rw [<- hW] at hb
  rw [hW2]
  have H0 := Lib.hid hb
  clear hb hW hW2 hp HH
  go_loopw [34] (fun v wr => ∃ k : Nat, k <= S /\ v = .int .i64 (k : Int) /\ Own.St B w0 wr (AVals p 79 (flCells PP (.slice none 0 0) (.slice (some ⟨gS, 0, none⟩) S S) (.slice none 0 0) (.slice (some ⟨gW, 0, none⟩) S S) 0 false false 0) :: gridT (.slice (some ⟨gS, 0, none⟩) S S) (List.replicate k (List.replicate PP FlaM.blank) ++ List.replicate (S - k) []) :: ARow 3 1 (.slice (some ⟨gW, 0, none⟩) S S) S (List.replicate S (.int .i64 0)) :: Ps)) (fun v _ => S - (intOf v).toNat)
  case atStart => exact ⟨0, Nat.zero_le _, rfl, by rw [List.replicate_zero, List.nil_append, Nat.sub_zero]; exact H0.out⟩
  case round =>
   obtain ⟨k, hkS, rfl, H⟩ := hrel
   have H := Lib.hid H
   clear H0
   by_cases hk : (k : Int) < (S : Int)
   · have hkn : k < S := by omega
     obtain ⟨w1, g1, e1, h1⟩ := St.manyMake (zs := zeroPage.map byteV) manyPage zero_page rfl H.out.drew .i64 .i64 PP (by omega) (by decide)
     have hfl : (List.replicate PP (zeroPage.map byteV)).flatten = ((List.replicate PP zeroPage).flatten.map byteV) := by rw [List.map_flatten, List.map_replicate]
     have hpr : ARow 123 128 (.slice (some ⟨g1, 0, none⟩) PP PP) PP ((List.replicate PP (zeroPage.map byteV)).flatten) = pRow 123 (some ⟨g1, 0, none⟩, PP) (List.replicate PP zeroPage) := by
      unfold pRow
      rw [hfl, List.length_replicate]
     rw [hpr] at h1
     have c2a := (H.out.drew.cellV 0 rfl 2 rfl).1
     have c2b := (h1.cellV 1 rfl 2 rfl).1
     have h2 := (h1.front 2 rfl)
     simp only [List.eraseIdx_cons_succ, List.eraseIdx_cons_zero] at h2
     have hlen : (List.replicate k (List.replicate PP FlaM.blank) ++ List.replicate (S - k) ([] : List Bs)).length = S := by simp; omega
     obtain ⟨g', c', hv, ⟨u, cu⟩, fu, h3⟩ := h2.pPut k (by rw [hlen]; exact hkn)
     simp only [Value.slice.injEq] at hv
     obtain ⟨hg', hl1, hl2⟩ := hv
     cases hg'
     clear hl1 hl2
     rw [List.length_replicate] at h3
     have C2A := Lib.hid c2a
     have C2B := Lib.hid c2b
     have E1 := Lib.hid e1
     have CU : Hid (w1.cell? ⟨gS, k, none⟩ = some u /\ w1.frozen? ⟨gS, k, none⟩ = false) := ⟨cu, fu⟩
     have H3 := Lib.hid h3
     clear h1 h2 h3 hfl hpr hlen cu fu c2a c2b e1
     go_wp2_with (fail)
     refine wp_chain_list [6, 8] (fun j wx => wx = match j with | 0 => wr.drew | 1 => w1 | _ => w1.setCell ⟨gS, k, none⟩ (.slice (some ⟨g1, 0, none⟩) PP PP)) (by kernel_rfl) (by kernel_rfl) (by kernel_rfl) (by kernel_rfl) rfl ?_
     refine wpG_move (.pointer (some ⟨p, 0, none⟩)) rfl (by kernel_rfl) (by kernel_rfl) (by kernel_rfl) ?_
     refine wpG_run1 (x := .tmp 37) (.pointer (some ⟨p, 0, none⟩)) (.pointer (some ⟨p, 0, none⟩)) (by kernel_rfl) (by kernel_rfl) (by kernel_rfl) (by kernel_rfl) (fun j wx ρ hC h0 hc => by simp [go_sem, h0]) ?_
     refine wpG_run1 (x := .tmp 38) (.pointer (some ⟨p, 0, none⟩)) (.pointer (some ⟨p, 2, none⟩)) (by kernel_rfl) (by kernel_rfl) (by kernel_rfl) (by kernel_rfl) (fun j wx ρ hC h0 hc => by simp [go_sem, h0]) ?_
     refine wpG_runU1 (x := .tmp 39) 1 (.pointer (some ⟨p, 2, none⟩)) (.slice (some ⟨gS, 0, none⟩) S S) (by kernel_rfl) (by kernel_rfl) (by kernel_rfl) (by kernel_rfl) (by kernel_rfl) (by kernel_rfl) (fun j wx ρ hj hC h0 hc => ?_) ?_
     · have hcell : wx.cell? ⟨p, 2, none⟩ = some (.slice (some ⟨gS, 0, none⟩) S S) := by
        match j, hj with
        | 0, _ => subst hC; exact C2A.out
        | 1, _ => subst hC; exact C2B.out
       simp [go_sem, h0, hcell]
     refine wpG_move (.int .i64 (k : Int)) rfl (by kernel_rfl) (by kernel_rfl) (by kernel_rfl) ?_
     refine wpG_move (.int .i64 (PP : Int)) rfl (by kernel_rfl) (by kernel_rfl) (by kernel_rfl) ?_
     refine wpG_op 0 (.slice (some ⟨g1, 0, none⟩) PP PP) _ (.inl rfl) (by kernel_rfl) (by kernel_rfl) (by kernel_rfl) (by kernel_rfl) (by kernel_rfl) (fun wx hC => ⟨w1, by subst hC; exact make_E rfl rfl E1.out, rfl⟩) ?_
     refine wpG_run2 (x := .tmp 40) (y := .tmp 41) (.slice (some ⟨gS, 0, none⟩) S S) (.int .i64 (k : Int)) (.pointer (some ⟨gS, k, none⟩)) (by kernel_rfl) (by kernel_rfl) (by kernel_rfl) (by kernel_rfl) (by kernel_rfl) (fun j wx ρ hC h0 h1 hc => idx_rowsE rfl gS S S k hkn ρ wx h0 h1) ?_
     refine wpG_op 1 undef _ (.inr ⟨rfl, rfl⟩) (by kernel_rfl) (by kernel_rfl) (by kernel_rfl) (by kernel_rfl) (by kernel_rfl) (fun wx hC => ⟨w1.setCell ⟨gS, k, none⟩ (.slice (some ⟨g1, 0, none⟩) PP PP), by subst hC; exact store_E (a := .pointer (some ⟨gS, k, none⟩)) (v := .slice (some ⟨g1, 0, none⟩) PP PP) rfl (by kernel_rfl) (by kernel_rfl) (by simp [go_sem, CU.out.1, CU.out.2]), rfl⟩) ?_
     refine wpG_end (fun w9 hw9 => ?_)
     have hw9' : w9 = w1.setCell ⟨gS, k, none⟩ (.slice (some ⟨g1, 0, none⟩) PP PP) := hw9
     rw [<- hw9'] at H3
     clear hw9 hw9' C2A C2B E1 CU
     simp only [setL, List.set_cons_zero, List.set_cons_succ]
     have hat : ((List.replicate k (List.replicate PP FlaM.blank) ++ List.replicate (S - k) ([] : List Bs)).set k (List.replicate PP zeroPage))[k]? = some (List.replicate PP zeroPage) := List.getElem?_set_self (by simp; omega)
     obtain ⟨g4, c4, ⟨a4, r4⟩, Qs, hv, cg, hR, put⟩ := H3.out.pRowAt k _ hat
     simp only [Value.slice.injEq] at hv
     obtain ⟨hg4, hl1, hl2⟩ := hv
     cases hg4
     clear hl1 hl2
     rw [List.length_replicate] at cg
     have c2c := (H3.out.cellV 1 rfl 2 rfl).1
     have CWP : Hid (Calls Tryz.prog 23 #[.slice a4 PP r4] w9 fun e w' => e = .returned (.tuple #[]) /\ Own.St B w0 w' (AVals p 79 (flCells PP (.slice none 0 0) (.slice (some ⟨gS, 0, none⟩) S S) (.slice none 0 0) (.slice (some ⟨gW, 0, none⟩) S S) 0 false false 0) :: gridT (.slice (some ⟨gS, 0, none⟩) S S) (List.replicate (k + 1) (List.replicate PP FlaM.blank) ++ List.replicate (S - (k + 1)) []) :: ARow 3 1 (.slice (some ⟨gW, 0, none⟩) S S) S (List.replicate S (.int .i64 0)) :: Ps)) := by
      refine (wipe_st hR (fun x hx => by rw [List.eq_of_mem_replicate hx]; rfl) PP (by rw [List.length_replicate]; exact Nat.le_refl _) (by rw [List.length_replicate]; omega)).mono ?_
      rintro e w' ⟨he, h'⟩
      refine ⟨he, ?_⟩
      have h5 := put w' (wipeTo (List.replicate PP zeroPage) PP) (wipeTo_len _ _) h'
      have hwa := wipe_all (List.replicate PP zeroPage)
      rw [List.length_replicate] at hwa
      rw [List.set_set, hwa, rep_set S k hkn] at h5
      exact h5.swap2
     clear hat hR put H3
     go_wp2_with (fail)
     refine CWP.out.mono ?_
     clear CWP cg c2c
     rintro e w5 ⟨rfl, h5⟩
     have H5 := Lib.hid h5
     clear h5
     go_wp2
     go_roundw
     case rel => exact ⟨k + 1, by omega, by go_num, H5.out⟩
     case measure => simp [intOf]; omega
   · have hks2 : k = S := by omega
     have H1 : Hid (Own.St B w0 wr (AVals p 79 (flCells PP (.slice none 0 0) (.slice (some ⟨gS, 0, none⟩) S S) (.slice none 0 0) (.slice (some ⟨gW, 0, none⟩) S S) 0 false false 0) :: gridT (.slice (some ⟨gS, 0, none⟩) S S) (List.replicate S (List.replicate PP FlaM.blank)) :: ARow 3 1 (.slice (some ⟨gW, 0, none⟩) S S) S (List.replicate S (.int .i64 0)) :: Ps)) := by
      have h := H.out
      rw [hks2, Nat.sub_self, List.replicate_zero, List.append_nil] at h
      exact h
     have okf := ok_fresh S PP hS256 ⟨hp1, hp2⟩
     have hsh : Shape (List.replicate S (List.replicate PP FlaM.blank)) S PP := by
      have := okf.shape
      rw [show (fresh S PP).safe.length = S by simp [fresh]] at this
      exact this
     have hcl := clone_st H1.out.swap2 hsh hS256 ⟨hp1, hp2⟩
     rw [List.length_replicate] at hcl
     have CC := Lib.hid hcl
     have c2 := (H1.out.cellV 0 rfl 2 rfl).1
     have HSH := Lib.hid hsh
     clear H hks2 hcl okf hsh hkS
     go_wp2_with (fail)
     refine CC.out.mono ?_
     clear CC c2 H1
     rintro e w3 ⟨a3, c3, rfl, h3⟩
     have q1 := (h3.cellV 2 rfl 1 rfl)
     have h4 := h3.storeV 2 rfl 1 (.slice a3 S c3)
     simp only [List.set_cons_succ, List.set_cons_zero] at h4
     have h5 := (h4.front 2 rfl)
     simp only [List.eraseIdx_cons_succ, List.eraseIdx_cons_zero] at h5
     have h6 := h5.rowFresh (e := 142) (size := 131)
     have FIN : Hid (Own.St B w0 (w3.setCell ⟨p, 1, none⟩ (.slice a3 S c3)) (AFl p (fresh S PP) :: Ps)) := by
      refine flClose (x := ⟨a3, c3, some ⟨gS, 0, none⟩, S, .slice none 0 0, .slice (some ⟨gW, 0, none⟩) S S, false, 0⟩) ⟨by unfold i64B; simp, fun _ => ⟨fun h => (by cases h), fun _ => rfl⟩, fun h => (by cases h)⟩ ?_
      have h7 := (h6.perm (List.Perm.swap _ _ _)).perm ((((List.Perm.swap _ _ _)).trans ((List.Perm.swap _ _ _).cons _)).cons _)
      unfold flParts fresh
      simp only [List.length_replicate, List.map_replicate, List.length_nil, List.flatMap_nil]
      exact h7
     clear h3 h4 h5 h6
     go_wp2
     go_ret2
     exact ⟨p, rfl, FIN.out⟩
theorem new_any (segs pages : Int) (H : Own.St B w0 w Ps) (h1 : i64B segs) (h2 : i64B pages) :
 Calls Tryz.prog 5 #[.int .i64 segs, .int .i64 pages] w fun e w' => if mayBe segs pages = true then ∃ p, e = .returned (.tuple #[ptr p, errV 0]) /\ Own.St B w0 w' (AFl p (fresh segs.toNat pages.toNat) :: Ps) else e = .returned (.tuple #[.pointer none, errV 1]) /\ Own.St B w0 w' Ps := by
 by_cases hm : mayBe segs pages = true
 · have hm2 : 0 <= segs /\ segs <= 256 /\ 1 <= pages /\ pages <= 64 := by simpa [mayBe] using hm
   obtain ⟨S, hS⟩ : ∃ S : Nat, segs = (S : Int) := ⟨segs.toNat, by omega⟩
   obtain ⟨PP, hP⟩ : ∃ P : Nat, pages = (P : Int) := ⟨pages.toNat, by omega⟩
   subst hS hP
   refine (new_yes S PP H (by omega) (by omega)).mono ?_
   intro e w' h
   rw [if_pos hm]
   exact h
 · refine (new_no segs pages H hm).mono ?_
   intro e w' h
   rw [if_neg hm]
   exact h
end
end Fla
end Go.Proofs.YtahjjcmeocibbaaGreatDoor
end
section
namespace Go.Proofs.YtahjjcmeocibbaaGreatDoor
open Go.RowKit Go.Own
namespace Fla
open Go.FlaM Byt
noncomputable def kept (W : World) : Kept W where
 A := AFl
 new segs pages _ H h1 h2 := new_any segs pages H h1 h2
 barrier _ H ok hN := barrier_any H ok hN
 cut after _ H _ _ h := cut_any H after h
 crash ao n cap l _ H ok hN hl := crash_any H ok hN ao n cap l hl
 segs _ H ok _ := segs_any H ok
 pages _ H _ _ := pages_any H
end Fla
end Go.Proofs.YtahjjcmeocibbaaGreatDoor
end
section
namespace Go.Proofs.YtahjjcmeocibbaaGreatDoor
open Go.RowKit Go.Own
namespace Byt
variable {P : Program} {ops : Array Oper} {rest : List Oper} {o : Oper} {C : World -> Prop} {Q : Act -> World -> Prop} {I : Lx} {fs : List Value} {ds : List Deferred}
theorem wpT_seeT {a : Act} {t d : Tmp} {R : Ty} (R' : Ty) (hd : o.dst = some d) (hx : I.lookup t = some R) (hm : (Operand.tmp t) ∈ o.op.operands) (hs : notSelect o = true) (hl : (o.op.operands.toList.all fun x => known I x || isTmp t x) = true) (hg : guardKnown ops o I = true) (hw : Region.wanted o (yielded ops a.tmps) = true)
 (hrun : ∀ (u : Value) w, C w -> R.holds u w -> ∀ ρ : Operand -> Value, ρ (.tmp t) = u -> (∀ x, known I x = true -> ρ x = a.eval x) -> ∃ v w', (execOp ρ o).run P w = .ok (.value v) w' /\ R'.holds v w' /\ Below w.heap.size w w') (k : wpT P ops C Q rest ((d, R') :: I) a) : wpT P ops C Q (o :: rest) I a :=
 ⟨_, _, .ty d R' hd hg hw (fun a1 w hC ht K Q' hK => by
  have h : slotIs I a t (a1.tmps.getD t undef) w := ht t (looks_of_operand hm rfl)
  unfold slotIs at h
  rw [hx] at h
  have e : execOp a1.eval o = execOp (fun x => if isTmp t x = true then a1.tmps.getD t undef else a.eval x) o := execOp_congr o (fun cs b h => by simp [notSelect, h] at hs) fun x hxm => by
   by_cases hxt : isTmp t x = true
   · rw [if_pos hxt, isTmp_eq hxt]; rfl
   · rw [if_neg hxt]
     simp only [List.all_eq_true] at hl
     have h1 := hl x (by simpa using hxm)
     have h2 : known I x = true := by simpa [hxt] using h1
     exact known_eval h2 hxm ht
  obtain ⟨v, w', h1, h3, h2⟩ := hrun _ w hC h (fun x => if isTmp t x = true then a1.tmps.getD t undef else a.eval x) (by rw [if_pos (isTmp_self t)]) (fun x hk => by
   by_cases hxt : isTmp t x = true
   · rw [isTmp_eq hxt] at hk; simp [known, hx] at hk
   · rw [if_neg hxt])
  unfold Oper.wp
  rw [e, h1]
  exact hK _ _ h3 h2), k⟩
theorem wpL_seeT {t d : Tmp} {R : Ty} (R' : Ty) (hd : o.dst = some d) (hx : I.lookup t = some R) (hm : (Operand.tmp t) ∈ o.op.operands) (hs : notSelect o = true) (hl : (o.op.operands.toList.all fun x => known I x || isTmp t x) = true) (hg : guardKnown ops o I = true) (hw : wantedL ops fs o = true)
 (hrun : ∀ (u : Value) w, C w -> R.holds u w -> ∀ ρ : Operand -> Value, ρ (.tmp t) = u -> (∀ x, known I x = true -> ρ x = ev fs x) -> ∃ v w', (execOp ρ o).run P w = .ok (.value v) w' /\ R'.holds v w' /\ Below w.heap.size w w') (k : wpL P ops C Q ds rest ((d, R') :: I) fs) : wpL P ops C Q ds (o :: rest) I fs :=
 wpT_seeT R' hd hx hm hs hl hg (wantedL_eq.trans hw) (fun u w h1 h2 ρ h3 h4 => hrun u w h1 h2 ρ h3 (fun x hx => (h4 x hx).trans (mkA_eval x))) k
end Byt
end Go.Proofs.YtahjjcmeocibbaaGreatDoor
end
section
namespace Go.Own
open Go.RowKit
def tyAt (d : Nat) (u : Value) : Ty where
 holds v w := ∃ g o, v = .pointer (some ⟨g, o, none⟩) /\ w.cell? ⟨g, o + d, none⟩ = some u
 keep := fun ⟨g, o, e, h⟩ b => ⟨g, o, e, cellLater' h b⟩
theorem rot3 {B : Nat} {w0 w : World} {a b c : Asn} {Ps : List Asn} (h : St B w0 w (a :: b :: c :: Ps)) : St B w0 w (c :: a :: b :: Ps) := h.perm ((List.Perm.cons a (List.Perm.swap c b Ps)).trans (List.Perm.swap c a (b :: Ps)))
theorem rot3' {B : Nat} {w0 w : World} {a b c : Asn} {Ps : List Asn} (h : St B w0 w (c :: a :: b :: Ps)) : St B w0 w (a :: b :: c :: Ps) := h.perm ((List.Perm.swap a c (b :: Ps)).trans (List.Perm.cons a (List.Perm.swap b c Ps)))
end Go.Own
namespace Go.Proofs.YtahjjcmeocibbaaGreatDoor
open Go.RowKit Go.Own
namespace Lga
open Go.LogM Byt
abbrev ptr (p : Nat) : Value := .pointer (some ⟨p, 0, none⟩)
abbrev lgC (pf fr pt q nx : Nat) : List Value := [ptr pf, .int .i64 (fr : Int), ptr pt, .int .u64 (q : Int), .int .i64 (nx : Int)]
abbrev AL (p pf pt fr q nx : Nat) : Asn := AVals p 89 (lgC pf fr pt q nx)
def A (p pf pt fr pp : Nat) (tb : TabM.T) (a : Nat) : Asn := AEx (α := { x : Nat × Nat // LR pp tb a x.1 x.2 }) fun x => AL p pf pt fr x.1.1 x.1.2
abbrev S3 (B : Nat) (w0 w : World) (X : Asn) (pf pt : Nat) (s : FlaM.FS) (tb : TabM.T) (Ps : List Asn) : Prop := Own.St B w0 w (X :: Fla.AFl pf s :: Tba.A pt tb :: Ps)
theorem at_field {o : Oper} {x : Tmp} (ho : o.op = .fieldAddr 145 (.tmp x) 1) {u v : Value} {w : World} (hu : (tyAt 1 u).holds v w) (ρ : Operand -> Value) (h0 : ρ (.tmp x) = v) :
 ∃ v' w', (execOp ρ o).run Tryz.prog w = .ok (.value v') w' /\ (tyAt 0 u).holds v' w' /\ Below w.heap.size w w' := by
 obtain ⟨g, q, rfl, h⟩ := hu
 exact ⟨.pointer (some ⟨g, q + 1, none⟩), w, by simp [execOp, ho, h0, go_sem], ⟨g, q + 1, rfl, h⟩, Below.refl _ _⟩
theorem at_load {o : Oper} {x : Tmp} (ho : o.op = .load 45 (.tmp x)) {k : Int} {v : Value} {w : World} (hu : (tyAt 0 (.int .u64 k)).holds v w) (ρ : Operand -> Value) (h0 : ρ (.tmp x) = v) :
 ∃ w', (execOp ρ o).run Tryz.prog w = .ok (.value (.int .u64 k)) w' /\ Below w.heap.size w w' := by
 obtain ⟨g, q, rfl, h⟩ := hu
 rw [Nat.add_zero] at h
 exact ⟨w, by simp [execOp, ho, h0, h, go_sem], Below.refl _ _⟩
theorem idx_seq {rows : List TabM.Sg} {n i : Nat} (hn : rows.length = n) (hi : i < n) (o : Oper) (x y : Tmp) (ho : o.op = .indexAddr 83 (.tmp x) (.tmp y)) (u : Value) (w : World) (hu : (tyRow n (rows.flatMap Tab.sgC)).holds u w) (ρ : Operand -> Value) (h0 : ρ (.tmp x) = u) (h1 : ρ (.tmp y) = .int .i64 (i : Int)) :
 ∃ v w', (execOp ρ o).run Tryz.prog w = .ok (.value v) w' /\ (tyAt 1 (.int .u64 ((TabM.at_ rows i).seq : Int))).holds v w' /\ Below w.heap.size w w' := by
 obtain ⟨ao, c, rfl, h⟩ := hu
 rcases h with h | ⟨g, rfl, h⟩
 · omega
 subst hn
 have hk' : (i : Int) < (rows.length : Int) := by omega
 have hc := h (i * 3 + 1) (.int .u64 ((TabM.at_ rows i).seq : Int)) (by rw [flat_at Tab.sgC 3 rows (Tab.sgC_len rows) i (TabM.at_ rows i) (TabM.at_get hi) 1 (by decide)]; rfl)
 refine ⟨.pointer (some ⟨g, i * 3, none⟩), w, ?_, ⟨g, i * 3, rfl, hc⟩, Below.refl _ _⟩
 simp [execOp, ho, h0, h1, go_sem, hk', add_of]
section
variable {B : Nat} {w0 w : World} {Ps : List Asn} {X : Asn} {p pf pt fr pp a q nx : Nat} {s : FlaM.FS} {tb : TabM.T} {N : Nat}
theorem A_of (h : LR pp tb a q nx) (H : Own.St B w0 w (AL p pf pt fr q nx :: Ps)) : Own.St B w0 w (A p pf pt fr pp tb a :: Ps) := Own.St.closeE (⟨(q, nx), h⟩ : { x : Nat × Nat // LR pp tb a x.1 x.2 }) H
theorem A_to (H : Own.St B w0 w (A p pf pt fr pp tb a :: Ps)) : ∃ q nx, LR pp tb a q nx /\ Own.St B w0 w (AL p pf pt fr q nx :: Ps) := by
 obtain ⟨⟨⟨q, nx⟩, h⟩, h1⟩ := Own.St.openE H
 exact ⟨q, nx, h, h1⟩
theorem t_cur (H : S3 B w0 w X pf pt s tb Ps) (ok : TabM.Ok tb N) (hN : N <= 10000) : Calls Tryz.prog 15 #[ptr pt] w fun e w' => e = .returned (Tab.curV tb) /\ Below w.heap.size w w' := (Tab.kept w).cur (Below.refl _ _) (rot3 H) ok hN
theorem t_rows (H : S3 B w0 w X pf pt s tb Ps) (ok : TabM.Ok tb N) (hN : N <= 10000) : Calls Tryz.prog 26 #[ptr pt] w fun e w' => ∃ v, e = .returned v /\ (tyRow tb.rows.length (tb.rows.flatMap Tab.sgC)).holds v w' /\ Below w.heap.size w w' :=
 ((Tab.kept w).rows (Below.refl _ _) (rot3 H) ok hN).mono fun e w' ⟨ao, c, h1, h2, h3⟩ => ⟨_, h1, rd_own h2 0 rfl, h3⟩
theorem t_open (H : S3 B w0 w X pf pt s tb Ps) (ok : TabM.Ok tb N) (hN : N <= 10000) : Calls Tryz.prog 94 #[ptr pt] w fun e w' => e = .returned (Tab.opV (TabM.openT tb).2) /\ S3 B w0 w' X pf pt s (TabM.openT tb).1 Ps :=
 ((Tab.kept w).open_ (Below.refl _ _) (rot3 H) ok hN).mono fun e w' h => ⟨h.1, rot3' h.2⟩
theorem t_seal (H : S3 B w0 w X pf pt s tb Ps) (ok : TabM.Ok tb N) (hN : N <= 10000) : Calls Tryz.prog 93 #[ptr pt] w fun e w' => e = .returned (errL (TabM.sealT tb).2) /\ S3 B w0 w' X pf pt s (TabM.sealT tb).1 Ps :=
 ((Tab.kept w).seal_ (Below.refl _ _) (rot3 H) ok hN).mono fun e w' h => ⟨h.1, rot3' h.2⟩
theorem f_pages (H : S3 B w0 w X pf pt s tb Ps) : Calls Tryz.prog 27 #[ptr pf] w fun e w' => e = .returned (errL s.pp) /\ Below w.heap.size w w' := Fla.pages_any H.swap2
theorem f_erase (H : S3 B w0 w X pf pt s tb Ps) (ok : FlaM.Ok s N) (hN : N <= 10000) (seg : Int) (hs : Fla.i64B seg) : Calls Tryz.prog 118 #[ptr pf, .int .i64 seg] w fun e w' => e = .returned (errL (FlaM.erase s seg).2) /\ S3 B w0 w' X pf pt (FlaM.erase s seg).1 tb Ps :=
 (Fla.erase_any H.swap2 ok hN seg hs).mono fun e w' h => ⟨h.1, h.2.swap2⟩
theorem f_barrier (H : S3 B w0 w X pf pt s tb Ps) (ok : FlaM.Ok s N) (hN : N <= 10000) : Calls Tryz.prog 13 #[ptr pf] w fun e w' => e = .returned (errL (FlaM.barrier s).2) /\ S3 B w0 w' X pf pt (FlaM.barrier s).1 tb Ps :=
 (Fla.barrier_any H.swap2 ok hN).mono fun e w' h => ⟨h.1, h.2.swap2⟩
def hasB (tb : TabM.T) (seg : Int) : Bool := decide (0 <= seg) && decide (seg < (tb.rows.length : Int))
set_option maxHeartbeats 1600000 in
theorem hasSeg_any (H : S3 B w0 w (AL p pf pt fr q nx) pf pt s tb Ps) (ok : TabM.Ok tb N) (hN : N <= 10000) (seg : Int) :
 Calls Tryz.prog 42 #[ptr p, .int .i64 seg] w fun e w' => e = .returned (.bool (hasB tb seg)) /\ Below w.heap.size w w' := by
 have c2 := (H.cellV 0 rfl 2 rfl).1
 have CR := Lib.hid (t_rows H ok hN)
 obtain ⟨n, hn⟩ : ∃ n, n = tb.rows.length := ⟨_, rfl⟩
 obtain ⟨b, hb⟩ : ∃ b, b = hasB tb seg := ⟨_, rfl⟩
 rw [<- hb]
 unfold hasB at hb
 rw [<- hn] at hb CR
 by_cases h0 : seg >= 0
 · rw [decide_eq_true (show 0 <= seg from h0), Bool.true_and] at hb
   have HBB := Lib.hid hb
   clear hb hn H ok
   go_enter Tryz.func42, Tryz.ntmps42
   go_wp2_with (fail)
   refine CR.out.mono ?_
   clear CR
   rintro e w1 ⟨v, rfl, hv, hb1⟩
   obtain ⟨ao, c, rfl, _⟩ := hv
   have HB := Lib.hid hb1
   clear hb1
   go_wp2
   go_ret
   exact ⟨by rw [HBB.out]; rfl, HB.out⟩
 · have HE : Hid (b = false) := by show b = false; rw [hb, decide_eq_false (show ¬ 0 <= seg from h0)]; rfl
   clear hb hn H ok CR
   go_enter Tryz.func42, Tryz.ntmps42
   go_wp2
   go_ret
   exact ⟨by rw [HE.out]; rfl, Below.refl _ _⟩
set_option maxRecDepth 6000 in
set_option maxHeartbeats 4000000 in
theorem left_any (H : S3 B w0 w (AL p pf pt fr q nx) pf pt s tb Ps) (ok : TabM.Ok tb N) (hN : N <= 10000) (hpp : s.pp <= 1000) (hnx : nx <= s.pp) :
 Calls Tryz.prog 65 #[ptr p] w fun e w' => e = .returned (.int .i64 (leftN s.pp tb q nx : Int)) /\ Below w.heap.size w w' := by
 have c2 := (H.cellV 0 rfl 2 rfl).1
 have CC := t_cur H ok hN
 have HH := Lib.hid H
 have HOK := Lib.hid ok
 obtain ⟨R, hR⟩ : ∃ R, R = leftN s.pp tb q nx := ⟨_, rfl⟩
 rw [<- hR]
 cases hc : TabM.cur tb with
 | none =>
  rw [left_none hc] at hR
  have e1 : Tab.curV tb = .tuple #[.int .i64 0, .bool false] := by unfold Tab.curV; rw [hc]; rfl
  rw [e1] at CC
  have CC1 := Lib.hid CC
  subst hR
  clear CC e1 hc H ok HOK
  go_enter Tryz.func65, Tryz.ntmps65
  go_wp2_with (fail)
  refine CC1.out.mono ?_
  clear CC1
  rintro e w1 ⟨rfl, hb1⟩
  have HB := Lib.hid hb1
  clear hb1 c2
  go_wp2
  go_quiet (fail)
  go_wp2
  go_ret
  exact ⟨rfl, ((Own.St.start w).later HB.out |>.drewN nq |>.below)⟩
 | some i =>
  rw [left_some hc] at hR
  obtain ⟨hil, _⟩ := TabM.cur_some hc
  have e1 : Tab.curV tb = .tuple #[.int .i64 (i : Int), .bool true] := by unfold Tab.curV; rw [hc]; rfl
  rw [e1] at CC
  have CC1 := Lib.hid CC
  obtain ⟨n, hn⟩ : ∃ n, tb.rows.length = n := ⟨_, rfl⟩
  have hin : i < n := by omega
  have SEG0 := idx_seq hn hin
  obtain ⟨sq, hsq⟩ : ∃ x, x = (TabM.at_ tb.rows i).seq := ⟨_, rfl⟩
  rw [<- hsq] at SEG0 hR
  have SEG := Lib.hid SEG0
  have HN := Lib.hid hn
  have HR := Lib.hid hR
  have SUB : Hid ((s.pp : Int) - (nx : Int) = ((s.pp - nx : Nat) : Int)) := by show _ = _; omega
  obtain ⟨m, hm⟩ : ∃ m, m = s.pp - nx := ⟨_, rfl⟩
  have WR : Hid (IntKind.i64.wrap ((s.pp - nx : Nat) : Int) = ((s.pp - nx : Nat) : Int)) := by show _ = _; exact IntWalk.i64_in _ (by omega)
  clear CC e1 hc H ok SEG0 hn hR hsq hil
  go_enter Tryz.func65, Tryz.ntmps65
  go_wp2_with (fail)
  refine CC1.out.mono ?_
  clear CC1 c2
  rintro e w1 ⟨rfl, hb1⟩
  have H1 := Lib.hid (HH.out.later hb1)
  have HB := Lib.hid hb1
  have C2 : Hid (∀ wx, Below w1.heap.size w1 wx -> wx.cell? ⟨p, 2, none⟩ = some (ptr pt)) := fun wx hwx => ((H1.out.later hwx).cellV 0 rfl 2 rfl).1
  have C3 : Hid (∀ wx, Below w1.heap.size w1 wx -> wx.cell? ⟨p, 3, none⟩ = some (.int .u64 (q : Int))) := fun wx hwx => ((H1.out.later hwx).cellV 0 rfl 3 rfl).1
  have CR : Hid (∀ wx, Below w1.heap.size w1 wx -> Calls Tryz.prog 26 #[ptr pt] wx fun e w' => ∃ v, e = .returned v /\ (tyRow n (tb.rows.flatMap Tab.sgC)).holds v w' /\ Below wx.heap.size wx w') := fun wx hwx => by rw [<- HN.out]; exact t_rows (H1.out.later hwx) HOK.out hN
  clear hb1
  by_cases hq : sq = q
  · have HQE : Hid (((sq : Int) != (q : Int)) = false) := by show _ = false; simp [hq]
    have HRR : Hid (R = m) := by show R = m; rw [HR.out, if_pos hq, hm]
    go_wp2_with (fail)
    refine lxX ?_; refine lxM (.bool true) rfl ?_; refine lxA (.tmp 13) (.bool true) (.bool false) ?_; refine lxM (.bool false) rfl ?_; refine lxM (ptr p) rfl ?_; refine lxA (.tmp 16) (ptr p) (ptr p) ?_; refine lxA (.tmp 17) (ptr p) (.pointer (some ⟨p, 2, none⟩)) ?_; refine lxR (.tmp 18) (.pointer (some ⟨p, 2, none⟩)) (ptr pt) (fun wx ρ hwx h0 hc => by simp [h0, go_sem, C2.out wx hwx]) ?_
    refine wpL_fnT (tyRow n (tb.rows.flatMap Tab.sgC)) [ptr pt] rfl rfl (by kernel_rfl) (by kernel_rfl) (by kernel_rfl) (by kernel_rfl) (fun _ _ => by simp [go_sem]) (fun wx hwx => CR.out wx hwx) ?_
    refine lxM (.int .i64 (i : Int)) rfl ?_
    refine wpL_seeT (t := 20) (R := tyRow n (tb.rows.flatMap Tab.sgC)) (tyAt 1 (.int .u64 (sq : Int))) rfl rfl (by simp [Op.operands]) (by kernel_rfl) (by kernel_rfl) (by kernel_rfl) (by kernel_rfl) (fun u wx hwx hu ρ h0 hk => SEG.out _ _ _ rfl u wx hu ρ h0 ((hk (.tmp 21) (by kernel_rfl)).trans rfl)) ?_
    refine wpL_seeT (t := 22) (R := tyAt 1 (.int .u64 (sq : Int))) (tyAt 0 (.int .u64 (sq : Int))) rfl rfl (by simp [Op.operands]) (by kernel_rfl) (by kernel_rfl) (by kernel_rfl) (by kernel_rfl) (fun u wx hwx hu ρ h0 hk => at_field rfl hu ρ h0) ?_
    refine wpL_see (t := 23) (R := tyAt 0 (.int .u64 (sq : Int))) (.int .u64 (sq : Int)) rfl (by simp [Op.operands]) (by kernel_rfl) (by kernel_rfl) (by kernel_rfl) (by kernel_rfl) (fun u wx hwx hu ρ h0 hk => at_load rfl hu ρ h0) ?_
    refine lxM (ptr p) rfl ?_; refine lxA (.tmp 25) (ptr p) (ptr p) ?_; refine lxA (.tmp 26) (ptr p) (.pointer (some ⟨p, 3, none⟩)) ?_; refine lxR (.tmp 27) (.pointer (some ⟨p, 3, none⟩)) (.int .u64 (q : Int)) (fun wx ρ hwx h0 hc => by simp [h0, go_sem, C3.out wx hwx]) ?_; refine lxT (.tmp 24) (.tmp 28) (.int .u64 (sq : Int)) (.int .u64 (q : Int)) (.bool false) (fun wx ρ hwx h0 h1 hc => by simp [h0, h1, go_sem, HQE.out]) ?_; refine lxB (.tmp 15) (.tmp 29) (.bool false) (.bool false) (.bool false) ?_
    refine wpL_end (by kernel_rfl) (fun w2 hw2 v23 hv23 v22 hv22 v20 hv20 => ?_)
    simp only [FinL, setL, List.set_cons_zero, List.set_cons_succ]
    clear hv23 hv22 hv20
    have H2 := Lib.hid (H1.out.later hw2)
    have HB2 : Hid (Below w.heap.size w w2) := HB.out.trans (hw2.mono HB.out.size)
    have C0 : Hid (∀ wx, Below w2.heap.size w2 wx -> wx.cell? ⟨p, 0, none⟩ = some (ptr pf)) := fun wx hwx => ((H2.out.later hwx).cellV 0 rfl 0 rfl).1
    have C4 : Hid (∀ wx, Below w2.heap.size w2 wx -> wx.cell? ⟨p, 4, none⟩ = some (.int .i64 (nx : Int))) := fun wx hwx => ((H2.out.later hwx).cellV 0 rfl 4 rfl).1
    have CP : Hid (∀ wx, Below w2.heap.size w2 wx -> Calls Tryz.prog 27 #[ptr pf] wx fun e w' => e = .returned (.int .i64 (s.pp : Int)) /\ Below wx.heap.size wx w') := fun wx hwx => f_pages (H2.out.later hwx)
    clear hw2 C2 C3 CR SEG HB H1
    go_wp2_with (fail)
    refine lxX ?_; refine lxM (ptr p) rfl ?_; refine lxA (.tmp 31) (ptr p) (ptr p) ?_; refine lxA (.tmp 32) (ptr p) (.pointer (some ⟨p, 0, none⟩)) ?_; refine lxR (.tmp 33) (.pointer (some ⟨p, 0, none⟩)) (ptr pf) (fun wx ρ hwx h0 hc => by simp [h0, go_sem, C0.out wx hwx]) ?_
    refine wpL_fn (.int .i64 (s.pp : Int)) [ptr pf] rfl (by kernel_rfl) (by kernel_rfl) (by kernel_rfl) (by kernel_rfl) (fun _ _ => by simp [go_sem]) (fun wx hwx => CP.out wx hwx) ?_
    refine lxM (ptr p) rfl ?_; refine lxA (.tmp 36) (ptr p) (ptr p) ?_; refine lxA (.tmp 37) (ptr p) (.pointer (some ⟨p, 4, none⟩)) ?_; refine lxR (.tmp 38) (.pointer (some ⟨p, 4, none⟩)) (.int .i64 (nx : Int)) (fun wx ρ hwx h0 hc => by simp [h0, go_sem, C4.out wx hwx]) ?_; refine lxT (.tmp 35) (.tmp 39) (.int .i64 (s.pp : Int)) (.int .i64 (nx : Int)) (.int .i64 ((s.pp - nx : Nat) : Int)) (fun wx ρ hwx h0 h1 hc => by simp [h0, h1, go_sem, SUB.out, WR.out]) ?_
    refine wpL_assign (.int .i64 ((s.pp - nx : Nat) : Int)) rfl (by kernel_rfl) (by kernel_rfl) (by kernel_rfl) (by kernel_rfl) ?_
    refine wpL_end (by kernel_rfl) (fun w3 hw3 => ?_)
    simp only [FinL, setL, List.set_cons_zero, List.set_cons_succ]
    have HB3 : Hid (Below w.heap.size w w3) := HB2.out.trans (hw3.mono HB2.out.size)
    clear hw3 C0 C4 CP H2
    go_wp2
    go_ret
    exact ⟨by rw [HRR.out, hm]; rfl, HB3.out⟩
  · have HQE : Hid (((sq : Int) != (q : Int)) = true) := by show _ = true; simp; omega
    have HRR : Hid (R = 0) := by show R = 0; rw [HR.out, if_neg hq]
    go_wp2_with (fail)
    refine lxX ?_; refine lxM (.bool true) rfl ?_; refine lxA (.tmp 13) (.bool true) (.bool false) ?_; refine lxM (.bool false) rfl ?_; refine lxM (ptr p) rfl ?_; refine lxA (.tmp 16) (ptr p) (ptr p) ?_; refine lxA (.tmp 17) (ptr p) (.pointer (some ⟨p, 2, none⟩)) ?_; refine lxR (.tmp 18) (.pointer (some ⟨p, 2, none⟩)) (ptr pt) (fun wx ρ hwx h0 hc => by simp [h0, go_sem, C2.out wx hwx]) ?_
    refine wpL_fnT (tyRow n (tb.rows.flatMap Tab.sgC)) [ptr pt] rfl rfl (by kernel_rfl) (by kernel_rfl) (by kernel_rfl) (by kernel_rfl) (fun _ _ => by simp [go_sem]) (fun wx hwx => CR.out wx hwx) ?_
    refine lxM (.int .i64 (i : Int)) rfl ?_
    refine wpL_seeT (t := 20) (R := tyRow n (tb.rows.flatMap Tab.sgC)) (tyAt 1 (.int .u64 (sq : Int))) rfl rfl (by simp [Op.operands]) (by kernel_rfl) (by kernel_rfl) (by kernel_rfl) (by kernel_rfl) (fun u wx hwx hu ρ h0 hk => SEG.out _ _ _ rfl u wx hu ρ h0 ((hk (.tmp 21) (by kernel_rfl)).trans rfl)) ?_
    refine wpL_seeT (t := 22) (R := tyAt 1 (.int .u64 (sq : Int))) (tyAt 0 (.int .u64 (sq : Int))) rfl rfl (by simp [Op.operands]) (by kernel_rfl) (by kernel_rfl) (by kernel_rfl) (by kernel_rfl) (fun u wx hwx hu ρ h0 hk => at_field rfl hu ρ h0) ?_
    refine wpL_see (t := 23) (R := tyAt 0 (.int .u64 (sq : Int))) (.int .u64 (sq : Int)) rfl (by simp [Op.operands]) (by kernel_rfl) (by kernel_rfl) (by kernel_rfl) (by kernel_rfl) (fun u wx hwx hu ρ h0 hk => at_load rfl hu ρ h0) ?_
    refine lxM (ptr p) rfl ?_; refine lxA (.tmp 25) (ptr p) (ptr p) ?_; refine lxA (.tmp 26) (ptr p) (.pointer (some ⟨p, 3, none⟩)) ?_; refine lxR (.tmp 27) (.pointer (some ⟨p, 3, none⟩)) (.int .u64 (q : Int)) (fun wx ρ hwx h0 hc => by simp [h0, go_sem, C3.out wx hwx]) ?_; refine lxT (.tmp 24) (.tmp 28) (.int .u64 (sq : Int)) (.int .u64 (q : Int)) (.bool true) (fun wx ρ hwx h0 h1 hc => by simp [h0, h1, go_sem, HQE.out]) ?_; refine lxB (.tmp 15) (.tmp 29) (.bool false) (.bool true) (.bool true) ?_
    refine wpL_end (by kernel_rfl) (fun w2 hw2 v23 hv23 v22 hv22 v20 hv20 => ?_)
    simp only [FinL, setL, List.set_cons_zero, List.set_cons_succ]
    have HB2 : Hid (Below w.heap.size w w2) := HB.out.trans (hw2.mono HB.out.size)
    clear hv23 hv22 hv20 hw2 C2 C3 CR SEG HB H1
    go_wp2
    go_ret
    exact ⟨by rw [HRR.out]; rfl, HB2.out⟩
end
end Lga
end Go.Proofs.YtahjjcmeocibbaaGreatDoor
end
