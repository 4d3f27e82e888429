/- The landed flash: an operation, done in part, to a table of pages. -/
import Derived.Test.YtepllhfofhehaaaFlbA
import Derived.Lib.Hide
import Derived.Deep.RegionLaw
namespace Go.Own
open Go.RowKit
/-- copy of bytes onto cells of a row of one's own, as one step of a region that draws -/
theorem step_row_copy {P : Program} {B : Nat} {w0 w : World} {Ps : List Asn} {t8 e8 : TypeId} (h8 : P.underlying t8 = some (.slice e8)) (i8 : (P.info? e8).map (·.size) = some 1) {ops : Array Oper} {o : Oper} {a : Act} {K : Act → World → Prop} {Q : Exit → Act → World → Prop} {E : Prop} (hgd : o.guard = none) (d s : Operand)
    (ho : o.op = .call { callee := .builtin .copy, args := #[d, s], argTypes := #[t8, t8] }) {g n cap size : Nat} {e : TypeId} {xs : List Value} (H : St B w0 w Ps) (i : Nat) (hi : Ps[i]? = some (ARow e size (.slice (some ⟨g, 0, none⟩) n cap) n xs)) (k dn dc : Nat) (hd : a.eval d = .slice (some ⟨g, k, none⟩) dn dc) (hk : k + dn ≤ n * size)
    (bo : Addr) (sn sc : Nat) (news : List UInt8) (hx : a.eval s = .slice (some bo) sn sc) (hl : news.length = min sn dn)
    (hc : ∀ j u, (news.map byteV)[j]? = some u → w.cell? (bo.add j) = some u)
    (h : ∀ w', St B w0 w' (Ps.set i (ARow e size (.slice (some ⟨g, 0, none⟩) n cap) n (xs.take k ++ news.map byteV ++ xs.drop (k + news.length)))) → K (a.put o.dst (goInt news.length)) w') :
    if Region.wanted o (yielded ops a.tmps) = true then Oper.wp P o a w K Q else E := by
  have hw : Region.wanted o (yielded ops a.tmps) = true := by simp [Region.wanted, hgd]
  rw [if_pos hw]
  have hset := St.rowCells i (news.map byteV) k w Ps xs H hi (by rw [List.length_map]; omega)
  rw [List.length_map] at hset
  have hlen := (H.rowLen i hi).1
  have hcells : ∀ j, j < (news.map byteV).length → (w.cell? ⟨g, k + j, none⟩).isSome = true ∧ w.frozen? ⟨g, k + j, none⟩ = false := by
    intro j hj
    rw [List.length_map] at hj
    obtain ⟨h1, h2⟩ := H.rowRange i hi (k + j) (by omega)
    refine ⟨?_, h2⟩
    rw [h1, List.getElem?_eq_getElem (by omega)]
    rfl
  have hrun := run_copy_cells (P := P) w t8 t8 o.type e8 g k dn dc bo sn sc (news.map byteV) h8 i8 (by rw [List.length_map, hl]) hc (fun j hj => (hcells j hj).1) (fun j hj => (hcells j hj).2) (byteV_one _)
  rw [List.length_map] at hrun
  unfold Oper.wp
  simp [execOp, ho, resolve, invoke, builtin, hd, hx, hrun, Result.andThen]
  exact h _ hset
end Go.Own
namespace Go.Proofs.Ytepllhfofhehaaa
open Go.RowKit Go.Own
namespace Fla
open Go.FlaM Byt

theorem getD_some {G : List (List Bs)} {n pp : Nat} (h : Shape G n pp) {i : Nat} (hi : i < n) : G[i]? = some (G.getD i []) := by
  have := h.len
  rw [List.getD_eq_getElem?_getD, List.getElem?_eq_getElem (by omega)]
  rfl

set_option maxRecDepth 10000 in
set_option maxHeartbeats 400000 in
theorem apply_erase {B : Nat} {w0 w : World} {Ps : List Asn} {v : Value} {G : List (List Bs)} {n pp : Nat} (H : Own.St B w0 w (PGrid 66 76 v G :: Ps)) (hs : Shape G n pp) (hn : n ≤ 256) (hp : 1 ≤ pp ∧ pp ≤ 64) (seg : Nat) (hseg : seg < n) (cs : List Value) (hc1 : cs[1]? = some (.int .i64 (seg : Int))) (hc0 : cs[0]? = some (.bool true)) (ext : Int) (he : i64B ext) :
    Calls Try.prog 53 #[.agg cs.toArray, v, .int .i64 ext] w fun e w' => e = .returned (.tuple #[]) ∧ Own.St B w0 w' (PGrid 66 76 v (clearTo G seg (min ext.toNat pp)) :: Ps) := by
  have hsome := getD_some hs hseg
  have HW := Lib.hid (wide_of hs seg hseg)
  have hrl := hs.rows seg hseg
  have hgl := hs.len
  have HCL := Lib.hid (clear_row G seg (min ext.toNat pp) (by omega))
  obtain ⟨row, hrow⟩ : ∃ r, r = G.getD seg [] := ⟨_, rfl⟩
  rw [← hrow] at hsome hrl HW HCL
  have hbox := (H.boxV 78 cs)
  have c0 := (hbox.cellV 0 rfl 0 hc0).1
  have c1 := (hbox.cellV 0 rfl 1 hc1).1
  obtain ⟨g, c, ⟨ao, cap⟩, Qs, rfl, cg, hR, put⟩ := (hbox.swap2).pRowAt seg row hsome
  have HR := Lib.hid hR
  have HPUT := Lib.hid put
  obtain ⟨n0, hn0⟩ : ∃ m, m = ext.toNat := ⟨_, rfl⟩
  obtain ⟨m, hm⟩ : ∃ m, m = min n0 pp := ⟨_, rfl⟩
  rw [← hn0, ← hm] at HCL ⊢
  have hrlen := hR.rowLen 0 rfl
  obtain ⟨b, rfl, _, _, _⟩ := hR.rowAt 0 rfl 0 (by omega)
  obtain ⟨l, hl⟩ : ∃ l, l = G.length := ⟨_, rfl⟩
  have hsl : seg < l := by omega
  have hl2 : l ≤ 256 := by omega
  rw [← hl] at HPUT ⊢
  obtain ⟨k, hk⟩ : ∃ k, k = row.length := ⟨_, rfl⟩
  have CG : Hid ((w.alloc (.cells cs.toArray 78)).cell? ⟨g, seg, none⟩ = some (.slice (some ⟨b, 0, none⟩) k cap)) := by rw [hk]; exact cg
  have cg2 := CG.out
  have hkp : k = pp := by omega
  have hkc : k ≤ cap := by omega
  have hmk : m ≤ k := by omega
  have hmc : m ≤ cap := by omega
  have HK := Lib.hid hk
  have hcapM : cap ≤ maxLen := hrlen.2.2.1
  have hn0b : n0 ≤ 9223372036854775807 := by have := he.2; omega
  have hmax : ∀ wx, (Builtin.max_ #[3, 3] 3 #[.int .i64 ext, .int .i64 0]).run Try.prog wx = .ok (.int .i64 (n0 : Int)) wx := by
    intro wx
    rw [show (n0 : Int) = max ext 0 by omega]
    simp [Builtin.max_, Builtin.max2, go_sem]
    try omega
  have hmin : ∀ wx, (Builtin.min_ #[3, 3] 3 #[.int .i64 (n0 : Int), .int .i64 (k : Int)]).run Try.prog wx = .ok (.int .i64 (m : Int)) wx := by
    intro wx
    rw [show (m : Int) = min (n0 : Int) (k : Int) by omega]
    simp [Builtin.min_, Builtin.min2, go_sem]
    try omega
  have CW := wipe_st hR HW.out m (by omega) (by omega)
  have CW2 := Lib.hid CW
  clear hbox hR put hsome hrl hgl hn0 hm hl hk cg CG hc0 hc1 H CW hrlen hrow HW HR hs he hkp
  unfold maxLen at hcapM
  go_enter Try.func53, Try.ntmps53
  go_wp2_with (fail)
  refine CW2.out.mono ?_
  rintro e w1 ⟨rfl, h1⟩
  have H1 := Lib.hid (HPUT.out w1 _ (wipeTo_len row m) h1)
  clear h1
  go_wp2
  refine bodyPost_ret (results_none rfl _ _ _) rfl ?_
  exact ⟨rfl, by rw [HCL.out]; exact H1.out.drop2⟩

theorem flat_cells {row : List Bs} (h : Wide row) (k : Nat) (hk : k < row.length) (b : Bs) (m : Nat) (hb : b.length = 128) (hm : m ≤ 128) :
    ((row.set k (b.take m ++ (row.getD k []).drop m)).flatten.map byteV) = (row.flatten.map byteV).take (k * 128) ++ (b.take m).map byteV ++ (row.flatten.map byteV).drop (k * 128 + m) := by
  rw [flat_set k _ h hk, List.map_append, List.map_append, List.map_append, ← flat_page k h hk]
  have hfl := flat_len h
  obtain ⟨D, hD⟩ : ∃ D, D = row.flatten.drop (k * 128) := ⟨_, rfl⟩
  have hDl : 128 ≤ D.length := by rw [hD, List.length_drop, hfl]; omega
  have e1 : row.flatten.drop (k * 128 + m) = D.drop m := by rw [hD, List.drop_drop]
  have e2 : row.flatten.drop ((k + 1) * 128) = D.drop 128 := by rw [hD, List.drop_drop, show k * 128 + 128 = (k + 1) * 128 by omega]
  have e3 : D.drop m = (D.take 128).drop m ++ D.drop 128 := by
    have h1 : (D.take 128 ++ D.drop 128).drop m = (D.take 128).drop m ++ D.drop 128 := List.drop_append_of_le_length (by rw [List.length_take]; omega)
    rw [List.take_append_drop] at h1
    exact h1
  rw [← hD, ← List.map_drop, e1, e2, e3, List.map_append, List.map_take]
  simp only [List.append_assoc]

set_option maxRecDepth 10000 in
set_option maxHeartbeats 800000 in
theorem apply_prog {B : Nat} {w0 w : World} {Ps : List Asn} {v : Value} {G : List (List Bs)} {n pp : Nat} (H : Own.St B w0 w (PGrid 66 76 v G :: Ps)) (hs : Shape G n pp) (hn : n ≤ 256) (hp : 1 ≤ pp ∧ pp ≤ 64) (seg page : Nat) (hseg : seg < n) (hpage : page < pp) (cs : List Value) (b : Bs) (hb : b.length = 128) (hc0 : cs[0]? = some (.bool false)) (hc1 : cs[1]? = some (.int .i64 (seg : Int))) (hc2 : cs[2]? = some (.int .i64 (page : Int))) (hc3 : ∀ j, j < 128 → cs[3 + j]? = some (byteV (b.getD j 0))) (ext : Int) (he : i64B ext) :
    Calls Try.prog 53 #[.agg cs.toArray, v, .int .i64 ext] w fun e w' => e = .returned (.tuple #[]) ∧ Own.St B w0 w' (PGrid 66 76 v (setPage G seg page (b.take (min ext.toNat 128) ++ (pageAt G seg page).drop (min ext.toNat 128))) :: Ps) := by
  have hsome := getD_some hs hseg
  have HW := Lib.hid (wide_of hs seg hseg)
  have hrl := hs.rows seg hseg
  have hgl := hs.len
  obtain ⟨row, hrow⟩ : ∃ r, r = G.getD seg [] := ⟨_, rfl⟩
  have HRW := Lib.hid hrow
  unfold pageAt setPage
  rw [← hrow] at hsome hrl HW ⊢
  have hbox := (H.boxV 78 cs)
  have c0 := (hbox.cellV 0 rfl 0 hc0).1
  have c1 := (hbox.cellV 0 rfl 1 hc1).1
  have c2 := (hbox.cellV 0 rfl 2 hc2).1
  have CB := Lib.hid (fun (j : Nat) (hj : j < 128) => (hbox.cellV 0 rfl (3 + j) (hc3 j hj)).1)
  obtain ⟨g, c, ⟨ao, cap⟩, Qs, rfl, cg, hR, put⟩ := (hbox.swap2).pRowAt seg row hsome
  have HPUT := Lib.hid put
  obtain ⟨n0, hn0⟩ : ∃ m, m = ext.toNat := ⟨_, rfl⟩
  obtain ⟨m, hm⟩ : ∃ m, m = min n0 128 := ⟨_, rfl⟩
  rw [← hn0, ← hm]
  have hrlen := hR.rowLen 0 rfl
  obtain ⟨bb, rfl, h1x, h2x, h3x⟩ := hR.rowAt 0 rfl 0 (by omega)
  have HR := Lib.hid hR
  clear h1x h2x h3x
  obtain ⟨l, hl⟩ : ∃ l, l = G.length := ⟨_, rfl⟩
  have hsl : seg < l := by omega
  have hl2 : l ≤ 256 := by omega
  rw [← hl] at HPUT ⊢
  obtain ⟨k, hk⟩ : ∃ k, k = row.length := ⟨_, rfl⟩
  have CG : Hid ((w.alloc (.cells cs.toArray 78)).cell? ⟨g, seg, none⟩ = some (.slice (some ⟨bb, 0, none⟩) k cap)) := by rw [hk]; exact cg
  have cg2 := CG.out
  have hkc : k ≤ cap := by omega
  have hpk : page < k := by omega
  have hpk2 : k ≤ 64 := by omega
  have hm128 : m ≤ 128 := by omega
  have hn0b : n0 ≤ 9223372036854775807 := by have := he.2; omega
  have HK := Lib.hid hk
  have HB := Lib.hid hb
  have HM := Lib.hid hm
  have hmax : ∀ wx, (Builtin.max_ #[3, 3] 3 #[.int .i64 ext, .int .i64 0]).run Try.prog wx = .ok (.int .i64 (n0 : Int)) wx := by
    intro wx
    rw [show (n0 : Int) = max ext 0 by omega]
    simp [Builtin.max_, Builtin.max2, go_sem]
    try omega
  have hmin : ∀ wx, (Builtin.min_ #[3, 3] 3 #[.int .i64 (n0 : Int), .int .i64 128]).run Try.prog wx = .ok (.int .i64 (m : Int)) wx := by
    intro wx
    rw [show (m : Int) = min (n0 : Int) 128 by omega]
    simp [Builtin.min_, Builtin.min2, go_sem]
    try omega
  obtain ⟨news, hnews⟩ : ∃ x, x = b.take m := ⟨_, rfl⟩
  have HN := Lib.hid hnews
  have HNL : Hid (news.length = m) := by show news.length = m; rw [hnews, List.length_take]; omega
  have HC : Hid (∀ j u, (news.map byteV)[j]? = some u → (w.alloc (.cells cs.toArray 78)).drew.cell? ((⟨w.heap.size, 3, none⟩ : Addr).add j) = some u) := by
    intro j u hu
    have hj := (List.getElem?_eq_some_iff.1 hu).1
    rw [List.length_map, HNL.out] at hj
    rw [add_of]
    have := CB.out j (by omega)
    refine this.trans ?_
    rw [← hu, hnews]
    have hjb : j < b.length := by omega
    simp [byteV, hj, hjb, List.getElem?_take]
  clear hbox hR put hsome hrl hgl hn0 hm hl hk cg CG hc0 hc1 hc2 hc3 H hrlen hrow hs he hnews hb hp
  go_enter Try.func53, Try.ntmps53
  go_wp2_with (fail)
  have hm128i : (m : Int) ≤ 128 := by omega
  go_region_law (refine step_row_copy Try.underlying32 info8 rfl (.tmp 27) (.tmp 31) rfl HR.out.drew 0 rfl (page * 128) 128 128 (by simp [Act.eval, Act.put]) (by rw [← HK.out]; omega) ⟨w.heap.size, 3, none⟩ m 128 news (by simp [Act.eval, Act.put]) (by rw [HNL.out]; omega) HC.out ?_; intro w2 h2; simp only [List.set_cons_zero] at h2; rw [HNL.out] at h2; rw [HNL.out]; have H2 := Lib.hid h2; clear h2)
  all_goals
    go_simp
    go_wp2
    go_end0
    refine ⟨rfl, ?_⟩
    have h := H2.out
    rw [HN.out, ← flat_cells HW.out page (by rw [← HK.out]; exact hpk) b m HB.out hm128] at h
    have h3 := HPUT.out w2 (row.set page (b.take m ++ (row.getD page []).drop m)) (by rw [List.length_set]) (by unfold pRow; rw [List.length_set]; exact h)
    exact h3.drop2
end Fla
end Go.Proofs.Ytepllhfofhehaaa
