/- The landed disk: Read, Write. -/
import Derived.Test.YtkddeccgoamopaaBkaD
import Derived.Laws.Cover3
namespace Go.Proofs.Ytkddeccgoamopaa
open Go.RowKit Go.Own
namespace Bak
open Go.BakM Byt
theorem built_wr0 (k : Nat) (f : Nat → Value) : Try.prog.built 68 [(0, .int .i64 (k : Int)), (1, .agg ((List.range 256).map f).toArray)] = some (([.int .i64 (k : Int)] : List Value) ++ ((List.range 256).map f)).toArray := by kernel_rfl
theorem built_wr (k : Nat) (b : Bs) (hb : b.length = 256) : Try.prog.built 68 [(0, .int .i64 (k : Int)), (1, .agg (b.map byteV).toArray)] = some (wrCells ⟨k, b⟩).toArray := by
  have h := built_wr0 k (fun i => (b.map byteV).getD i undef)
  rw [range_map (b.map byteV) 256 (by simp [hb])] at h
  rw [h]
  rfl
section
variable {B : Nat} {w0 w : World} {Ps : List Asn} {p : Nat} {s : DS} {N : Nat}
/-- where the block that is there now lies -/
theorem now_cells {x : Hidden} (H : Own.St B w0 w (dkParts p x s ++ Ps)) (ok : Ok s N) (k : Nat) (hk : k < s.safe.length) :
    ∃ gN : Nat, x.aN = some ⟨gN, 0, none⟩ ∧ w.rangeAt gN (k * 256) ((now s k).map byteV) ∧ gN < w.heap.size ∧ (now s k).length = 256 := by
  have hsh := nowG_shape s.L s.safe ok.shape ok.putsOk
  have hW := wide_of hsh
  have hat := nowG_at ok k
  have hbl := hsh.blocks k hk
  have hln := nowG_len s.L s.safe
  obtain ⟨g2, hg, ⟨u, hu, cu⟩, _, _⟩ := H.rowAt 1 rfl (k * 256) (by omega)
  have h1 : (dkParts p x s ++ Ps)[1]? = some (ARow 65 256 (.slice (some ⟨g2, 0, none⟩) s.safe.length x.cN) s.safe.length ((nowG s.safe s.L).flatten.map byteV)) := by rw [← hg]; rfl
  refine ⟨g2, hg, ?_, World.block_lt_of_cell? w _ cu, by rw [← hat]; exact hbl⟩
  intro j v hj
  have hj2 := (List.getElem?_eq_some_iff.1 hj).1
  rw [List.length_map, ← hat, hbl] at hj2
  have h2 := (H.rowRange 1 h1 (k * 256 + j) (by omega)).1
  rw [h2, ← hj, ← hat, ← flat_page k hW (by rw [hln]; exact hk), List.map_take, List.map_drop, List.getElem?_take_of_lt hj2, List.getElem?_drop]
theorem there_spec {s : DS} {i : Int} (h : there s i = true) : 0 ≤ i ∧ i < (s.safe.length : Int) := by simpa [there] using h

set_option maxHeartbeats 1600000 in
theorem read_any (H : Own.St B w0 w (ADk p s :: Ps)) (ok : Ok s N) (hN : N ≤ 10000) (pos : Int) (hpos : i64A pos) :
    Calls Try.prog 21 #[qtr p, .int .i64 pos] w fun e w' => ∃ ao cap, e = .returned (.tuple #[.slice ao (BakM.read s pos).1.length cap, errW (BakM.read s pos).2]) ∧ Own.St B w0 w' (AB ao (BakM.read s pos).1.length cap (BakM.read s pos).1 :: ADk p s :: Ps) := by
  obtain ⟨x, hx, h⟩ := dkOpen H
  have HS0 := has_st h pos
  have hthere : there s pos = decide (0 ≤ pos ∧ pos < (s.safe.length : Int)) := rfl
  rw [← hthere] at HS0
  have HS := Lib.hid HS0
  have c6 := (h.cellV 0 rfl 4 rfl).1
  have H0 := Lib.hid H
  obtain ⟨th, hth⟩ : ∃ t, t = there s pos := ⟨_, rfl⟩
  rw [← hth] at HS
  cases th
  · have HE : Hid (BakM.read s pos = ([], 1)) := by
      show BakM.read s pos = ([], 1)
      unfold BakM.read
      rw [if_pos hth.symm]
    rw [HE.out]
    clear H h hx ok hth hthere c6 HS0
    go_enter Try.func21, Try.ntmps21
    go_wp2_with (fail)
    refine HS.out.mono ?_
    rintro e w1 ⟨rfl, rfl⟩
    clear HS
    go_wp2
    go_ret2
    exact ⟨none, 0, rfl, ab_nil H0.out⟩
  by_cases hoff : true = s.off
  · have HE : Hid (BakM.read s pos = ([], 6)) := by
      show BakM.read s pos = ([], 6)
      unfold BakM.read
      rw [if_neg (by rw [← hth]; simp), if_pos hoff.symm]
    rw [HE.out]
    rw [← hoff] at c6
    clear H h hx ok hth hthere HS0 hoff
    go_enter Try.func21, Try.ntmps21
    go_wp2_with (fail)
    refine HS.out.mono ?_
    rintro e w1 ⟨rfl, rfl⟩
    clear HS
    go_wp2
    go_ret2
    exact ⟨none, 0, rfl, ab_nil H0.out⟩
  have hoff2 : s.off = false := by cases h : s.off with | false => rfl | true => exact absurd h.symm hoff
  rw [hoff2] at c6
  obtain ⟨t1, t2⟩ := there_spec hth.symm
  obtain ⟨k, hk⟩ : ∃ k : Nat, pos = (k : Int) := ⟨pos.toNat, by omega⟩
  subst hk
  have hks : k < s.safe.length := by omega
  obtain ⟨gN, haN, rg, hg2, hnl⟩ := now_cells h ok k hks
  have HE : Hid (BakM.read s (k : Int) = (now s k, 0)) := by
    show BakM.read s (k : Int) = (now s k, 0)
    unfold BakM.read
    rw [if_neg (by rw [← hth]; simp), if_neg (by rw [hoff2]; decide)]
    rfl
  rw [HE.out]
  have c1 := (h.cellV 0 rfl 0 rfl).1
  rw [haN] at c1
  obtain ⟨nw, hnw⟩ : ∃ b, b = now s k := ⟨_, rfl⟩
  rw [← hnw] at rg hnl ⊢
  have CB : Hid (Calls Try.prog 37 #[.slice (some ⟨gN, k * 256, none⟩) 256 256] w fun e w' => ∃ a' c', e = .returned (.slice a' 256 c') ∧ Own.St B w0 w' (AB a' 256 c' nw :: ADk p s :: Ps)) :=
    cloneBytes H ⟨gN, k * 256, none⟩ 256 256 nw hnl (fun j u hu => by rw [add_of]; exact rg j u hu) (.inr hg2) (by decide)
  have HNL := Lib.hid hnl
  obtain ⟨nS, hnS⟩ : ∃ z, z = s.safe.length := ⟨_, rfl⟩
  rw [← hnS] at c1 hks
  clear H h hx ok hth hthere HS0 hoff hoff2 t1 t2 haN rg hg2 hnl hnw hnS H0
  go_enter Try.func21, Try.ntmps21
  go_wp2_with (fail)
  refine HS.out.mono ?_
  rintro e w1 ⟨rfl, rfl⟩
  clear HS
  go_wp2_with (fail)
  refine CB.out.mono ?_
  clear CB c1 c6
  rintro e w2 ⟨a2, c2, rfl, h2⟩
  have H2 := Lib.hid h2
  clear h2
  go_wp2
  go_ret2
  refine ⟨a2, c2, ?_, ?_⟩
  · rw [HNL.out]; rfl
  · rw [HNL.out]; exact H2.out

/-- bytes that a call may read, later -/
theorem lies_later {ao : Option Addr} {n cap : Nat} {y : Bs} {Qs Xs : List Asn} {wx : World} (h : LiesB B w Ps ao n cap y) (H : Own.St B w0 w Qs) (hx : Own.St B w0 wx (Xs ++ Ps)) : Given wx ao n cap y := by
  rcases h.where_ with ⟨j0, g, c, k, l, h1, rfl, rfl⟩ | h1
  · have h2 := hx.perm List.perm_append_comm
    have h3 := given_own h2 j0 (by rw [List.getElem?_append_left (List.getElem?_eq_some_iff.1 h1).1]; exact h1)
    have h4 := vdrop h3.view k
    rw [Nat.zero_add] at h4
    exact ⟨h4, h.given.size, h.given.room, h.given.nil⟩
  · have h2 : View wx (fun k => k < B) ao y := View.same h1 (Below.both H.below hx.below)
    exact ⟨h2.mono (fun k hk => Nat.lt_of_lt_of_le hk hx.size), h.given.size, h.given.room, h.given.nil⟩
theorem okd_trip (ok : Ok s N) : Ok (okd (trip s)) (N + 1) := by
  have g := ok_trip ok
  exact ⟨g.len, g.blocks, g.puts, left_okd _ g.left, Nat.succ_le_succ g.n, Nat.le_succ_of_le g.log⟩

set_option maxRecDepth 10000 in
set_option maxHeartbeats 3200000 in
theorem write_any (H : Own.St B w0 w (ADk p s :: Ps)) (ok : Ok s N) (hN : N ≤ 10000) (pos : Int) (hpos : i64A pos) (ao : Option Addr) (n cap : Nat) (y : Bs) (hy : LiesB B w Ps ao n cap y) (hn : n ≤ 20000) :
    Calls Try.prog 14 #[qtr p, .int .i64 pos, .slice ao n cap] w fun e w' => e = .returned (errW (BakM.write s pos y).2) ∧ Own.St B w0 w' (ADk p (BakM.write s pos y).1 :: Ps) := by
  obtain ⟨x, hx, h⟩ := dkOpen H
  have HS0 := has_st h pos
  have hthere : there s pos = decide (0 ≤ pos ∧ pos < (s.safe.length : Int)) := rfl
  rw [← hthere] at HS0
  have HS := Lib.hid HS0
  have H0 := Lib.hid H
  have hyl := hy.given.size
  obtain ⟨th, hth⟩ : ∃ t, t = there s pos := ⟨_, rfl⟩
  rw [← hth] at HS
  cases th
  · have HE : Hid (BakM.write s pos y = (s, 1)) := by
      show BakM.write s pos y = (s, 1)
      unfold BakM.write
      rw [if_pos (.inl hth.symm)]
    rw [HE.out]
    clear H h hx ok hy hth hthere HS0 hyl
    go_enter Try.func14, Try.ntmps14
    go_wp2_with (fail)
    refine HS.out.mono ?_
    rintro e w1 ⟨rfl, rfl⟩
    clear HS
    go_wp2
    go_ret
    exact ⟨rfl, H0.out⟩
  by_cases hn8 : ¬ n = 256
  · have HE : Hid (BakM.write s pos y = (s, 1)) := by
      show BakM.write s pos y = (s, 1)
      unfold BakM.write
      rw [if_pos (.inr (by rw [hyl]; exact hn8))]
    rw [HE.out]
    have hni : ((n : Int) != 256) = true := by simp; omega
    clear H h hx ok hy hth hthere HS0 hyl hn8
    go_enter Try.func14, Try.ntmps14
    go_wp2_with (fail)
    refine HS.out.mono ?_
    rintro e w1 ⟨rfl, rfl⟩
    clear HS
    go_wp2
    go_ret
    exact ⟨rfl, H0.out⟩
  have hn8' : n = 256 := by omega
  subst hn8'
  clear hn8
  have hPF : BakM.write s pos y = if (trip s).off then (trip s, 6) else (okd { trip s with L := (trip s).L ++ [⟨pos.toNat, y⟩] }, 0) := by
    unfold BakM.write
    rw [if_neg (by rw [← hth, hyl]; simp)]
  obtain ⟨t1, t2⟩ := there_spec hth.symm
  obtain ⟨k, hk⟩ : ∃ k : Nat, pos = (k : Int) := ⟨pos.toNat, by omega⟩
  subst hk
  rw [show ((k : Int)).toNat = k from rfl] at hPF
  have hks : k < s.safe.length := by omega
  by_cases ho : (trip s).off = true
  · rw [if_pos ho] at hPF
    have HE := Lib.hid hPF
    rw [HE.out]
    have HB2 : Hid (Calls Try.prog 30 #[qtr p] w fun e w' => e = .returned (errW 6) ∧ Own.St B w0 w' (ADk p (trip s) :: Ps)) := by
      refine (begin_dk h hx ok hN).mono ?_
      intro e w' h'
      rw [if_pos ho] at h'
      obtain ⟨he, x', hx', h2⟩ := h'
      exact ⟨he, dkClose hx' h2⟩
    clear H h hx ok hy hth hthere HS0 hyl hPF t1 t2 ho H0
    go_enter Try.func14, Try.ntmps14
    go_wp2_with (fail)
    refine HS.out.mono ?_
    rintro e w1 ⟨rfl, rfl⟩
    clear HS
    go_wp2_with (fail)
    refine HB2.out.mono ?_
    clear HB2
    rintro e w3 ⟨rfl, h3⟩
    have H3 := Lib.hid h3
    clear h3
    go_wp2
    go_ret
    exact ⟨rfl, H3.out⟩
  rw [if_neg ho] at hPF
  obtain ⟨t, htt⟩ : ∃ t, t = okd (trip s) := ⟨_, rfl⟩
  have hPF2 : BakM.write s (k : Int) y = ({ t with L := t.L ++ [⟨k, y⟩] }, 0) := by rw [hPF, htt]; rfl
  have HE := Lib.hid hPF2
  rw [HE.out]
  have HB2 : Hid (Calls Try.prog 30 #[qtr p] w fun e w' => e = .returned (errW 0) ∧ ∃ x', HRel x' t ∧ Own.St B w0 w' (dkParts p x' t ++ Ps)) := by
    refine (begin_dk h hx ok hN).mono ?_
    intro e w' h'
    rw [if_neg ho, ← htt] at h'
    exact h'
  have HOT : Hid (Ok t (N + 1)) := by rw [htt]; exact okd_trip ok
  have hlog : t.L.length ≤ 10000 := by rw [htt]; show (trip s).L.length ≤ _; rw [(trip_same s).2.1]; have := ok.log; have := ok.n; omega
  have hsl : t.safe.length = s.safe.length := by rw [htt]; show (trip s).safe.length = _; rw [(trip_same s).1]
  have hkt : k < t.safe.length := by omega
  have PUTOK : Hid (PutOk t.safe.length ⟨k, y⟩) := ⟨hkt, hyl⟩
  have HST := Lib.hid h
  have HLY := Lib.hid hy
  have LAT : Hid (∀ (wx : World) (Xs : List Asn), Own.St B w0 wx (Xs ++ Ps) → Given wx ao 256 cap y) := fun wx Xs hst => lies_later HLY.out HST.out hst
  have HYL := Lib.hid hyl
  obtain ⟨z, hz1, hz2⟩ := zero_wrV
  have HZ1 := Lib.hid hz1
  have HZ2 := Lib.hid hz2
  clear H h hx ok hy hth hthere HS0 hyl hPF hPF2 t1 t2 ho H0 htt hsl HLY HST hz1 hz2 hks
  go_enter Try.func14, Try.ntmps14
  go_wp2_with (fail)
  refine HS.out.mono ?_
  rintro e w1 ⟨rfl, rfl⟩
  clear HS
  go_wp2_with (fail)
  refine HB2.out.mono ?_
  clear HB2
  rintro e w3 ⟨rfl, x', hx', h3⟩
  have G3 := LAT.out w3 _ h3
  obtain ⟨bo, oo, rfl, _, _, _⟩ := vat G3.view (k := 0) (by rw [HYL.out]; decide)
  have RY : Hid (w3.rangeAt bo oo (y.map byteV)) := by
    intro j v hv
    have := vcells G3.view _ rfl j v hv
    rw [add_of] at this
    exact this
  have hat : (Instr.arrayAt 65 (.slice (some ⟨bo, oo, none⟩) 256 cap)).run Try.prog w3 = .ok (.pointer (some ⟨bo, oo, none⟩)) w3 := run_arrayAt w3 65 _ 256 _ 256 cap Try.underlying65 (Nat.le_refl _)
  have IY := Lib.hid (info_blkL y HYL.out)
  obtain ⟨cs, hcs⟩ : ∃ c, c = wrCells ⟨k, y⟩ := ⟨_, rfl⟩
  have BE : Hid (Try.prog.built 68 [(0, .int .i64 (k : Int)), (1, .agg (y.map byteV).toArray)] = some cs.toArray) := by rw [hcs]; exact built_wr k y HYL.out
  have HCL : Hid (cs.length = 257) := by show cs.length = 257; rw [hcs]; exact wrCells_len PUTOK.out
  have HONE : Hid (∀ u ∈ cs, u.oneCell' = true) := by rw [hcs]; exact one_wr _
  have IO := Lib.hid (info_wrL cs HCL.out)
  have OO : Hid (cs.toArray.all (·.oneCell') = true) := all_oneCell_toArray HONE.out
  obtain ⟨aN, cN, aS, cS, vP, armed, lf⟩ := x'
  have HX := Lib.hid hx'
  obtain ⟨G, hG⟩ : ∃ G, G = nowG t.safe t.L := ⟨_, rfl⟩
  have HSH : Hid (Shape G t.safe.length) := by rw [hG]; exact nowG_shape t.L t.safe HOT.out.shape HOT.out.putsOk
  have HGS : Hid (nowG t.safe (t.L ++ [⟨k, y⟩]) = G.set k y) := by rw [hG]; exact nowG_snoc _ _ _
  obtain ⟨nS, hnS⟩ : ∃ z, z = t.safe.length := ⟨_, rfl⟩
  have HNS := Lib.hid hnS
  have hP : Own.St B w0 w3 (AVals p 62 (dkCells (.slice aN nS cN) (.slice aS nS cS) vP t.n t.off armed lf) :: bRow (.slice aN nS cN) nS G :: bRow (.slice aS nS cS) nS t.safe :: ARow 68 257 vP t.L.length (t.L.flatMap wrCells) :: Ps) := by rw [hG, hnS]; exact h3
  have hns4 : nS ≤ 4096 := by rw [hnS]; exact HOT.out.len
  rw [← hnS] at HSH PUTOK hkt
  obtain ⟨q, hq⟩ : ∃ q, q = t.L.length := ⟨_, rfl⟩
  have hll : Hid ((t.L ++ [(⟨k, y⟩ : Put)]).length = q + 1) := by show (t.L ++ [(⟨k, y⟩ : Put)]).length = q + 1; simp [hq]
  have hfm : Hid ((t.L ++ [(⟨k, y⟩ : Put)]).flatMap wrCells = t.L.flatMap wrCells ++ cs) := by
    show (t.L ++ [(⟨k, y⟩ : Put)]).flatMap wrCells = t.L.flatMap wrCells ++ cs
    rw [List.flatMap_append, hcs]; simp
  obtain ⟨xs, hxs⟩ : ∃ x, x = t.L.flatMap wrCells := ⟨_, rfl⟩
  rw [← hxs, ← hq] at hP
  rw [← hxs] at hfm
  rw [← hq] at hlog
  obtain ⟨bx, hbx⟩ : ∃ b, b = w3.heap.size := ⟨_, rfl⟩
  obtain ⟨W1, hW1⟩ : ∃ W, W = w3.alloc (.cells z 68) := ⟨_, rfl⟩
  have hbx2 : Own.St B w0 W1 (AVals bx 68 z.toList :: AVals p 62 (dkCells (.slice aN nS cN) (.slice aS nS cS) vP t.n t.off armed lf) :: bRow (.slice aN nS cN) nS G :: bRow (.slice aS nS cS) nS t.safe :: ARow 68 257 vP q xs :: Ps) := by
    unfold AVals
    rw [hbx, hW1, Array.toArray_toList]
    exact hP.box (.cells z 68)
  have HBX := Lib.hid hbx
  have HW1 := Lib.hid hW1
  have TH : Hid (W1.there bx 0 cs.toArray.size) := hbx2.thereV 0 rfl (by rw [List.size_toArray, HCL.out, Array.length_toList, HZ1.out]; exact Nat.le_refl _)
  have hset := Own.St.setAll 0 cs 0 W1 _ z.toList hbx2 rfl (by rw [HCL.out, Array.length_toList, HZ1.out])
  simp only [List.set_cons_zero, List.take_zero, List.nil_append] at hset
  obtain ⟨W2, hW2⟩ : ∃ W, W = W1.setCells bx 0 cs.toArray.toList := ⟨_, rfl⟩
  have HW2 := Lib.hid hW2
  have H2 : Hid (Own.St B w0 W2 (AVals bx 68 cs :: AVals p 62 (dkCells (.slice aN nS cN) (.slice aS nS cS) vP t.n t.off armed lf) :: bRow (.slice aN nS cN) nS G :: bRow (.slice aS nS cS) nS t.safe :: ARow 68 257 vP q xs :: Ps)) := by
    rw [hW2, List.toList_toArray]; exact hset
  have R5 : Hid (∀ wx, Below W2.heap.size W2 wx → wx.rangeAt bx 0 cs) := fun wx hwx => range_box (H2.out.later hwx) 0 rfl
  have C0 : Hid (∀ wx, Below W2.heap.size W2 wx → wx.cell? ⟨p, 0, none⟩ = some (.slice aN nS cN)) := fun wx hwx => ((H2.out.later hwx).cellV 1 rfl 0 rfl).1
  have CA : Hid (∀ wx, Below W2.heap.size W2 wx → Calls Try.prog 31 #[.agg cs.toArray, .slice aN nS cN] wx fun e w' => e = .returned (.tuple #[]) ∧ Own.St B w0 w' (bRow (.slice aN nS cN) nS (G.set k y) :: AVals bx 68 cs :: AVals p 62 (dkCells (.slice aN nS cN) (.slice aS nS cS) vP t.n t.off armed lf) :: bRow (.slice aS nS cS) nS t.safe :: ARow 68 257 vP q xs :: Ps)) := by
    intro wx hwx
    have h1 := (H2.out.later hwx).front 2 rfl
    simp only [List.eraseIdx_cons_succ, List.eraseIdx_cons_zero] at h1
    rw [hcs]
    rw [hcs] at h1
    exact apply_st h1 HSH.out hns4 ⟨k, y⟩ PUTOK.out
  have FIN : Hid (∀ wx vP', Own.St B w0 wx (AVals p 62 (dkCells (.slice aN nS cN) (.slice aS nS cS) vP' t.n t.off armed lf) :: bRow (.slice aN nS cN) nS (G.set k y) :: bRow (.slice aS nS cS) nS t.safe :: ARow 68 257 vP' (q + 1) (xs ++ cs) :: Ps) → Own.St B w0 wx (ADk p { t with L := t.L ++ [⟨k, y⟩] } :: Ps)) := by
    intro wx vP' hst
    refine dkClose (x := ⟨aN, cN, aS, cS, vP', armed, lf⟩) ⟨HX.out.i64, HX.out.on, HX.out.pos⟩ ?_
    unfold dkParts
    simp only
    rw [HGS.out, hll.out, hfm.out, ← HNS.out]
    exact hst
  clear h3 G3 hcs hx' LAT hG hnS hP hq hxs hbx hW1 hbx2 hset hW2 H2 HX HSH HGS hll hfm HOT PUTOK HNS HYL HZ1 hns4 hkt
  go_wp2_with (first
    | (refine wpList_load_mid rfl 65 (.tmp 27) rfl bo oo rfl (y.map byteV) _ RY.out Try.underlying65 rfl IY.out ?_)
    | (refine Own.wpList_built rfl 68 #[(0, .tmp 25), (1, .tmp 28)] rfl cs.toArray ?_ ?_; · (simp only [List.map_toArray, List.map_cons, List.map_nil, List.toList_toArray]; exact BE.out))
    | (refine Own.wpList_allocZ rfl 68 rfl z HZ2.out ?_; rw [← HBX.out, ← HW1.out])
    | (refine wpList_store_mid rfl 68 (.tmp 8) (.tmp 29) rfl bx 0 cs.toArray rfl rfl TH.out IO.out OO.out ?_; rw [← HW2.out]))
  clear BE RY hat TH HBX HW1 HW2
  refine wp_laxW_list 5 (by kernel_rfl) (by kernel_rfl) (by kernel_rfl) (by kernel_rfl) (by kernel_rfl) ?_
  simp only [List.take_succ_cons, List.take_zero, List.drop_succ_cons, List.drop_zero]
  refine wpL_run1 (x := .tmp 8) (.pointer (some ⟨bx, 0, none⟩)) (.agg cs.toArray) (by kernel_rfl) (by kernel_rfl) (by kernel_rfl) (by kernel_rfl) (by kernel_rfl) (fun wx ρ hwx h0 hc => load_wrE cs HCL.out rfl ρ (R5.out wx hwx) h0) ?_
  refine wpL_move (.pointer (some ⟨p, 0, none⟩)) rfl (by kernel_rfl) (by kernel_rfl) (by kernel_rfl) (by kernel_rfl) ?_
  refine wpL_run1 (x := .tmp 31) (.pointer (some ⟨p, 0, none⟩)) (.pointer (some ⟨p, 0, none⟩)) (by kernel_rfl) (by kernel_rfl) (by kernel_rfl) (by kernel_rfl) (by kernel_rfl) (fun wx ρ hwx h0 hc => by simp [go_sem, h0, hc]) ?_
  refine wpL_run1 (x := .tmp 32) (.pointer (some ⟨p, 0, none⟩)) (.pointer (some ⟨p, 0, none⟩)) (by kernel_rfl) (by kernel_rfl) (by kernel_rfl) (by kernel_rfl) (by kernel_rfl) (fun wx ρ hwx h0 hc => by simp [go_sem, h0, hc]) ?_
  refine wpL_run1 (x := .tmp 33) (.pointer (some ⟨p, 0, none⟩)) (.slice aN nS cN) (by kernel_rfl) (by kernel_rfl) (by kernel_rfl) (by kernel_rfl) (by kernel_rfl) (fun wx ρ hwx h0 hc => by simp [go_sem, h0, hc, C0.out wx hwx]) ?_
  refine wpL_end (by kernel_rfl) (fun w4 hw4 => ?_)
  simp only [FinL, setL, List.set_cons_zero, List.set_cons_succ]
  intro _
  have CA4 := Lib.hid (CA.out w4 hw4)
  clear CA R5 C0 hw4
  go_wp2_with (fail)
  refine CA4.out.mono ?_
  clear CA4
  rintro e w5 ⟨rfl, h3⟩
  have c3 := (h3.cellV 2 rfl 2 rfl).1
  have H3 := Lib.hid h3
  have h4 := (h3.drew).alloc (.cells cs.toArray 68)
  have CN : Hid (∀ j u, cs[j]? = some u → (w5.drew.alloc (.cells cs.toArray 68)).cell? ((⟨w5.heap.size, 0, none⟩ : Addr).add j) = some u) := by
    intro j u hu
    rw [add_of, Nat.zero_add]
    exact cell_of_block (heap_alloc_new w5.drew _) (by simpa using hu)
  obtain ⟨v7, w7, hr7, h7⟩ := run_wr_append h4 4 rfl 60 ⟨w5.heap.size, 0, none⟩ cs HCL.out CN.out HONE.out (by omega)
  simp only [List.set_cons_zero, List.set_cons_succ] at h7
  obtain ⟨ao7, cap7, rfl⟩ := h7.rowForm 4 rfl
  have q7 := (h7.cellV 2 rfl 2 rfl)
  have h8 := (h7.storeV 2 rfl 2 (.slice ao7 (q + 1) cap7))
  simp only [List.set_cons_zero, List.set_cons_succ] at h8
  have h9 := (h8.front 2 rfl)
  simp only [List.eraseIdx_cons_succ, List.eraseIdx_cons_zero] at h9
  have h10 := (h9.front 2 rfl).drop 1
  simp only [List.eraseIdx_cons_succ, List.eraseIdx_cons_zero, List.drop_succ_cons, List.drop_zero] at h10
  have H6 := Lib.hid (FIN.out _ _ h10)
  have HR7 := Lib.hid hr7
  have Q7 := Lib.hid q7
  have C3a : Hid (w5.drew.cell? ⟨p, 2, none⟩ = some vP) := (h3.drew.cellV 2 rfl 2 rfl).1
  have C3b : Hid ((w5.drew.alloc (.cells cs.toArray 68)).cell? ⟨p, 2, none⟩ = some vP) := (h4.cellV 2 rfl 2 rfl).1
  have HLD : Hid (w5.drew.rangeAt bx 0 cs) := range_box H3.out.drew 1 rfl
  clear h3 h4 h7 h8 h9 h10 q7 hr7 c3 CN FIN HONE H3 IY IO OO
  go_wp2_with (fail)
  refine wp_chain_list [6, 7, 10] (fun j wx => wx = match j with | 0 => w5.drew | 1 => w5.drew.alloc (.cells cs.toArray 68) | 2 => w7 | _ => w7.setCell ⟨p, 2, none⟩ (.slice ao7 (q + 1) cap7)) (by kernel_rfl) (by kernel_rfl) (by kernel_rfl) (by kernel_rfl) rfl ?_
  refine wpG_move (.pointer (some ⟨p, 0, none⟩)) rfl (by kernel_rfl) (by kernel_rfl) (by kernel_rfl) ?_
  refine wpG_move (.pointer (some ⟨p, 0, none⟩)) rfl (by kernel_rfl) (by kernel_rfl) (by kernel_rfl) ?_
  refine wpG_run1 (x := .tmp 37) (.pointer (some ⟨p, 0, none⟩)) (.pointer (some ⟨p, 0, none⟩)) (by kernel_rfl) (by kernel_rfl) (by kernel_rfl) (by kernel_rfl) (fun j wx ρ hC h0 hc => by simp [go_sem, h0, hc]) ?_
  refine wpG_run1 (x := .tmp 38) (.pointer (some ⟨p, 0, none⟩)) (.pointer (some ⟨p, 2, none⟩)) (by kernel_rfl) (by kernel_rfl) (by kernel_rfl) (by kernel_rfl) (fun j wx ρ hC h0 hc => by simp [go_sem, h0, hc]) ?_
  refine wpG_runU1 (x := .tmp 39) 1 (.pointer (some ⟨p, 2, none⟩)) vP (by kernel_rfl) (by kernel_rfl) (by kernel_rfl) (by kernel_rfl) (by kernel_rfl) (by kernel_rfl) (fun j wx ρ hj hC h0 hc => ?_) ?_
  · have hcell : wx.cell? ⟨p, 2, none⟩ = some vP := by
      match j, hj with
      | 0, _ => subst hC; exact C3a.out
      | 1, _ => subst hC; exact C3b.out
    simp [go_sem, h0, hc, hcell]
  refine wpG_runU1 (x := .tmp 8) 0 (.pointer (some ⟨bx, 0, none⟩)) (.agg cs.toArray) (by kernel_rfl) (by kernel_rfl) (by kernel_rfl) (by kernel_rfl) (by kernel_rfl) (by kernel_rfl) (fun j wx ρ hj hC h0 hc => ?_) ?_
  · obtain rfl : j = 0 := by omega
    subst hC
    exact load_wrE cs HCL.out rfl ρ HLD.out h0
  refine wpG_op 0 (.slice (some ⟨w5.heap.size, 0, none⟩) 1 1) _ (.inl rfl) (by kernel_rfl) (by kernel_rfl) (by kernel_rfl) (by kernel_rfl) (by kernel_rfl) (fun wx hC => ⟨_, by subst hC; exact slot_wrE rfl cs HCL.out _ _ rfl, rfl⟩) ?_
  refine wpG_op 1 (.slice ao7 (q + 1) cap7) _ (.inl rfl) (by kernel_rfl) (by kernel_rfl) (by kernel_rfl) (by kernel_rfl) (by kernel_rfl) (fun wx hC => ⟨_, by subst hC; exact app_E rfl rfl rfl HR7.out, rfl⟩) ?_
  refine wpG_run1 (x := .tmp 36) (.pointer (some ⟨p, 0, none⟩)) (.pointer (some ⟨p, 0, none⟩)) (by kernel_rfl) (by kernel_rfl) (by kernel_rfl) (by kernel_rfl) (fun j wx ρ hC h0 hc => by simp [go_sem, h0, hc]) ?_
  refine wpG_run1 (x := .tmp 44) (.pointer (some ⟨p, 0, none⟩)) (.pointer (some ⟨p, 2, none⟩)) (by kernel_rfl) (by kernel_rfl) (by kernel_rfl) (by kernel_rfl) (fun j wx ρ hC h0 hc => by simp [go_sem, h0, hc]) ?_
  refine wpG_op 2 undef _ (.inr ⟨rfl, rfl⟩) (by kernel_rfl) (by kernel_rfl) (by kernel_rfl) (by kernel_rfl) (by kernel_rfl) (fun wx hC => ⟨w7.setCell ⟨p, 2, none⟩ (.slice ao7 (q + 1) cap7), by subst hC; exact store_E (a := .pointer (some ⟨p, 2, none⟩)) (v := .slice ao7 (q + 1) cap7) rfl (by kernel_rfl) (by kernel_rfl) (by simp [go_sem, Q7.out.1, Q7.out.2]), rfl⟩) ?_
  refine wpG_end (fun w9 hw9 => ?_)
  subst hw9
  simp only [setL, List.set_cons_zero, List.set_cons_succ]
  go_wp2
  go_ret
  exact ⟨rfl, H6.out⟩
end
end Bak
end Go.Proofs.Ytkddeccgoamopaa
