/- Merged: LzN LzQ MatK MatI MatN MatJ MatL MatT MatO MatP MatW MatQ MatX LzO LzW LzX LgaM PagR PagT PagG PagJ PagQ -/
import Derived.Lib.SlBytesConst
import Derived.Maps.Own
import Derived.Maps.Views
import Derived.WideKeyArr
import Derived.ArgAppend
import Derived.RangeFuncNested
import Derived.RangeFuncBound
import Derived.RangeFuncCalls
import Derived.RangeFuncLeaves
import Derived.RangeFuncBox
import Derived.Shelf.Abstract
import Derived.Shelf.RegionOpen
import Derived.WalkKit
import Derived.OwnWalkIn
import Derived.TacticsInMore
import Derived.LoopNIn
import Derived.LoopIn
import Derived.Lib.Hide
import Derived.BigQuiet
import Derived.Laws.Cover3
import Derived.Laws.OwnMore
import Derived.Deep.QuietTactic
import Derived.BigRegion
import Derived.Laws.Rows
import Derived.Test.YtahjjcmeocibbaaGreatDoorQ1
import Derived.Test.YtahjjcmeocibbaaGreatDoorQ2
import Derived.Test.YtahjjcmeocibbaaGreatDoorQ3
import Derived.Test.YtahjjcmeocibbaaGreatDoorQ4
set_option linter.unusedVariables false
section
namespace Go.Proofs.YtahjjcmeocibbaaGreatDoor
open Go.RowKit Go.Own Go.Shelf
attribute [local go_sem] Oper.semAt_some
namespace Lz
open Go.MatM Go.LzM Byt
def PO (b0 : Nat) (ab : Option Addr) (m cb : Nat) (ao : Option Addr) (n cap : Nat) (l : Bs) (Ps : List Asn) : List Asn :=
 AVals (b0 + 1 + 1) 3 [.int .i64 128] :: AVals (b0 + 1) 37 [.slice ab m cb] :: AVals b0 37 [.slice ao n cap] :: AB ao n cap l :: Ps
theorem PO.cellish {b0 : Nat} {ab : Option Addr} {m cb : Nat} {ao : Option Addr} {n cap : Nat} {l : Bs} {Ps : List Asn} (h : ∀ P ∈ Ps, P.cellish) : ∀ P ∈ PO b0 ab m cb ao n cap l Ps, P.cellish := by
 intro P hP
 simp only [PO, List.mem_cons] at hP
 rcases hP with rfl | rfl | rfl | rfl | hP
 · exact ABlk.cellish _ _ _ _
 · exact ABlk.cellish _ _ _ _
 · exact ABlk.cellish _ _ _ _
 · exact ARow.cellish _ _ _ _ _
 · exact h P hP
theorem PO.kc {B : Nat} {w0 W W' : World} {b0 : Nat} {ab : Option Addr} {m cb : Nat} {ao ao' : Option Addr} {n cap n' cap' : Nat} {l l' : Bs} {Ps : List Asn} (H : Own.St B w0 W (PO b0 ab m cb ao n cap l Ps)) (H' : Own.St B w0 W' (PO b0 ab m cb ao' n' cap' l' Ps)) : KC (b0 + 1) (b0 + 1 + 1) W W' :=
 ⟨(H'.block 1 rfl).trans (H.block 1 rfl).symm, (H'.block 0 rfl).trans (H.block 0 rfl).symm⟩
set_option maxRecDepth 100000 in
set_option maxHeartbeats 4000000 in
theorem putLits_st {B : Nat} {w0 w : World} {Ps : List Asn} {ax : Option Addr} {k cx : Nat} {done : Bs} {ab : Option Addr} {m cb : Nat} {l : Bs} (H : Own.St B w0 w (AB ax k cx done :: Ps)) (hPs : ∀ P ∈ Ps, P.cellish)
 (hV : View w (fun k => k < B) ab l) (hl : l.length = m) (hm : m <= cb) (hcb : cb <= maxLen) (hb : k + 2 * m <= 500000000) :
 Calls Tryz.prog 74 #[.slice ax k cx, .slice ab m cb] w fun e w' => ∃ a' c', e = .returned (.slice a' (k + (plain l).length) c') /\ Own.St B w0 w' (AB a' (k + (plain l).length) c' (done ++ plain l) :: Ps) := by
 have hao : m = 0 \/ ∃ b o, ab = some ⟨b, o, none⟩ := by
  rcases hV with rfl | ⟨b, o, h, _⟩
  · exact .inl hl.symm
  · exact .inr ⟨b, o, h⟩
 have H0 := Lib.hid H
 refine (callsIn_wide (n := 5)).1 ?_
 refine callsIn_of_wp_marks Tryz.func74 rfl trivial ?_ rfl
 simp only [Tryz.ntmps74, List.size_toArray, List.length_cons, List.length_nil, Nat.reduceAdd, Nat.reduceSub, Array.replicate_succ, Array.replicate_zero, List.push_toArray, List.append_toArray, List.nil_append, List.cons_append]
 gi_wp2_with (refine ⟨trivial, ?_⟩; gi_at_call 103; refine (chunk_in _ _ _ _ _).mono ?_; rintro e w' ⟨rfl, rfl⟩)
 obtain ⟨W0, hW0⟩ : ∃ W0, (((w.alloc (.cells #[.slice ax k cx] 37)).alloc (.cells #[.slice ab m cb] 37)).alloc (.cells #[.int .i64 128] 3)) = W0 := ⟨_, rfl⟩
 have hst : Own.St B w0 W0 (PO w.heap.size ab m cb ax k cx done Ps) := by
  rw [<- hW0]
  have h1 := H.boxV 37 [.slice ax k cx]
  have h2 := h1.boxV 37 [.slice ab m cb]
  have h3 := h2.boxV 3 [.int .i64 128]
  simp only [World.size_alloc] at h2 h3
  exact h3
 have hsz : W0.heap.size = w.heap.size + 3 := by rw [<- hW0]; simp
 have hc1 := (hst.cellV 1 rfl 0 rfl).1
 have hc2 := (hst.cellV 0 rfl 0 rfl).1
 have hB : B <= w.heap.size := H.size
 have hBw : Below B w W0 := by
  rw [<- hW0]
  exact (((Below.refl _ w).alloc hB _).alloc (by simp; omega) _).alloc (by simp; omega) _
 have hV0 := View.below hV hBw
 rw [hW0]
 have hbnd : ∀ pre : List (Fin (nch m)), pre.length <= nch m -> k + (pre.flatMap (fun x => partB l x.1)).length <= 1000000 + 500000000 := by
  intro pre hpre
  subst hl
  have := parts_len l pre
  have : 128 * nch l.length <= l.length + 127 := by unfold nch; omega
  omega
 have hnb : nch m <= 5000000 := by unfold nch; omega
 clear hV hW0 hBw H H0
 refine wpIn_rangeFunc_ownG rfl (by decide) (gf := 128) (lb := #[.pointer (some ⟨w.heap.size + 1, 0, none⟩), .pointer (some ⟨w.heap.size + 1 + 1, 0, none⟩)]) rfl trivial (enters_of Tryz.func128 (by kernel_rfl) rfl)
  (chunk_stops _ (by decide) (w.heap.size + 1) (w.heap.size + 1 + 1) ab m cb hao hm (by omega) hcb W0 (by omega) (by omega) hc1 hc2) (fun h k => KC.trans h k)
  (fun W l o o' hl h h1 h2 => ⟨World.putObj_heap_other (by omega), World.putObj_heap_other (by omega)⟩) (Below.refl _ _) (fun _ => rfl)
  (fun pre W => ∃ ao n cap, n = k + (pre.flatMap (fun x => partB l x.1)).length /\ Own.St B w0 W (PO w.heap.size ab m cb ao n cap (done ++ pre.flatMap (fun x => partB l x.1)) Ps))
  (fun _ _ _ => False)
  (fun pre W W' row hs hg hr => by
   obtain ⟨ao, n, cap, hn, hS⟩ := hs
   exact ⟨ao, n, cap, hn, hS.abide (PO.cellish hPs) hg (fun r e => ⟨by have := (hr r e).1; omega, (hr r e).2⟩)⟩)
  (fun c pre W W' row hs hg hr => hs)
  ⟨ax, k, cx, by simp, by simpa using hst⟩
  (fun x => { tmps := #[Value.slice ax k cx, Value.slice ab m cb, Value.pointer (some ⟨w.heap.size, 0, none⟩), undef,
   Value.slice none 0 0, partV ab m x.1, Value.slice ab m cb,
   Value.func (Fn.func 128) #[] #[Value.pointer (some ⟨w.heap.size + 1, 0, none⟩), Value.pointer (some ⟨w.heap.size + 1 + 1, 0, none⟩)],
   partV ab m x.1, undef, undef, undef, undef, undef, undef, undef, undef, undef, undef, undef], defers := [] }) ?assign ?body ?done ?stop
 case assign =>
  intro l x W K hK
  gi_wp2
  exact hK
 case stop => rintro D c pre W hD _ h; exact h.elim
 case done =>
  rintro D ys W hD hys ⟨ao, n, cap, hn, hS⟩ hK
  have hpl : ys.flatMap (fun x => partB l x.1) = plain l := by rw [hys]; subst hl; exact (plain_fin l).symm
  rw [hpl] at hn hS
  have hcb1 := (hS.cellV 2 rfl 0 rfl).1
  have HS := Lib.hid hS
  have HK := Lib.hid hK
  have HD := Lib.hid hD
  have HN := Lib.hid hn
  have HPS := Lib.hid hPs
  have HB := Lib.hid (And.intro hB hsz)
  clear hS hK hD hn hpl hys hPs hst hc1 hc2 hV0 hbnd hnb hB hsz hl hb hao
  gi_wp2
  refine ⟨by simp, .inl ⟨_, _, rfl, run_takeDeferred HK.out, ?_⟩⟩
  refine ⟨.slice ao n cap, ?_, ?_⟩
  · simp [results, Tryz.f74, go_sem]
  · refine ⟨ao, cap, by rw [HN.out], ?_⟩
    rw [<- HN.out]
    have h := HS.out.abide (PO.cellish HPS.out) (grownBy_putObj' W D (.deferred none)) (fun r e => by cases e; exact ⟨by have := HD.out; have := HB.out; omega, _, HK.out, rfl⟩)
    exact h.drop 3
 case body =>
  rintro l' pre x W ⟨ao, n, cap, hn, hS⟩ hpl
  have hm0 : ¬ m = 0 := by intro e; subst e; exact absurd x.2 (by unfold nch; omega)
  rcases hao with h | ⟨gb, go, rfl⟩
  · exact absurd h hm0
  have hVW := View.same hV0 (Below.both hst.below hS.below)
  obtain ⟨q, hq⟩ : ∃ q, q = chl m x.1 := ⟨_, rfl⟩
  have hx := x.2
  have hq1 : 1 <= q := by
   rw [hq]; unfold chl; have : 128 * nch m <= m + 127 := by unfold nch; omega
   omega
  have hq2 : q <= 128 := by rw [hq]; unfold chl; omega
  obtain ⟨c, hc⟩ : ∃ c, c = UInt8.ofNat (q - 1) := ⟨_, rfl⟩
  have hcn : c.toNat = q - 1 := by rw [hc, ofNat_toNat (q - 1) (by omega)]
  have hsub : (q : Int) - 1 = (c.toNat : Int) := by omega
  have hcb : c.toNat <= 127 := by omega
  obtain ⟨t, ht⟩ : ∃ t, t = (l.drop (128 * x.1)).take 128 := ⟨_, rfl⟩
  have htl : t.length = q := by rw [ht, part_len, hl, hq]
  have hpb : partB l x.1 = c :: t := by unfold partB; rw [hl, <- hq, <- hc, <- ht]
  obtain ⟨off, hoff⟩ : ∃ off, off = go + 128 * x.1 := ⟨_, rfl⟩
  have hpv : partV (some ⟨gb, go, none⟩) m x.1 = .slice (some ⟨gb, off, none⟩) q q := by unfold partV; rw [<- hq, hoff]; simp [add_of]
  have hVt : View W (fun k => k < B) (some ⟨gb, off, none⟩) t := by rw [ht, hoff]; exact vtake (vdrop hVW _) 128
  have hnk : n + 1 + q <= 1000000000 := by have := hbnd pre (by omega); omega
  have hsnoc : (pre ++ [x]).flatMap (fun x => partB l x.1) = pre.flatMap (fun x => partB l x.1) ++ (c :: t) := by rw [List.flatMap_append]; simp [hpb]
  obtain ⟨bs, hbs⟩ : ∃ bs, bs = pre.flatMap (fun x => partB l x.1) := ⟨_, rfl⟩
  rw [<- hbs] at hn hS hsnoc
  rw [hpv]
  obtain ⟨hcb1, hcb2⟩ := hS.cellV 2 rfl 0 rfl
  have HS := Lib.hid hS
  have HN := Lib.hid hn
  have HV := Lib.hid hVt
  have HL := Lib.hid htl
  have HSN := Lib.hid hsnoc
  clear hS hn hVt htl hsnoc hbs hpv hoff hpb ht hcn hc hq hx hVW hm0 hpl hbnd hnb hV0 hc1 hc2 hst hPs hl
  gi_wp2_with (first
   | (gi_at_builtin; refine Byt.wpListIn_ab_append rfl (.tmp 9) (.tmp 14) rfl (HS.out.alloc (.cells #[.int .u8 (c.toNat : Int)] 5)) 3 rfl rfl (some ⟨W.heap.size, 0, none⟩) 1 1 [c] rfl (by intro h; cases h) rfl (one_cells8 W c _) (by omega) ?_; intro a3 c3 wa ha hka; simp only [PO, List.set_cons_succ, List.set_cons_zero] at ha; obtain ⟨hd1, hd2⟩ := ha.cellV 2 rfl 0 rfl; have HA := Lib.hid (ha.storeV 2 rfl 0 (.slice a3 (n + 1) c3)); have HKA := Lib.hid hka; have HVA := Lib.hid (vcells (View.same HV.out (Below.both HS.out.below (ha.storeV 2 rfl 0 (.slice a3 (n + 1) c3)).below))); clear ha hka hcb1 hcb2)
   | (gi_at_builtin; refine Byt.wpListIn_ab_append rfl (.tmp 16) (.tmp 17) rfl HA.out 3 rfl rfl (some ⟨gb, off, none⟩) q q t rfl (by intro h; cases h) HL.out HVA.out (by omega) ?_; intro a4 c4 wb hb4 hkb; simp only [List.set_cons_succ, List.set_cons_zero] at hb4; obtain ⟨he1, he2⟩ := hb4.cellV 2 rfl 0 rfl; have HB4 := Lib.hid (hb4.storeV 2 rfl 0 (.slice a4 (n + 1 + q) c4)); have HKB := Lib.hid hkb; clear hb4 hkb hd1 hd2))
  have HF := HB4.out
  simp only [List.set_cons_succ, List.set_cons_zero] at HF
  refine ⟨?_, PO.kc HS.out HF, a4, n + 1 + q, c4, ?_, ?_⟩
  · exact (((((KeepsOthers.alloc W _).trans HKA.out).trans (KeepsOthers.setCell _ _ _)).trans HKB.out).trans (KeepsOthers.setCell _ _ _)).from _
  · rw [HSN.out, List.length_append, List.length_cons, HL.out, HN.out]; omega
  · rw [HSN.out]
    have e : done ++ bs ++ [c] ++ t = done ++ (bs ++ (c :: t)) := by simp
    rw [<- e]
    exact HF
end Lz
end Go.Proofs.YtahjjcmeocibbaaGreatDoor
end
section
namespace Go.Proofs.YtahjjcmeocibbaaGreatDoor
open Go.RowKit Go.Own
namespace Lz
open Go.MatM Go.LzM Byt
def RetYes (w : World) (e : Ending) (w' : World) : Prop := e = .returned (.bool true) /\ Below w.heap.size w w'
structure Kept (W : World) : Prop where
 unpack : ∀ ao n cap p (most : Int) w, Below W.heap.size W w -> Given w ao n cap p -> n <= 20000 -> -9223372036854775808 <= most -> most <= 9223372036854775807 ->
  Calls Tryz.prog 18 #[.slice ao n cap, .int .i64 most] w (UnDone (unpack p most.toNat) w)
theorem unpack_st {W : World} (K : Kept W) {ao : Option Addr} {n cap : Nat} {p r : Bs} {x : Int} {m k : Nat} {w : World} (h : Below W.heap.size W w) (g : Given w ao n cap p) (hn : n <= 20000) (h0 : -9223372036854775808 <= x) (h1 : x <= 9223372036854775807) (hr : unpack p x.toNat = (r, k)) (hm : r.length = m) :
 Calls Tryz.prog 18 #[.slice ao n cap, .int .i64 x] w fun e w' => ∃ a c, e = .returned (.tuple #[.slice a m c, .int .i64 (k : Int)]) /\ Given w' a m c r /\ Below w.heap.size w w' := by
 subst hm
 refine (K.unpack ao n cap p x w h g hn h0 h1).mono ?_
 rw [hr]
 rintro e w' ⟨v, rfl, a, c, rfl, h1, h2⟩
 exact ⟨a, c, rfl, h1, h2⟩
end Lz
end Go.Proofs.YtahjjcmeocibbaaGreatDoor
end
section
namespace Go.Proofs.YtahjjcmeocibbaaGreatDoor
open Go.RowKit Go.Own Go.Maps
namespace Mat
theorem infoInt : (Tryz.prog.info? 3).map (fun i => (i.zero, i.size, i.bytes)) = some (some (.int .i64 0), 1, 8) := by kernel_rfl
def nv (k : Nat) : Value := .int .i64 (k : Int)
def Slc (w : World) (v : Value) (zs : List Nat) : Prop :=
 (v = .slice none 0 0 /\ zs = []) \/ ∃ g o cap cur, v = .slice (some ⟨g, o, none⟩) zs.length cap /\ w.heap[g]? = some (.cells cur 3 (0, 0)) /\ zs.length <= cap /\ cap <= maxLen /\ o + cap <= cur.size /\ ∀ j, j < zs.length -> cur[o + j]? = some (nv (zs.getD j 0))
section
variable {w w' : World} {v : Value} {zs : List Nat}
theorem Slc.nil (w : World) : Slc w (.slice none 0 0) [] := .inl ⟨rfl, rfl⟩
theorem Slc.lt (h : Slc w v zs) (k : Nat) (hk : v.ownBlock = some k) : k < w.heap.size := by
 rcases h with ⟨rfl, _⟩ | ⟨g, o, cap, cur, rfl, hb, _⟩
 · cases hk
 · simp only [Value.ownBlock, Option.some.injEq] at hk
   subst hk
   exact lt_of_block hb
theorem Slc.same (h : Slc w v zs) (e : ∀ k, v.ownBlock = some k -> w'.heap[k]? = w.heap[k]?) : Slc w' v zs := by
 rcases h with h | ⟨g, o, cap, cur, rfl, hb, r⟩
 · exact .inl h
 · exact .inr ⟨g, o, cap, cur, rfl, (e g rfl).trans hb, r⟩
theorem Slc.kept {row : Option Nat} (h : Slc w v zs) (g : w.grownBy w' row) (hne : ∀ k, v.ownBlock = some k -> some k ≠ row) : Slc w' v zs :=
 h.same fun k hk => g.block k (h.lt k hk) (hne k hk)
theorem Slc.later (h : Slc w v zs) (g : Below w.heap.size w w') : Slc w' v zs := h.same fun k hk => g.block k (h.lt k hk)
theorem Slc.step {S T : Nat -> Prop} (h : Slc w v zs) (g : Step S T w w') (hd : ∀ k, v.ownBlock = some k -> ¬ S k) : Slc w' v zs := h.same fun k hk => g.block k (h.lt k hk) (hd k hk)
theorem Slc.form (h : Slc w v zs) : ∃ ao cap, v = .slice ao zs.length cap /\ zs.length <= cap /\ cap <= maxLen /\ (ao = none -> zs = [] /\ cap = 0) /\ ∀ a, ao = some a -> a.spot = none /\ ∀ j, j < zs.length -> w.cell? ⟨a.block, a.off + j, none⟩ = some (nv (zs.getD j 0)) := by
 rcases h with ⟨rfl, rfl⟩ | ⟨g, o, cap, cur, rfl, hb, h1, h2, _, h3⟩
 · exact ⟨none, 0, rfl, Nat.le_refl _, by unfold maxLen; omega, fun _ => ⟨rfl, rfl⟩, fun a h => by cases h⟩
 · exact ⟨_, cap, rfl, h1, h2, fun h => by (cases h), fun a ha => by cases ha; exact ⟨rfl, fun j hj => cell_of_block hb (h3 j hj)⟩⟩
theorem Slc.off {g o cap z : Nat} (h : Slc w (.slice (some ⟨g, o, none⟩) (zs.length + 1) cap) (z :: zs)) : Slc w (.slice (some ⟨g, o + 1, none⟩) zs.length (cap - 1)) zs := by
 rcases h with ⟨h, _⟩ | ⟨g', o', cap', cur, hv, hb, h1, h2, h3, h4⟩
 · cases h
 · simp only [Value.slice.injEq, Option.some.injEq, Addr.mk.injEq, and_true] at hv
   obtain ⟨⟨rfl, rfl⟩, _, rfl⟩ := hv
   simp only [List.length_cons] at h1 h4
   refine .inr ⟨g, o + 1, cap - 1, cur, rfl, hb, by omega, by omega, by omega, fun j hj => ?_⟩
   have := h4 (j + 1) (by omega)
   rw [List.getD_cons_succ] at this
   rw [show o + 1 + j = o + (j + 1) by omega]
   exact this
theorem Slc.off' {g o cap z : Nat} (h : Slc w (.slice (some ⟨g, o, none⟩) (zs.length + 1) cap) (z :: zs)) : Slc w (.slice (if cap = 1 then some ⟨g, o, none⟩ else some ⟨g, o + 1, none⟩) zs.length (cap - 1)) zs := by
 by_cases hc : cap = 1
 · rw [if_pos hc]
   rcases h with ⟨h, _⟩ | ⟨g', o', cap', cur, hv, hb, h1, h2, h3, h4⟩
   · cases h
   · simp only [Value.slice.injEq, Option.some.injEq, Addr.mk.injEq, and_true] at hv
     obtain ⟨⟨rfl, rfl⟩, _, rfl⟩ := hv
     simp only [List.length_cons] at h1
     exact .inr ⟨g, o, cap - 1, cur, rfl, hb, by omega, by omega, by omega, fun j hj => by omega⟩
 · rw [if_neg hc]; exact h.off
theorem Slc.append (h : Slc w v zs) (ty : TypeId) (x : Nat) (bo : Addr) (hx : w.cell? bo = some (nv x)) (hbo : bo.spot = none) (b1 : zs.length + 1 <= 1000000000) :
 ∃ v' w', (Builtin.append_ #[23, 23] ty #[v, .slice (some bo) 1 1]).run Tryz.prog w = .ok v' w' /\ Slc w' v' (zs ++ [x]) /\ w.grownBy w' v.ownBlock /\ (v'.ownBlock = v.ownBlock \/ ∃ g, v'.ownBlock = some g /\ w.heap.size <= g) := by
 obtain ⟨i0, hi0, hz0, hz1, hz2⟩ := info_parts infoInt
 have hadd : ∀ (a : Addr) (j : Nat), a.spot = none -> a.add j = ⟨a.block, a.off + j, none⟩ := by
  intro a j ha
  obtain ⟨b, o, s⟩ := a
  simp only at ha
  subst ha
  unfold Addr.add
  split <;> simp_all
 have hnews : ∀ j u, [nv x][j]? = some u -> w.cell? (bo.add j) = some u := by
  intro j u hu
  match j, hu with
  | 0, hu =>
   simp only [List.getElem?_cons_zero, Option.some.injEq] at hu
   subst hu
   rw [hadd bo 0 hbo, <- hx]
   obtain ⟨b, o, s⟩ := bo
   simp only at hbo
   subst hbo
   rfl
 have row : ∀ {w1 : World} {v1 : Value}, w1.ownsRow w.heap.size 3 1 v1 (zs.length + 1) (zs.map nv ++ [nv x]) -> Slc w1 v1 (zs ++ [x]) /\ ∃ g, v1.ownBlock = some g /\ w.heap.size <= g := by
  intro w1 v1 ho
  rcases ho.2 with ⟨_, h0⟩ | ⟨g, cap, cur, rfl, hg, hb, h1, h2, h3, h4⟩
  · omega
  · refine ⟨.inr ⟨g, 0, cap, cur, by simp, hb, by simpa using h1, h2, by omega, fun j hj => ?_⟩, g, rfl, hg⟩
    rw [List.length_append, List.length_singleton] at hj
    rw [Nat.zero_add]
    have e : (cur.toList.take ((zs.length + 1) * 1))[j]? = (zs.map nv ++ [nv x])[j]? := by rw [h4]
    rw [List.getElem?_take_of_lt (by omega)] at e
    rw [<- Array.getElem?_toList, e, show zs.map nv ++ [nv x] = (zs ++ [x]).map nv by simp]
    rw [List.getElem?_map, List.getD_eq_getElem?_getD, List.getElem?_eq_getElem (by simp; omega)]
    rfl
 have small : (zs.length + 1) * 8 <= 140737488355328 := by omega
 rcases h with ⟨rfl, rfl⟩ | ⟨g, o, cap, cur, rfl, hb, h1, h2, h3, h4⟩
 · obtain ⟨v', w', hr, r1, r2, _⟩ := run_append_own (P := Tryz.prog) w w.heap.size 23 ty 3 i0 (.int .i64 0) 1 8 Tryz.underlying23 hi0 hz0 hz1 hz2 rfl (by decide) _ 0 [] (World.ownsRow_nil w _ 3 1) bo 1 1 [nv x] rfl hnews (by intro u hu; simp at hu; subst hu; rfl) (by unfold maxLen; omega) (by omega) (Nat.le_refl _)
   obtain ⟨s1, g, s2, s3⟩ := row (v1 := v') (w1 := w') (by simpa using r1)
   exact ⟨v', w', hr, s1, r2, .inr ⟨g, s2, s3⟩⟩
 · have olds : ∀ j u, (zs.map nv)[j]? = some u -> w.cell? ((⟨g, o, none⟩ : Addr).add j) = some u := by
    intro j u hu
    have hj := (List.getElem?_eq_some_iff.1 hu).1
    rw [List.length_map] at hj
    rw [hadd _ j rfl, <- hu, cell_of_block hb (h4 j hj), List.getElem?_map, List.getD_eq_getElem?_getD, List.getElem?_eq_getElem hj]
    rfl
   by_cases hroom : zs.length + 1 <= cap
   · have hlt : o + zs.length < cur.size := by omega
     have hr := run_append_room_cells (P := Tryz.prog) w 23 ty 3 i0 Tryz.underlying23 hi0 g o zs.length cap bo 1 1 [nv x] (by rw [hz1]; rfl) hnews (by intro u hu; simp at hu; subst hu; rfl) hroom
      (by
       intro j hj; simp only [List.length_singleton] at hj; obtain rfl : j = 0 := by omega
       rw [hz1, Nat.mul_one, Nat.add_zero, cell_of_block hb (Array.getElem?_eq_getElem hlt)]; rfl)
      (by intro j hj; exact frozen_of_block hb)
     rw [hz1, Nat.mul_one] at hr
     refine ⟨_, _, hr, .inr ⟨g, o, cap, cur.setIfInBounds (o + zs.length) (nv x), by simp, block_setCell hb _, by simpa using hroom, h2, by simpa using h3, fun j hj => ?_⟩, ⟨rfl, rfl, rfl, by simp [World.setCells], fun k _ hk => ?_⟩, .inl rfl⟩
     · rw [List.length_append, List.length_singleton] at hj
       by_cases hj0 : j = zs.length
       · subst hj0
         rw [Array.getElem?_setIfInBounds_self_of_lt hlt, List.getD_eq_getElem?_getD, List.getElem?_append_right (Nat.le_refl _)]
         simp
       · rw [Array.getElem?_setIfInBounds_ne (by omega), h4 j (by omega), List.getD_eq_getElem?_getD, List.getD_eq_getElem?_getD, List.getElem?_append_left (by omega)]
     · show (w.setCell ⟨g, o + zs.length, none⟩ (nv x)).heap[k]? = _
       exact Below.heap_setCell _ _ _ _ (fun e => hk (by rw [e]; rfl))
   · obtain ⟨v', w', hr, r1, r2⟩ := run_append_arg_grows (P := Tryz.prog) w 23 ty 3 i0 (.int .i64 0) 1 8 Tryz.underlying23 hi0 hz0 hz1 hz2 rfl (by decide) ⟨g, o, none⟩ zs.length cap (zs.map nv) (by simp) olds bo 1 1 [nv x] rfl hnews (by omega) (by unfold maxLen; omega) small
     obtain ⟨s1, g1, s2, s3⟩ := row r1
     exact ⟨v', w', hr, s1, ⟨r2.os, r2.tape, r2.output, r2.size, fun k hk _ => r2.block k hk (by simp)⟩, .inr ⟨g1, s2, s3⟩⟩
end
section
variable {B : Nat} {w0 w : World} {Ps : List Asn} {v : Value} {zs : List Nat}
end
theorem headArr : WideMaps.ArrKey Tryz.prog 177 5 3 := ⟨Tryz.underlying177, by kernel_rfl, by kernel_rfl, by kernel_rfl⟩
theorem headKeyed : Keyed Tryz.prog 177 := Keyed.of_law headArr.law
theorem sizePos : ∃ m, Tryz.prog.types.size = m + 1 := ⟨Tryz.prog.types.size - 1, by kernel_rfl⟩
def hdV (a b c : UInt8) : Value := .agg #[byteV a, byteV b, byteV c]
def hdL (a b c : UInt8) : Lit := .string (keyBytes [.int .u8 (a.toNat : Int), .int .u8 (b.toNat : Int), .int .u8 (c.toNat : Int)])
theorem u8_wf (a : UInt8) : (Lit.int .u8 (a.toNat : Int)).wf = true := by
 have := a.toNat_lt
 simp [Lit.wf, IntKind.min, IntKind.max, IntKind.signed, IntKind.bits]
 omega
theorem hd_key (a b c : UInt8) : keyOf Tryz.prog 177 (hdV a b c) = some (hdL a b c) := by
 have A := headArr
 have he : Tryz.prog.underlying 5 = some (.int .u8) := Tryz.underlying5
 have hkt := A.keyType sizePos
 obtain ⟨m, hm⟩ := sizePos
 have wa := u8_wf a
 have wb := u8_wf b
 have wc := u8_wf c
 unfold keyOf hdV byteV
 simp only [A.hu]
 rw [if_pos (by simp [hkt, Value.formed, A.hu, A.size]), hm]
 unfold Program.keyLits
 simp only [A.hu, Value.cells]
 rw [if_pos (by rw [A.size]; rfl), show List.range 3 = [0, 1, 2] from rfl, List.mapM_cons, List.mapM_cons, List.mapM_cons, List.mapM_nil]
 simp [A.one, Program.keyLits, he, wa, wb, wc, hdL]
theorem byteV_inj {a b : UInt8} (h : byteV a = byteV b) : a = b := by
 simp only [byteV, Value.int.injEq, true_and] at h
 exact UInt8.toNat_inj.1 (by omega)
theorem hdL_inj {a b c a' b' c' : UInt8} (h : hdL a b c = hdL a' b' c') : a = a' /\ b = b' /\ c = c' := by
 have h1 := hd_key a b c
 rw [h] at h1
 have := headKeyed.inj h1 (hd_key a' b' c')
 simp only [hdV, Value.agg.injEq, Array.mk.injEq, List.cons.injEq, and_true] at this
 exact ⟨byteV_inj this.1, byteV_inj this.2.1, byteV_inj this.2.2⟩
open Classical in
noncomputable def put1 {α : Type} (g : Lit -> α) (kl : Lit) (x : α) : Lit -> α := fun l => if l = kl then x else g l
theorem put1_same {α : Type} {g : Lit -> α} {kl : Lit} {x : α} : put1 g kl x kl = x := by unfold put1; rw [if_pos rfl]
theorem put1_other {α : Type} {g : Lit -> α} {kl l : Lit} {x : α} (h : l ≠ kl) : put1 g kl x l = g l := by unfold put1; rw [if_neg h]
def raw : Value -> Option (DataW Value × List MemPlace) := fun v => some (.held v, [])
def AG (b n : Nat) (g : Lit -> Value) (f : Lit -> List Nat) : Asn where
 holds S w := (∃ D : DataW Value, w.ownsMap Tryz.prog 177 raw b n D /\ ∀ kl, D.atKey kl (.held (.slice none 0 0)) = .held (g kl)) /\ (∀ kl, Slc w (g kl) (f kl)) /\
  (∀ kl kl' k, kl ≠ kl' -> (g kl).ownBlock = some k -> (g kl').ownBlock ≠ some k) /\ (∀ kl, (g kl).ownBlock ≠ some b) /\ ∀ k, S k ↔ (k = b \/ ∃ kl, (g kl).ownBlock = some k)
 keep h gs hd := by
  obtain ⟨⟨D, ⟨es, clock, hb, r⟩, h1⟩, h2, h3, h4, h5⟩ := h
  exact ⟨⟨D, ⟨es, clock, (gs.block _ (lt_of_block hb) (hd _ ((h5 _).2 (.inl rfl)))).trans hb, r⟩, h1⟩, fun kl => (h2 kl).step gs (fun k hk => hd k ((h5 k).2 (.inr ⟨kl, hk⟩))), h3, h4, h5⟩
 lt h k hk := by
  obtain ⟨⟨D, hm, h1⟩, h2, h3, h4, h5⟩ := h
  rcases (h5 k).1 hk with rfl | ⟨kl, hk⟩
  · exact hm.lt
  · exact (h2 kl).lt k hk
section
variable {B : Nat} {w0 w : World} {Ps : List Asn} {b n : Nat} {g : Lit -> Value} {f : Lit -> List Nat}
theorem ag_made (H : St B w0 w Ps) : St B w0 (w.alloc (.map #[] 0)) (AG w.heap.size 0 (fun _ => .slice none 0 0) (fun _ => []) :: Ps) := by
 refine H.new (S' := fun k => k = w.heap.size) (AG _ 0 _ _) ⟨⟨.map [], World.ownsMap_made w _ _ _, fun kl => rfl⟩, fun kl => Slc.nil _, fun kl kl' k _ h => by (cases h), fun kl h => by (cases h), fun k => ?_⟩ (((Step.refl (fun _ => False) w).alloc (.map #[] 0)).to (fun k hk => .inr (Nat.le_of_eq hk.symm)))
 exact ⟨.inl, fun h => h.elim id (fun ⟨_, h⟩ => by cases h)⟩
theorem ag_slc (H : St B w0 w Ps) (i : Nat) (hi : Ps[i]? = some (AG b n g f)) (kl : Lit) : Slc w (g kl) (f kl) := by
 obtain ⟨S, hS, _⟩ := H.at i hi
 exact hS.2.1 kl
theorem ag_look (H : St B w0 w Ps) (i : Nat) (hi : Ps[i]? = some (AG b n g f)) (x y z : UInt8) :
 (Instr.lookup 173 (.map (some b)) (hdV x y z) false).run Tryz.prog w = .ok (g (hdL x y z)) w := by
 obtain ⟨S, ⟨⟨D, hm, h1⟩, _⟩, _⟩ := H.at i hi
 have hz : (zeroValue 23).run Tryz.prog w = .ok (.slice none 0 0) w := by kernel_rfl
 obtain ⟨v, ps, hrun, hv⟩ := hm.lookup headKeyed Tryz.underlying173 hz (zd := .held (.slice none 0 0)) (zp := []) rfl (hd_key x y z)
 rw [h1] at hv
 simp only [raw, Option.some.injEq, Prod.mk.injEq, DataW.held.injEq] at hv
 rw [hrun, hv.1]
theorem ag_push (H : St B w0 w Ps) (i : Nat) (hi : Ps[i]? = some (AG b n g f)) (p q r : UInt8) (ty : TypeId) (v : Value) (zs : List Nat) (hv : Slc w v zs) (hvb : v.ownBlock = (g (hdL p q r)).ownBlock) (hn : n < 1000000000)
 (x : Nat) (bo : Addr) (hx : w.cell? bo = some (nv x)) (hbo : bo.spot = none) (b1 : zs.length + 1 <= 1000000000) :
 ∃ v' w1, (Builtin.append_ #[23, 23] ty #[v, .slice (some bo) 1 1]).run Tryz.prog w = .ok v' w1 /\
  ∃ w2 g', (Instr.mapUpdate 173 (.map (some b)) (hdV p q r) v').run Tryz.prog w1 = .ok () w2 /\
   St B w0 w2 (Ps.set i (AG b (n + 1) g' (put1 f (hdL p q r) (zs ++ [x])))) := by
 obtain ⟨kl, hkl⟩ : ∃ kl, kl = hdL p q r := ⟨_, rfl⟩
 rw [<- hkl] at hvb ⊢
 obtain ⟨S, ⟨⟨D, hm, h1⟩, h2, h3, h4, h5⟩, _, put⟩ := H.at i hi
 obtain ⟨v', w1, hrun, r1, r2, r3⟩ := hv.append ty x bo hx hbo b1
 have hm1 : w1.ownsMap Tryz.prog 177 raw b n D := hm.kept r2 (fun e => h4 kl (by rw [<- hvb, <- e]))
 have hkey : keyOf Tryz.prog 177 (hdV p q r) = some kl := by rw [hkl]; exact hd_key p q r
 obtain ⟨w2, hrun2, hm2, g2⟩ := hm1.update headKeyed Tryz.underlying173 (by unfold maxLen; omega) hkey (val := v') (d := .held v') (ps := []) rfl
 have hbw := hm.lt
 have nb : v'.ownBlock ≠ some b := by
  rcases r3 with r3 | ⟨k, r3, r4⟩
  · rw [r3, hvb]; exact h4 kl
  · rw [r3]; intro e; cases e; omega
 have apart : ∀ l k, l ≠ kl -> (g l).ownBlock = some k -> v'.ownBlock ≠ some k := by
  intro l k hl hk
  rcases r3 with r3 | ⟨k', r3, r4⟩
  · rw [r3, hvb]; exact h3 l kl k hl hk
  · rw [r3]; intro e; cases e
    have := (h2 l).lt k hk
    omega
 have hD : IsMap D := by obtain ⟨es, clock, _, _, _, hD⟩ := hm; exact ⟨_, hD⟩
 refine ⟨v', w1, hrun, w2, put1 g kl v', hrun2, put (fun k => k = b \/ ∃ l, (put1 g kl v' l).ownBlock = some k) w2 (AG b (n + 1) _ _) ⟨⟨_, hm2, fun l => ?_⟩, fun l => ?_, fun l l' k hne hk => ?_, fun l => ?_, fun k => Iff.rfl⟩ ?_⟩
 · by_cases hl : l = kl
   · subst hl
     rw [put1_same]
     exact atKey_put_same hD (headKeyed.key hkey) _ _
   · rw [put1_other hl, atKey_put_other hl]
     exact h1 l
 · by_cases hl : l = kl
   · subst hl
     rw [put1_same, put1_same]
     exact r1.kept g2 (fun k hk e => nb (by rw [hk, e]))
   · rw [put1_other hl, put1_other hl]
     refine ((h2 l).kept r2 (fun k hk e => ?_)).kept g2 (fun k hk e => h4 l (by rw [hk, e]))
     rw [hvb] at e
     exact h3 l kl k hl hk e.symm
 · by_cases hl : l = kl
   · by_cases hl' : l' = kl
     · exact absurd (hl.trans hl'.symm) hne
     · rw [hl, put1_same] at hk
       rw [put1_other hl']
       exact fun e => apart l' k hl' e hk
   · rw [put1_other hl] at hk
     by_cases hl' : l' = kl
     · subst hl'; rw [put1_same]
       exact apart l k hl hk
     · rw [put1_other hl']
       exact h3 l l' k hne hk
 · by_cases hl : l = kl
   · subst hl; rw [put1_same]; exact nb
   · rw [put1_other hl]; exact h4 l
 · have hs := r2.size
   refine ⟨g2.os.trans r2.os, g2.tape.trans r2.tape, g2.output.trans r2.output, Nat.le_trans hs g2.size, fun k hk hn => ?_, fun k hk => ?_⟩
   · rw [g2.block k (by omega) (fun e => hn ((h5 k).2 (.inl (by cases e; rfl)))), r2.block k hk (fun e => hn ((h5 k).2 (.inr ⟨kl, by rw [<- hvb]; exact e.symm⟩)))]
   · rcases hk with rfl | ⟨l, hk⟩
     · exact .inl ((h5 _).2 (.inl rfl))
     · by_cases hl : l = kl
       · rw [hl, put1_same] at hk
         rcases r3 with r3 | ⟨k', r3, r4⟩
         · exact .inl ((h5 k).2 (.inr ⟨kl, by rw [<- hvb, <- r3]; exact hk⟩))
         · rw [r3] at hk
           cases hk
           exact .inr r4
       · rw [put1_other hl] at hk
         exact .inl ((h5 k).2 (.inr ⟨l, hk⟩))
end
theorem wpList_app {ops : Array Oper} {rest : List Oper} {o : Oper} {a : Act} {w : World} {Q : Exit -> Act -> World -> Prop} (hgd : o.guard = none) (s x : Operand)
 (ho : o.op = .call { callee := .builtin .append, args := #[s, x], argTypes := #[23, 23] }) (v : Value) (bo : Addr) (hs : a.eval s = v) (hx : a.eval x = .slice (some bo) 1 1) (v' : Value) (w1 : World)
 (hrun : (Builtin.append_ #[23, 23] o.type #[v, .slice (some bo) 1 1]).run Tryz.prog w = .ok v' w1) (h : wpList Tryz.prog ops Q rest (a.put o.dst v') w1) : wpList Tryz.prog ops Q (o :: rest) a w := by
 refine wpList_plain hgd fun K hK => ?_
 unfold Oper.wp
 simp [execOp, ho, resolve, invoke, builtin, hs, hx, hrun, Result.andThen]
 exact hK _ _ h
end Mat
end Go.Proofs.YtahjjcmeocibbaaGreatDoor
end
section
namespace Go.Proofs.YtahjjcmeocibbaaGreatDoor
open Go.RowKit Go.Own Go.Shelf
attribute [local go_sem] Oper.semAt_some
namespace Mat
def come (n k : Nat) : List (Fin n) := (List.finRange n).reverse.take k
theorem come_succ (n k : Nat) (h : k < n) : come n (k + 1) = come n k ++ [⟨n - 1 - k, by omega⟩] := by
 unfold come
 rw [List.take_add_one, List.getElem?_reverse (by simpa using h)]
 simp
 rw [List.getElem?_eq_getElem (by simp; omega)]
 simp
theorem come_length (n k : Nat) (h : k <= n) : (come n k).length = k := by simp [come, h]
theorem come_map (zs : List Nat) (k : Nat) : (come zs.length k).map (fun i => zs.getD i.1 0) = zs.reverse.take k := by
 unfold come
 rw [List.map_take, List.map_reverse]
 congr 2
 apply List.ext_getElem
 · simp
 · intro i h1 h2
   simp [List.getD]
def KB (n₀ Bs : Nat) (W W' : World) : Prop := Below n₀ W W' /\ W'.heap[Bs]? = W.heap[Bs]?
theorem KB.refl (n₀ Bs : Nat) (W : World) : KB n₀ Bs W W := ⟨Below.refl _ _, rfl⟩
theorem KB.trans {n₀ Bs : Nat} {A B C : World} (h : KB n₀ Bs A B) (k : KB n₀ Bs B C) : KB n₀ Bs A C := ⟨h.1.trans k.1, k.2.trans h.2⟩
theorem KB.box {n₀ Bs : Nat} {A B : World} (h : KB n₀ Bs A B) {v : Value} (hc : A.cell? ⟨Bs, 0, none⟩ = some v) : B.cell? ⟨Bs, 0, none⟩ = some v := by
 rw [<- hc]; unfold World.cell?; simp only [h.2]
set_option maxRecDepth 100000 in
set_option maxHeartbeats 2000000 in
theorem back1_in (F : Fence) (n : Nat) (h24 : F.fn 141) (hro : F.round = none) (hn : 1 <= n) (l Bs n₀ b off len cap : Nat) (z : Nat -> Nat) (hreach : len <= 1000000000) (hb : b < n₀) (J Jx : List (Fin len) -> World -> Prop)
 (hY : ∀ pre x W, J pre W -> pre.length < len -> YieldAt F (n - 1) Tryz.prog l #[.int .i64 (x.1 : Int), .int .i64 (z x.1 : Int)] W fun e W' =>
  (e = .returned (.bool true) /\ J (pre ++ [x]) W' /\ KB n₀ Bs W W') \/ (e = .returned (.bool false) /\ Jx (pre ++ [x]) W'))
 (W : World) (hBs : W.cell? ⟨Bs, 0, none⟩ = some (.slice (some ⟨b, off, none⟩) len cap)) (hc : ∀ j, j < len -> W.cell? ⟨b, off + j, none⟩ = some (.int .i64 (z j : Int))) (h0 : J [] W) :
 CallsIn F n Tryz.prog 141 #[.func (.yield l) #[] #[], .pointer (some ⟨Bs, 0, none⟩)] W fun e W' => (∃ v, e = .returned v) /\
  ((∃ ys, ys = come len len /\ J ys W') \/ (∃ pre, (∃ k, k <= len /\ pre = come len k) /\ Jx pre W')) := by
 refine callsIn_of_wp Tryz.func141 rfl h24 ?_ hro
 simp only [Tryz.ntmps141, List.size_toArray, List.length_cons, List.length_nil, Nat.reduceAdd, Nat.reduceSub, Array.replicate_succ, Array.replicate_zero, List.push_toArray, List.append_toArray, List.nil_append, List.cons_append]
 gi_wp2
 gi_loopw [3] (fun i wr => ∃ k : Nat, k <= len /\ i = .int .i64 ((len : Int) - 1 - (k : Int)) /\ J (come len k) wr /\ KB n₀ Bs W wr)
  (fun i _ => (intOf i + 1).toNat)
 case atStart => exact ⟨0, Nat.zero_le _, by simp, h0, KB.refl _ _ _⟩
 case round =>
  obtain ⟨k, hk, rfl, hJs, hnx⟩ := hrel
  have hBr := hnx.box hBs
  by_cases hlt : k < len
  · obtain ⟨i, hi⟩ : ∃ i, i = len - 1 - k := ⟨_, rfl⟩
    have hil : i < len := by omega
    have hcx : wr.cell? ⟨b, off + i, none⟩ = some (.int .i64 (z i : Int)) := (hnx.1.cell (p := ⟨b, off + i, none⟩) hb).trans (hc i hil)
    obtain ⟨fn, tmps, assign, body, hy, hR⟩ := hY _ ⟨i, hil⟩ wr hJs (by rw [come_length _ _ hk]; exact hlt)
    dsimp only at hy
    rw [show (len : Int) - 1 - (k : Int) = (i : Int) by omega]
    have hib : i <= 1000000000 := by omega
    have hid := Lib.hid hi
    clear hi
    gi_wp2
    refine hR.mono ?_
    rintro e W3 (⟨rfl, hJ3, hk3⟩ | ⟨rfl, hJx3⟩)
    · gi_wp2
      go_roundw
      case rel => exact ⟨k + 1, by omega, by have := hid.out; congr 1; omega, by rw [come_succ _ _ hlt]; have e : (⟨len - 1 - k, by omega⟩ : Fin len) = ⟨i, hil⟩ := Fin.ext hid.out.symm; rw [e]; exact hJ3, hnx.trans hk3⟩
      case measure => simp [intOf]
    · gi_wp2
      refine bodyPost_ret (results_none rfl _ _ _) rfl ?_
      exact ⟨⟨_, rfl⟩, .inr ⟨_, ⟨k + 1, by omega, by rw [come_succ _ _ hlt]; congr 2; exact Fin.ext hid.out⟩, hJx3⟩⟩
  · obtain rfl : k = len := by omega
    rw [show (k : Int) - 1 - (k : Int) = -1 by omega]
    gi_wp2
    go_end0
    exact ⟨⟨_, rfl⟩, .inl ⟨_, rfl, hJs⟩⟩
set_option maxRecDepth 100000 in
set_option maxHeartbeats 1000000 in
theorem back1_nil_in (F : Fence) (n : Nat) (h24 : F.fn 141) (hro : F.round = none) (l Bs : Nat) (J : List (Fin 0) -> World -> Prop) (W : World) (hBs : W.cell? ⟨Bs, 0, none⟩ = some (.slice none 0 0)) (h0 : J [] W) :
 CallsIn F n Tryz.prog 141 #[.func (.yield l) #[] #[], .pointer (some ⟨Bs, 0, none⟩)] W fun e W' => (∃ v, e = .returned v) /\ J [] W' := by
 refine callsIn_of_wp Tryz.func141 rfl h24 ?_ hro
 simp only [Tryz.ntmps141, List.size_toArray, List.length_cons, List.length_nil, Nat.reduceAdd, Nat.reduceSub, Array.replicate_succ, Array.replicate_zero, List.push_toArray, List.append_toArray, List.nil_append, List.cons_append]
 gi_wp2
 gi_loopw [3] (fun i wr => i = .int .i64 (-1) /\ J [] wr) (fun _ _ => 0)
 case atStart => exact ⟨rfl, h0⟩
 case round =>
  obtain ⟨rfl, hJs⟩ := hrel
  gi_wp2
  go_end0
  exact ⟨⟨_, rfl⟩, hJs⟩
set_option maxHeartbeats 1000000 in
theorem back_in (F : Fence) (n : Nat) (h23 : F.fn 127) (hro : F.round = none) (a : Option Addr) (len cap : Nat) (w : World) :
 CallsIn F n Tryz.prog 127 #[.slice a len cap] w fun e w' => e = .returned (.func (.func 141) #[] #[.pointer (some ⟨w.heap.size, 0, none⟩)]) /\ w' = w.alloc (.cells #[.slice a len cap] 23) := by
 refine callsIn_of_wp Tryz.func127 rfl h23 ?_ hro
 simp only [Tryz.ntmps127, List.size_toArray, List.length_cons, List.length_nil, Nat.reduceAdd, Nat.reduceSub, Array.replicate_succ, Array.replicate_zero, List.push_toArray, List.append_toArray, List.nil_append, List.cons_append]
 gi_wp2
 go_ret
 exact ⟨rfl, rfl⟩
theorem back_stops (F : Fence) (n : Nat) (h24 : F.fn 141) (hro : F.round = none) (hn : 1 <= n) (Bs n₀ : Nat) (v : Value) (zs : List Nat) (hreach : zs.length <= 1000000000) (w : World) (hBs : Bs < w.heap.size) (hn₀ : n₀ <= w.heap.size)
 (hc : w.cell? ⟨Bs, 0, none⟩ = some v) (hI : Slc w v zs) (hv : ∀ k, v.ownBlock = some k -> k < n₀) :
 SeqStopsK F n Tryz.prog 141 #[.pointer (some ⟨Bs, 0, none⟩)] (fun x : Fin zs.length => #[Value.int .i64 (x.1 : Int), Value.int .i64 (zs.getD x.1 0 : Int)]) (KB n₀ Bs) (fun ys => ys.map (fun i => zs.getD i.1 0) = zs.reverse)
  (fun pre => ∃ k, k <= zs.length /\ pre.map (fun i => zs.getD i.1 0) = zs.reverse.take k) zs.length w := fun l J Jx W hW _ _ hY h0 => by
 have hc' := (hW.cell (p := ⟨Bs, 0, none⟩) hBs).trans hc
 rcases hI.later hW with ⟨rfl, rfl⟩ | ⟨b, off, cap, cur, rfl, hb, h1, h2, h3, h4⟩
 · exact (back1_nil_in F n h24 hro l Bs J W hc' h0).mono fun e W' ⟨he, hj⟩ => ⟨he, .inl ⟨_, rfl, hj⟩⟩
 · refine (back1_in F n h24 hro hn l Bs n₀ b off zs.length cap (fun j => zs.getD j 0) hreach (hv b rfl) J Jx hY W hc' (fun j hj => cell_of_block hb (h4 j hj)) h0).mono ?_
   rintro e W' ⟨he, ⟨ys, rfl, hj⟩ | ⟨pre, ⟨k, hk, rfl⟩, hj⟩⟩
   · exact ⟨he, .inl ⟨_, (come_map zs _).trans (List.take_of_length_le (by simp)), hj⟩⟩
   · exact ⟨he, .inr ⟨_, ⟨k, hk, come_map zs k⟩, hj⟩⟩
end Mat
end Go.Proofs.YtahjjcmeocibbaaGreatDoor
end
section
namespace Go.MatM
def hd (b : Bs) (k : Nat) : List UInt8 := [by' b k, by' b (k + 1), by' b (k + 2)]
theorem com_self (b : Bs) (at' k : Nat) : com b k at' <= com b at' at' := by
 refine com_ge b at' at' _ (com_le b k at') fun j hj => ?_
 have := com_same b k at' j hj
 exact ⟨this.2.1, this.2.1, rfl⟩
theorem com_hd (b : Bs) (k at' : Nat) (hk : k < at') (hl : at' + 3 <= b.length) : 3 <= com b k at' ↔ hd b k = hd b at' := by
 constructor
 · intro h
   have h0 := com_same b k at' 0 (by omega)
   have h1 := com_same b k at' 1 (by omega)
   have h2 := com_same b k at' 2 (by omega)
   unfold hd
   simp only [Nat.add_zero] at h0
   rw [h0.2.2, h1.2.2, h2.2.2]
 · intro h
   unfold hd at h
   simp only [List.cons.injEq, and_true] at h
   obtain ⟨e0, e1, e2⟩ := h
   refine com_ge b k at' 3 (by omega) fun j hj => ⟨by omega, by omega, ?_⟩
   match j, hj with
   | 0, _ => exact e0
   | 1, _ => exact e1
   | 2, _ => exact e2
def pstep (b : Bs) (at' : Nat) (s : Nat × Nat) (k : Nat) : Nat × Nat := if s.2 < com b k at' then (at' - k, com b k at') else s
def pick' (b : Bs) (at' : Nat) (rs : List Nat) : Nat × Nat := rs.foldl (pstep b at') (0, 0)
theorem pick_snoc (b : Bs) (at' : Nat) (rs : List Nat) (k : Nat) : pick' b at' (rs ++ [k]) = pstep b at' (pick' b at' rs) k := by simp [pick']
theorem pstep_full (b : Bs) (at' : Nat) (s : Nat × Nat) (k : Nat) (h : s.2 = com b at' at') : pstep b at' s k = s := by
 unfold pstep
 rw [if_neg (by have := com_self b at' k; omega)]
theorem pick_full (b : Bs) (at' : Nat) (rs qs : List Nat) (h : (pick' b at' rs).2 = com b at' at') : pick' b at' (rs ++ qs) = pick' b at' rs := by
 induction qs generalizing rs with
 | nil => simp
 | cons q qs ih =>
  have e : rs ++ q :: qs = (rs ++ [q]) ++ qs := by simp
  have e2 : pick' b at' (rs ++ [q]) = pick' b at' rs := by rw [pick_snoc, pstep_full b at' _ q h]
  rw [e, ih _ (by rw [e2]; exact h), e2]
theorem pick_le (b : Bs) (at' : Nat) (rs : List Nat) : (∀ k ∈ rs, k < at') -> (pick' b at' rs).1 <= at' /\ (pick' b at' rs).2 <= 130 := by
 intro _
 have : ∀ (rs : List Nat) (s : Nat × Nat), s.1 <= at' -> s.2 <= 130 -> (rs.foldl (pstep b at') s).1 <= at' /\ (rs.foldl (pstep b at') s).2 <= 130 := by
  intro rs
  induction rs with
  | nil => intro s h1 h2; exact ⟨h1, h2⟩
  | cons r rs ih =>
   intro s h1 h2
   simp only [List.foldl_cons]
   refine ih _ ?_ ?_
   · unfold pstep; split
     · simp only; omega
     · exact h1
   · unfold pstep; split
     · exact com_le b r at'
     · exact h2
 exact this rs (0, 0) (by simp) (by simp)
def occ (b : Bs) (h : List UInt8) (lo hi : Nat) : List Nat := (List.range' lo (hi - lo)).filter (fun k => hd b k = h)
theorem occ_empty (b : Bs) (h : List UInt8) (lo : Nat) : occ b h lo lo = [] := by simp [occ]
theorem occ_succ (b : Bs) (h : List UInt8) (lo hi : Nat) (hl : lo <= hi) : occ b h lo (hi + 1) = occ b h lo hi ++ (if hd b hi = h then [hi] else []) := by
 unfold occ
 rw [show hi + 1 - lo = (hi - lo) + 1 by omega, List.range'_concat, List.filter_append, show lo + 1 * (hi - lo) = hi by omega]
 congr 1
 by_cases e : hd b hi = h <;> simp [e]
theorem occ_mem (b : Bs) (h : List UInt8) (lo hi k : Nat) : k ∈ occ b h lo hi ↔ lo <= k /\ k < hi /\ hd b k = h := by
 unfold occ
 simp only [List.mem_filter, List.mem_range'_1, decide_eq_true_eq]
 exact ⟨fun ⟨⟨h1, h2⟩, h3⟩ => ⟨h1, by omega, h3⟩, fun ⟨h1, h2, h3⟩ => ⟨⟨h1, by omega⟩, h3⟩⟩
theorem occ_len (b : Bs) (h : List UInt8) (lo hi : Nat) : (occ b h lo hi).length <= hi - lo := by
 unfold occ
 exact Nat.le_trans (List.length_filter_le _ _) (by simp)
theorem occ_cons (b : Bs) (h : List UInt8) (lo hi : Nat) (z : Nat) (zs : List Nat) (e : occ b h lo hi = z :: zs) : zs = occ b h (z + 1) hi /\ lo <= z /\ z < hi := by
 have hz : z ∈ occ b h lo hi := by rw [e]; exact List.mem_cons_self ..
 obtain ⟨h1, h2, h3⟩ := (occ_mem b h lo hi z).1 hz
 refine ⟨?_, h1, h2⟩
 have hsplit : List.range' lo (hi - lo) = List.range' lo (z - lo) ++ (z :: List.range' (z + 1) (hi - (z + 1))) := by
  have e1 : List.range' lo (hi - lo) = List.range' lo (z - lo) ++ List.range' z (hi - z) := by
   have := @List.range'_append_1 lo (z - lo) (hi - z)
   rw [show lo + (z - lo) = z by omega, show z - lo + (hi - z) = hi - lo by omega] at this
   exact this.symm
  rw [e1, show hi - z = (hi - (z + 1)) + 1 by omega, List.range'_succ]
 have hnone : (List.range' lo (z - lo)).filter (fun k => hd b k = h) = [] := by
  rw [List.filter_eq_nil_iff]
  intro k hk hkh
  rw [List.mem_range'_1] at hk
  have hk2 : k ∈ occ b h lo hi := (occ_mem b h lo hi k).2 ⟨hk.1, by omega, by simpa using hkh⟩
  have hr : (occ b h lo hi).Pairwise (· < ·) := List.Pairwise.filter _ List.pairwise_lt_range'
  rw [e] at hr hk2
  have hle := (List.pairwise_cons.1 hr).1
  rcases List.mem_cons.1 hk2 with rfl | hk3
  · omega
  · have := hle k hk3; omega
 have e2 := e
 unfold occ at e2
 rw [hsplit, List.filter_append, hnone, List.nil_append, List.filter_cons_of_pos (by simpa using h3)] at e2
 unfold occ
 exact ((List.cons.inj e2).2).symm
theorem occ_from (b : Bs) (h : List UInt8) (lo lo' hi : Nat) (h1 : lo <= lo') (h2 : ∀ k, lo <= k -> k < lo' -> hd b k ≠ h) (h3 : lo' <= hi) : occ b h lo hi = occ b h lo' hi := by
 unfold occ
 have e1 : List.range' lo (hi - lo) = List.range' lo (lo' - lo) ++ List.range' lo' (hi - lo') := by
  have := @List.range'_append_1 lo (lo' - lo) (hi - lo')
  rw [show lo + (lo' - lo) = lo' by omega, show lo' - lo + (hi - lo') = hi - lo by omega] at this
  exact this.symm
 rw [e1, List.filter_append]
 have : (List.range' lo (lo' - lo)).filter (fun k => hd b k = h) = [] := by
  rw [List.filter_eq_nil_iff]
  intro k hk hkh
  rw [List.mem_range'_1] at hk
  exact h2 k hk.1 (by omega) (by simpa using hkh)
 rw [this, List.nil_append]
theorem occ_near (b : Bs) (h : List UInt8) (lo lo' hi z : Nat) (zs : List Nat) (e : occ b h lo hi = z :: zs) (h1 : lo <= lo') (h2 : lo' <= z) : occ b h lo hi = occ b h lo' hi := by
 obtain ⟨_, g1, g2⟩ := occ_cons b h lo hi z zs e
 refine occ_from b h lo lo' hi h1 (fun k hk1 hk2 hk3 => ?_) (by omega)
 have hm : k ∈ occ b h lo hi := (occ_mem b h lo hi k).2 ⟨hk1, by omega, hk3⟩
 have hr : (occ b h lo hi).Pairwise (· < ·) := List.Pairwise.filter _ List.pairwise_lt_range'
 rw [e] at hr hm
 rcases List.mem_cons.1 hm with rfl | hm
 · omega
 · have := (List.pairwise_cons.1 hr).1 k hm; omega
theorem occ_none (b : Bs) (h : List UInt8) (lo lo' hi : Nat) (e : occ b h lo hi = []) (h1 : lo <= lo') : occ b h lo' hi = [] := by
 refine List.eq_nil_iff_forall_not_mem.2 fun k hk => ?_
 obtain ⟨g1, g2, g3⟩ := (occ_mem b h lo' hi k).1 hk
 have : k ∈ occ b h lo hi := (occ_mem b h lo hi k).2 ⟨by omega, g2, g3⟩
 rw [e] at this
 cases this
def near (b : Bs) (at' : Nat) : List Nat := occ b (hd b at') (at' - 256) at'
theorem near_lt (b : Bs) (at' k : Nat) (h : k ∈ near b at') : k < at' := ((occ_mem _ _ _ _ _).1 h).2.1
theorem near_len (b : Bs) (at' : Nat) : (near b at').length <= 256 := by
 have := occ_len b (hd b at') (at' - 256) at'
 unfold near
 omega
def nearD (b : Bs) (at' D : Nat) : List Nat := ((List.range D).map (fun d => at' - (d + 1))).filter (fun k => hd b k = hd b at')
theorem nearD_succ (b : Bs) (at' D : Nat) : nearD b at' (D + 1) = nearD b at' D ++ (if hd b (at' - (D + 1)) = hd b at' then [at' - (D + 1)] else []) := by
 unfold nearD
 rw [List.range_succ, List.map_append, List.filter_append]
 congr 1
 by_cases e : hd b (at' - (D + 1)) = hd b at' <;> simp [e]
theorem best_succ (b : Bs) (at' D : Nat) : best b at' (D + 1) = if (best b at' D).2 < com b (at' - (D + 1)) at' then (D + 1, com b (at' - (D + 1)) at') else best b at' D := rfl
theorem pick_best (b : Bs) (at' D : Nat) (hl : at' + 3 <= b.length) (hD : D <= at') : pick' b at' (nearD b at' D) = if (best b at' D).2 < 3 then (0, 0) else best b at' D := by
 induction D with
 | zero => simp [nearD, pick', best]
 | succ D ih =>
  have ih := ih (by omega)
  have hc := com_hd b (at' - (D + 1)) at' (by omega) hl
  rw [nearD_succ]
  by_cases e : hd b (at' - (D + 1)) = hd b at'
  · have h3 := hc.2 e
    rw [if_pos e, pick_snoc, ih]
    rw [best_succ]
    by_cases hb : (best b at' D).2 < 3
    · rw [if_pos hb]
      have hlt : (best b at' D).2 < com b (at' - (D + 1)) at' := by omega
      rw [if_pos hlt, if_neg (show ¬ (D + 1, com b (at' - (D + 1)) at').2 < 3 by simp only; omega)]
      unfold pstep
      rw [if_pos (show ((0, 0) : Nat × Nat).2 < com b (at' - (D + 1)) at' by simp only; omega), show at' - (at' - (D + 1)) = D + 1 by omega]
    · rw [if_neg hb]
      unfold pstep
      by_cases hlt : (best b at' D).2 < com b (at' - (D + 1)) at'
      · rw [if_pos hlt, if_pos hlt, if_neg (show ¬ (D + 1, com b (at' - (D + 1)) at').2 < 3 by simp only; omega), show at' - (at' - (D + 1)) = D + 1 by omega]
      · rw [if_neg hlt, if_neg hlt, if_neg hb]
  · have h3 : ¬ 3 <= com b (at' - (D + 1)) at' := fun h => e (hc.1 h)
    rw [if_neg e, List.append_nil, ih]
    rw [best_succ]
    by_cases hlt : (best b at' D).2 < com b (at' - (D + 1)) at'
    · rw [if_pos hlt, if_pos (by omega), if_pos (show (D + 1, com b (at' - (D + 1)) at').2 < 3 by simp only; omega)]
    · rw [if_neg hlt]
theorem near_rev (b : Bs) (at' : Nat) : (near b at').reverse = nearD b at' (min 256 at') := by
 unfold near occ nearD
 have e : (List.range' (at' - 256) (at' - (at' - 256))).reverse = (List.range (min 256 at')).map (fun d => at' - (d + 1)) := by
  rw [List.reverse_range', show at' - (at' - 256) = min 256 at' by omega]
  refine List.map_congr_left fun d hd => ?_
  rw [List.mem_range] at hd
  omega
 rw [<- List.filter_reverse, e]
theorem pick_near (b : Bs) (at' : Nat) (hl : at' + 3 <= b.length) : pick' b at' (near b at').reverse = longest b at' := by
 rw [near_rev, pick_best b at' _ hl (by omega)]
 have e : dmax b at' = min 256 at' := by unfold dmax; rw [if_pos (show at' < b.length by omega)]
 unfold longest
 rw [e]
theorem best_short (b : Bs) (at' D : Nat) (hl : b.length < at' + 3) : (best b at' D).2 < 3 := by
 rcases Nat.eq_zero_or_pos (best b at' D).2 with h | h
 · omega
 · obtain ⟨a1, a2, a3, _⟩ := best_is b at' D h
   rcases Nat.lt_or_ge (best b at' D).2 3 with h3 | h3
   · exact h3
   · have := com_same b (at' - (best b at' D).1) at' 2 (by omega); omega
theorem longest_short (b : Bs) (at' : Nat) (hl : b.length < at' + 3) : longest b at' = (0, 0) := by
 unfold longest
 rw [if_pos (best_short b at' _ hl)]
end Go.MatM
end
section
namespace Go.Proofs.YtahjjcmeocibbaaGreatDoor
open Go.RowKit Go.Own Go.Shelf
attribute [local go_sem] Oper.semAt_some
namespace Mat
open Go.MatM Byt
theorem heap_al {W : World} {k : Nat} {o o' : Obj} (h : W.heap[k]? = some o) : (W.alloc o').heap[k]? = some o :=
 (Below.heap_alloc _ _ _ (Array.getElem?_eq_some_iff.1 h).1).trans h
theorem heap_set2 {W : World} {D : Nat} {o : Obj} (h : W.heap[D]? = some o) {p q : Addr} (hp : D ≠ p.block) (hq : D ≠ q.block) (u v : Value) : ((W.setCell p u).setCell q v).heap[D]? = some o := by
 rw [Below.heap_setCell _ _ _ _ hq, Below.heap_setCell _ _ _ _ hp]; exact h
theorem heap_put {W : World} {k D : Nat} {o o' : Obj} (h : W.heap[k]? = some o') (hn : D ≠ k) : (W.putObj D o).heap[k]? = some o' := by
 rw [World.putObj_heap_other hn.symm]; exact h
theorem below_drewN (B : Nat) (W : World) (q : Nat) : Below B W (W.drewN q) := ⟨rfl, rfl, rfl, Nat.le_refl _, fun _ _ => rfl⟩
theorem size_drewN' (W : World) (q : Nat) : (W.drewN q).heap.size = W.heap.size := rfl
def CB (w : World) (ao : Option Addr) (len cap t m d n : Nat) (W : World) : Prop :=
 Boxed W w.heap.size 37 (.slice ao len cap) /\ Boxed W (w.heap.size + 1) 3 (.int .i64 (t : Int)) /\ W.heap[w.heap.size + 1 + 1]? = some (.cells #[.int .i64 0, .int .i64 0] 139 (0, 0)) /\
 Boxed W (w.heap.size + 1 + 1 + 1) 3 (.int .i64 (d : Int)) /\ Boxed W (w.heap.size + 1 + 1 + 1 + 1) 3 (.int .i64 (n : Int)) /\ Boxed W (w.heap.size + 1 + 1 + 1 + 1 + 1) 3 (.int .i64 (m : Int)) /\ Below w.heap.size w W
theorem CB.kept {w W W' : World} {row : Option Nat} {ao : Option Addr} {len cap t m d n : Nat} (h : CB w ao len cap t m d n W) (hg : W.grownBy W' row) (hr : ∀ r, row = some r -> w.heap.size + 7 <= r) : CB w ao len cap t m d n W' := by
 obtain ⟨h1, h2, h3, h4, h5, h6, h7⟩ := h
 have hne : ∀ k, k < w.heap.size + 7 -> some k ≠ row := fun k hk e => by have := hr k e.symm; omega
 exact ⟨h1.kept hg (hne _ (by omega)), h2.kept hg (hne _ (by omega)), (hg.block _ (Array.getElem?_eq_some_iff.1 h3).1 (hne _ (by omega))).trans h3, h4.kept hg (hne _ (by omega)), h5.kept hg (hne _ (by omega)), h6.kept hg (hne _ (by omega)),
  h7.trans ((Below.refl _ W).grown hg h7.size (fun k e => by have := hr k e; omega))⟩
theorem CB.set {w W : World} {ao : Option Addr} {len cap t m d n : Nat} (d' n' : Nat) (h : CB w ao len cap t m d n W) : CB w ao len cap t m d' n' ((W.setCell ⟨w.heap.size + 1 + 1 + 1, 0, none⟩ (.int .i64 (d' : Int))).setCell ⟨w.heap.size + 1 + 1 + 1 + 1, 0, none⟩ (.int .i64 (n' : Int))) := by
 obtain ⟨h1, h2, h3, h4, h5, h6, h7⟩ := h
 have ot : ∀ k o, W.heap[k]? = some o -> k ≠ w.heap.size + 1 + 1 + 1 -> k ≠ w.heap.size + 1 + 1 + 1 + 1 -> ((W.setCell ⟨w.heap.size + 1 + 1 + 1, 0, none⟩ (.int .i64 (d' : Int))).setCell ⟨w.heap.size + 1 + 1 + 1 + 1, 0, none⟩ (.int .i64 (n' : Int))).heap[k]? = some o := by
  intro k o ho g1 g2
  rw [Below.heap_setCell _ _ _ _ (fun e => g2 e), Below.heap_setCell _ _ _ _ (fun e => g1 e)]
  exact ho
 refine ⟨ot _ _ h1 (by omega) (by omega), ot _ _ h2 (by omega) (by omega), ot _ _ h3 (by omega) (by omega), ?_, ?_, ot _ _ h6 (by omega) (by omega), (h7.setCell (p := ⟨w.heap.size + 1 + 1 + 1, 0, none⟩) (by simp; omega) _).setCell (p := ⟨w.heap.size + 1 + 1 + 1 + 1, 0, none⟩) (by simp; omega) _⟩
 · have := h4.set (.int .i64 (d' : Int))
   unfold Boxed at this ⊢
   rw [Below.heap_setCell _ _ _ _ (by simp)]
   exact this
 · have h5' : Boxed (W.setCell ⟨w.heap.size + 1 + 1 + 1, 0, none⟩ (.int .i64 (d' : Int))) (w.heap.size + 1 + 1 + 1 + 1) 3 (.int .i64 (n : Int)) := by
    unfold Boxed
    rw [Below.heap_setCell _ _ _ _ (by simp)]
    exact h5
   exact h5'.set _
theorem _root_.Go.Boxed.drewN {W : World} {B : Nat} {t : TypeId} {v : Value} (h : Boxed W B t v) (q : Nat) : Boxed (W.drewN q) B t v := h
theorem CB.drewN {w W : World} {ao : Option Addr} {len cap t m d n : Nat} (h : CB w ao len cap t m d n W) (q : Nat) : CB w ao len cap t m d n (W.drewN q) :=
 ⟨h.1, h.2.1, h.2.2.1, h.2.2.2.1, h.2.2.2.2.1, h.2.2.2.2.2.1, h.2.2.2.2.2.2.trans (below_drewN _ _ q)⟩
theorem keeps_drewN (W : World) (q : Nat) : KeepsOthers W (W.drewN q) := ⟨Nat.le_refl _, fun _ _ h _ => h⟩
set_option maxRecDepth 100000 in
set_option maxHeartbeats 4000000 in
theorem choose_any (ao : Option Addr) (len cap t : Nat) (l : Bs) (v : Value) (zs : List Nat) (w : World) (hs : Slc w v zs) (hzl : zs.length <= 100000000) (hz : ∀ k ∈ zs, k < t) (htl : t < 1000000000)
 (CC : Hid (∀ wx, Below w.heap.size w wx -> ∀ k : Nat, k <= t -> Calls Tryz.prog 126 #[.slice ao len cap, .int .i64 (k : Int), .int .i64 (t : Int)] wx fun e w' => e = .returned (.int .i64 (com l k t : Nat)) /\ ∃ q, w' = wx.drewN q)) :
 Calls Tryz.prog 102 #[.slice ao len cap, .int .i64 (t : Int), v] w fun e w' => e = .returned (.agg #[.int .i64 ((pick' l t zs.reverse).1 : Int), .int .i64 ((pick' l t zs.reverse).2 : Int)]) /\ Below w.heap.size w w' := by
 obtain ⟨a2, c2, rfl, _⟩ := hs.form
 have HC := CC.out
 refine (callsIn_wide (n := 5)).1 ?_
 refine callsIn_of_wp_marks Tryz.func102 rfl trivial ?_ rfl
 simp only [Tryz.ntmps102, List.size_toArray, List.length_cons, List.length_nil, Nat.reduceAdd, Nat.reduceSub, Array.replicate_succ, Array.replicate_zero, List.push_toArray, List.append_toArray, List.nil_append, List.cons_append]
 have hB5 : Below w.heap.size w (((((w.alloc (.cells #[.slice ao len cap] 37)).alloc (.cells #[.int .i64 (t : Int)] 3)).alloc (.cells #[.int .i64 0, .int .i64 0] 139)).alloc (.cells #[.int .i64 0] 3)).alloc (.cells #[.int .i64 0] 3)) :=
  (((((Below.refl _ w).alloc (Nat.le_refl _) _).alloc (by simp) _).alloc (by simp; omega) _).alloc (by simp; omega) _).alloc (by simp; omega) _
 obtain ⟨m, hm⟩ : ∃ m, m = com l t t := ⟨_, rfl⟩
 have H1 := HC _ hB5 t (Nat.le_refl _)
 rw [<- hm] at H1
 gi_wp2_with (first | (refine ⟨trivial, ?_⟩; gi_at_call 126; refine (callsIn_wide.2 H1).mono ?_; clear H1; rintro e w' ⟨rfl, q1, rfl⟩) | (refine ⟨trivial, ?_⟩; gi_at_call 127; refine (back_in Fence.wide _ trivial rfl _ _ _ _).mono ?_; rintro e w' ⟨rfl, rfl⟩))
 obtain ⟨W0, hW0⟩ : ∃ W0, ((((((((w.alloc (.cells #[.slice ao len cap] 37)).alloc (.cells #[.int .i64 (t : Int)] 3)).alloc (.cells #[.int .i64 0, .int .i64 0] 139)).alloc (.cells #[.int .i64 0] 3)).alloc (.cells #[.int .i64 0] 3)).drewN q1).alloc (.cells #[.int .i64 (com l t t : Int)] 3)).alloc (.cells #[.slice a2 zs.length c2] 23)) = W0 := ⟨_, rfl⟩
 have hsz : W0.heap.size = w.heap.size + 7 := by rw [<- hW0]; simp
 have hB0 : Below w.heap.size w W0 := by
  rw [<- hW0]
  exact (hB5.trans (((below_drewN _ _ q1).alloc (by simp; omega) _).alloc (by simp; omega) _))
 have hstart : CB w ao len cap t (com l t t) 0 0 W0 := by
  rw [<- hW0]
  refine ⟨?_, ?_, ?_, ?_, ?_, ?_, ?_⟩
  · exact (((((((Boxed.new w _ _).alloc _).alloc _).alloc _).alloc _).drewN q1).alloc _).alloc _
  · have h := Boxed.new (w.alloc (.cells #[.slice ao len cap] 37)) 3 (.int .i64 (t : Int))
    rw [World.size_alloc] at h
    exact (((((h.alloc _).alloc _).alloc _).drewN q1).alloc _).alloc _
  · have h := World.alloc_heap_new ((w.alloc (.cells #[.slice ao len cap] 37)).alloc (.cells #[.int .i64 (t : Int)] 3)) (.cells #[.int .i64 0, .int .i64 0] 139 (0, 0))
    simp only [World.size_alloc] at h
    exact heap_al (heap_al (o := .cells #[.int .i64 0, .int .i64 0] 139 (0, 0)) (heap_al (heap_al h)))
  · have h := Boxed.new (((w.alloc (.cells #[.slice ao len cap] 37)).alloc (.cells #[.int .i64 (t : Int)] 3)).alloc (.cells #[.int .i64 0, .int .i64 0] 139)) 3 (.int .i64 0)
    simp only [World.size_alloc] at h
    exact (((h.alloc _).drewN q1).alloc _).alloc _
  · have h := Boxed.new ((((w.alloc (.cells #[.slice ao len cap] 37)).alloc (.cells #[.int .i64 (t : Int)] 3)).alloc (.cells #[.int .i64 0, .int .i64 0] 139)).alloc (.cells #[.int .i64 0] 3)) 3 (.int .i64 0)
    simp only [World.size_alloc] at h
    exact ((h.drewN q1).alloc _).alloc _
  · have h := Boxed.new ((((((w.alloc (.cells #[.slice ao len cap] 37)).alloc (.cells #[.int .i64 (t : Int)] 3)).alloc (.cells #[.int .i64 0, .int .i64 0] 139)).alloc (.cells #[.int .i64 0] 3)).alloc (.cells #[.int .i64 0] 3)).drewN q1) 3 (.int .i64 (com l t t : Int))
    simp only [World.size_alloc, size_drewN'] at h
    exact h.alloc _
  · rw [hW0]; exact hB0
 have hbox : W0.cell? ⟨w.heap.size + 1 + 1 + 1 + 1 + 1 + 1, 0, none⟩ = some (.slice a2 zs.length c2) := by
  have h := Boxed.new (((((((w.alloc (.cells #[.slice ao len cap] 37)).alloc (.cells #[.int .i64 (t : Int)] 3)).alloc (.cells #[.int .i64 0, .int .i64 0] 139)).alloc (.cells #[.int .i64 0] 3)).alloc (.cells #[.int .i64 0] 3)).drewN q1).alloc (.cells #[.int .i64 (com l t t : Int)] 3)) 23 (.slice a2 zs.length c2)
  simp only [World.size_alloc, size_drewN'] at h
  rw [<- hW0]
  exact h.cell
 rw [hW0]
 clear hB5
 refine wpIn_rangeFunc_ownG rfl (by decide) (gf := 141) (lb := #[.pointer (some ⟨w.heap.size + 1 + 1 + 1 + 1 + 1 + 1, 0, none⟩)]) rfl trivial (enters_of Tryz.func141 (by kernel_rfl) rfl)
  (back_stops Fence.wide _ trivial rfl (by decide) (w.heap.size + 1 + 1 + 1 + 1 + 1 + 1) w.heap.size _ zs (by omega) W0 (by omega) (by omega) hbox (hs.later hB0) hs.lt) (fun h k => h.trans k)
  (fun W l o o' hl h h1 h2 => ⟨belowK_b (w := W0) (by omega) W l o o' hl h h1 h2, World.putObj_heap_other (by omega)⟩) (Below.refl _ _) (fun _ => rfl)
  (fun pre W => CB w ao len cap t (com l t t) (pick' l t (pre.map (fun i : Fin zs.length => zs.getD i.1 0))).1 (pick' l t (pre.map (fun i : Fin zs.length => zs.getD i.1 0))).2 W)
  (fun c pre W => c = .exit 0 /\ (pick' l t (pre.map (fun i : Fin zs.length => zs.getD i.1 0))).2 = com l t t /\ CB w ao len cap t (com l t t) (pick' l t (pre.map (fun i : Fin zs.length => zs.getD i.1 0))).1 (pick' l t (pre.map (fun i : Fin zs.length => zs.getD i.1 0))).2 W)
  (fun pre W W' row hs hg hr => CB.kept hs hg (fun r e => by have := (hr r e).1; omega))
  (fun c pre W W' row hs hg hr => ⟨hs.1, hs.2.1, CB.kept hs.2.2 hg (fun r e => by have := (hr r e).1; omega)⟩)
  (by simpa [pick'] using hstart)
  (fun x => { tmps := #[Value.slice ao len cap, Value.int IntKind.i64 t, Value.slice a2 zs.length c2, Value.pointer (some ⟨w.heap.size, 0, none⟩), Value.pointer (some ⟨w.heap.size + 1, 0, none⟩), undef, Value.pointer (some ⟨w.heap.size + 1 + 1, 0, none⟩), Value.pointer (some ⟨w.heap.size + 1 + 1 + 1, 0, none⟩), Value.pointer (some ⟨w.heap.size + 1 + 1 + 1 + 1, 0, none⟩), Value.pointer (some ⟨w.heap.size + 1 + 1 + 1 + 1 + 1, 0, none⟩), undef, .int .i64 (zs[x.1] : Int), undef, Value.slice ao len cap, Value.int IntKind.i64 t, Value.int IntKind.i64 t, Value.int IntKind.i64 (com l t t), Value.slice a2 zs.length c2, Value.func (Fn.func 141) #[] #[Value.pointer (some ⟨w.heap.size + 1 + 1 + 1 + 1 + 1 + 1, 0, none⟩)], Value.int .i64 (x.1 : Int), .int .i64 (zs[x.1] : Int), undef, undef, undef, undef, undef, undef, undef, undef, undef, undef, undef, undef, undef, undef, undef, undef, undef], defers := [] }) ?assign ?body ?done ?stop
 case assign =>
  intro l x W K hK
  gi_wp2
  exact hK
 case body =>
  rintro l' pre x W hI _
  obtain ⟨d, n, hdn⟩ : ∃ d n, (d, n) = pick' l t (pre.map (fun i : Fin zs.length => zs.getD i.1 0)) := ⟨_, _, rfl⟩
  obtain ⟨k, hk⟩ : ∃ k, k = zs[x.1] := ⟨_, rfl⟩
  have hkt : k < t := hz k (by rw [hk]; exact List.getElem_mem _)
  have hps : pick' l t ((pre ++ [x]).map (fun i => zs.getD i.1 0)) = pstep l t (d, n) k := by rw [List.map_append, List.map_singleton, pick_snoc, <- hdn]; congr 1; rw [hk]; simp
  rw [<- hdn] at hI
  simp only at hI
  rw [<- hk]
  have hBW := hI.2.2.2.2.2.2
  have H2 := HC _ hBW k (by omega)
  obtain ⟨c, hc⟩ : ∃ c, c = com l k t := ⟨_, rfl⟩
  obtain ⟨m, hm⟩ : ∃ m, m = com l t t := ⟨_, rfl⟩
  rw [<- hc] at H2
  rw [<- hm] at hI ⊢
  have hn130 : n <= 130 := by have := pick_le l t (pre.map (fun i : Fin zs.length => zs.getD i.1 0)) (by intro k hk; rw [List.mem_map] at hk; obtain ⟨i, _, rfl⟩ := hk; exact hz _ (by simp)); rw [<- hdn] at this; exact this.2
  have hc130 : c <= 130 := by rw [hc]; exact com_le l k t
  have hm130 : m <= 130 := by rw [hm]; exact com_le l t t
  obtain ⟨g1, g2, g3, g4, g5, g6, g7⟩ := id hI
  have c1 := g1.cell
  have c2 := g2.cell
  have c4 := g4.cell
  have c5 := g5.cell
  have c6 := g6.cell
  have f4 := g4.frozen
  have f5 := g5.frozen
  have HI := Lib.hid hI
  have HBW := Lib.hid hBW
  have HP := Lib.hid hps
  have HCC := Lib.hid hc
  have HH2 := Lib.hid H2
  clear hI hBW hps hc hm hdn hk H2 HC CC g1 g2 g3 g4 g5 g6 g7 hs hz hsz hB0 hstart hbox hW0
  by_cases hlt : n < c
  · have e1 : pick' l t ((pre ++ [x]).map (fun i : Fin zs.length => zs.getD i.1 0)) = (t - k, c) := by rw [HP.out]; unfold pstep; rw [<- HCC.out]; exact if_pos hlt
    have fin : ∀ q, CB w ao len cap t m (t - k) c (((W.drewN q).setCell ⟨w.heap.size + 1 + 1 + 1, 0, none⟩ (.int .i64 ((t : Int) - (k : Int)))).setCell ⟨w.heap.size + 1 + 1 + 1 + 1, 0, none⟩ (.int .i64 (c : Int))) := by
     intro q
     have h := (HI.out.drewN q).set (t - k) c
     rw [show ((t - k : Nat) : Int) = (t : Int) - (k : Int) by omega] at h
     exact h
    have KF : ∀ q, KeepsFrom W0.heap.size W (((W.drewN q).setCell ⟨w.heap.size + 1 + 1 + 1, 0, none⟩ (.int .i64 ((t : Int) - (k : Int)))).setCell ⟨w.heap.size + 1 + 1 + 1 + 1, 0, none⟩ (.int .i64 (c : Int))) :=
     fun q => (((keeps_drewN W q).trans (KeepsOthers.setCell _ _ _)).trans (KeepsOthers.setCell _ _ _)).from _
    have KW : ∀ q, KB w.heap.size (w.heap.size + 1 + 1 + 1 + 1 + 1 + 1) W (((W.drewN q).setCell ⟨w.heap.size + 1 + 1 + 1, 0, none⟩ (.int .i64 ((t : Int) - (k : Int)))).setCell ⟨w.heap.size + 1 + 1 + 1 + 1, 0, none⟩ (.int .i64 (c : Int))) :=
     fun q => ⟨((below_drewN _ _ q).setCell (p := ⟨w.heap.size + 1 + 1 + 1, 0, none⟩) (by simp; omega) _).setCell (p := ⟨w.heap.size + 1 + 1 + 1 + 1, 0, none⟩) (by simp; omega) _, (Below.heap_setCell _ _ _ _ (by simp; omega)).trans (Below.heap_setCell _ _ _ _ (by simp; omega))⟩
    have HE := Lib.hid e1
    have HF := Lib.hid (fun q => And.intro (fin q) (And.intro (KF q) (KW q)))
    clear e1 fin KF KW
    gi_wp2_with (refine ⟨trivial, ?_⟩; gi_at_call 126; refine (CallsIn.inRound l' (callsIn_wide.2 HH2.out)).mono ?_; rintro e w' ⟨rfl, q, rfl⟩)
    · rename_i hcm
      simp only [beq_iff_eq] at hcm
      obtain ⟨fin, KF, KW⟩ := HF.out q
      refine ⟨KF, rfl, ?_, ?_⟩
      · rw [HE.out]; simp only; omega
      · rw [HE.out]; exact fin
    · obtain ⟨fin, KF, KW⟩ := HF.out q
      refine ⟨KF, KW, ?_⟩
      simp only [HE.out]
      exact fin
  · have e1 : pick' l t ((pre ++ [x]).map (fun i : Fin zs.length => zs.getD i.1 0)) = (d, n) := by rw [HP.out]; unfold pstep; rw [<- HCC.out]; exact if_neg hlt
    have HE := Lib.hid e1
    clear e1
    gi_wp2_with (refine ⟨trivial, ?_⟩; gi_at_call 126; refine (CallsIn.inRound l' (callsIn_wide.2 HH2.out)).mono ?_; rintro e w' ⟨rfl, q, rfl⟩)
    · rename_i hcm
      simp only [beq_iff_eq] at hcm
      refine ⟨(keeps_drewN W q).from _, rfl, ?_, ?_⟩
      · rw [HE.out]; simp only; omega
      · rw [HE.out]; exact HI.out.drewN q
    · refine ⟨(keeps_drewN W q).from _, ⟨below_drewN _ _ q, rfl⟩, ?_⟩
      simp only [HE.out]
      exact HI.out.drewN q
 case done =>
  rintro D ys W hD hys hI hK
  rw [hys] at hI
  obtain ⟨d, n, hdn⟩ : ∃ d n, (d, n) = pick' l t zs.reverse := ⟨_, _, rfl⟩
  rw [<- hdn] at hI
  obtain ⟨g1, g2, g3, g4, g5, g6, g7⟩ := id hI
  have c4 := g4.cell
  have c5 := g5.cell
  have ca : W.cell? ⟨w.heap.size + 1 + 1, 0, none⟩ = some (.int .i64 0) := cell_of_block g3 rfl
  have cb : W.cell? ⟨w.heap.size + 1 + 1, 1, none⟩ = some (.int .i64 0) := cell_of_block g3 rfl
  have fa : W.frozen? ⟨w.heap.size + 1 + 1, 0, none⟩ = false := frozen_of_block g3
  have fb : W.frozen? ⟨w.heap.size + 1 + 1, 1, none⟩ = false := frozen_of_block g3
  have HG := Lib.hid (And.intro g3 g7)
  have HI := Lib.hid hI
  have HD := Lib.hid hdn
  have HK := Lib.hid hK
  have HSZ := Lib.hid (And.intro hD hsz)
  clear hD
  clear hI hdn hK g1 g2 g3 g4 g5 g6 g7
  gi_wp2
  have hD2 : D ≠ w.heap.size + 1 + 1 := by have := HSZ.out; omega
  have hK2 := heap_set2 HK.out (p := ⟨w.heap.size + 1 + 1, 0, none⟩) (q := ⟨w.heap.size + 1 + 1, 1, none⟩) hD2 hD2 (.int .i64 (d : Int)) (.int .i64 (n : Int))
  refine ⟨by simp, .inl ⟨_, _, rfl, run_takeDeferred hK2, ?_⟩⟩
  have hb3 := belowK_b (w := W0) (n₀ := w.heap.size) (by have := HSZ.out; omega) _ D _ (.deferred none) HSZ.out.1 hK2 rfl rfl
  clear hK2
  have h2 := heap_put (D := D) (o := .deferred none) (block_setCell (i := 1) (block_setCell (i := 0) HG.out.1 (.int .i64 (d : Int))) (.int .i64 (n : Int))) hD2
  have hb2 := (((HG.out.2.setCell (p := ⟨w.heap.size + 1 + 1, 0, none⟩) (by simp; omega) (.int .i64 (d : Int))).setCell (p := ⟨w.heap.size + 1 + 1, 1, none⟩) (by simp; omega) (.int .i64 (n : Int))).trans hb3)
  clear hb3
  generalize ((W.setCell _ _).setCell _ _).putObj D _ = W2 at h2 hb2 ⊢
  have c0 := cell_of_block (i := 0) h2 rfl
  have c1 := cell_of_block (i := 1) h2 rfl
  refine ⟨.agg #[.int .i64 (d : Int), .int .i64 (n : Int)], ?_, ?_, hb2⟩
  · simp [results, Tryz.f102, go_sem, c0, c1]
  · rw [<- HD.out]
 case stop =>
  rintro D c pre W hD ⟨k, hk, hpre⟩ ⟨rfl, hfull, hI⟩ hK
  have hfin : pick' l t zs.reverse = pick' l t (pre.map (fun i : Fin zs.length => zs.getD i.1 0)) := by
   rw [hpre] at hfull ⊢
   conv => lhs; rw [<- List.take_append_drop k zs.reverse]
   exact pick_full l t _ _ hfull
  rw [<- hfin] at hI
  clear hfin
  obtain ⟨d, n, hdn⟩ : ∃ d n, (d, n) = pick' l t zs.reverse := ⟨_, _, rfl⟩
  rw [<- hdn] at hI
  obtain ⟨g1, g2, g3, g4, g5, g6, g7⟩ := id hI
  have c4 := g4.cell
  have c5 := g5.cell
  have ca : W.cell? ⟨w.heap.size + 1 + 1, 0, none⟩ = some (.int .i64 0) := cell_of_block g3 rfl
  have cb : W.cell? ⟨w.heap.size + 1 + 1, 1, none⟩ = some (.int .i64 0) := cell_of_block g3 rfl
  have fa : W.frozen? ⟨w.heap.size + 1 + 1, 0, none⟩ = false := frozen_of_block g3
  have fb : W.frozen? ⟨w.heap.size + 1 + 1, 1, none⟩ = false := frozen_of_block g3
  have HG := Lib.hid (And.intro g3 g7)
  have HI := Lib.hid hI
  have HD := Lib.hid hdn
  have HK := Lib.hid hK
  have HSZ := Lib.hid (And.intro hD hsz)
  clear hD
  clear hI hdn hK g1 g2 g3 g4 g5 g6 g7
  gi_wp2
  have hD2 : D ≠ w.heap.size + 1 + 1 := by have := HSZ.out; omega
  have hK2 := heap_set2 HK.out (p := ⟨w.heap.size + 1 + 1, 0, none⟩) (q := ⟨w.heap.size + 1 + 1, 1, none⟩) hD2 hD2 (.int .i64 (d : Int)) (.int .i64 (n : Int))
  refine ⟨by simp, .inl ⟨_, _, rfl, run_takeDeferred hK2, ?_⟩⟩
  have hb3 := belowK_b (w := W0) (n₀ := w.heap.size) (by have := HSZ.out; omega) _ D _ (.deferred none) HSZ.out.1 hK2 rfl rfl
  clear hK2
  have h2 := heap_put (D := D) (o := .deferred none) (block_setCell (i := 1) (block_setCell (i := 0) HG.out.1 (.int .i64 (d : Int))) (.int .i64 (n : Int))) hD2
  have hb2 := (((HG.out.2.setCell (p := ⟨w.heap.size + 1 + 1, 0, none⟩) (by simp; omega) (.int .i64 (d : Int))).setCell (p := ⟨w.heap.size + 1 + 1, 1, none⟩) (by simp; omega) (.int .i64 (n : Int))).trans hb3)
  clear hb3
  generalize ((W.setCell _ _).setCell _ _).putObj D _ = W2 at h2 hb2 ⊢
  have c0 := cell_of_block (i := 0) h2 rfl
  have c1 := cell_of_block (i := 1) h2 rfl
  refine ⟨.agg #[.int .i64 (d : Int), .int .i64 (n : Int)], ?_, ?_, hb2⟩
  · simp [results, Tryz.f102, go_sem, c0, c1]
  · rw [<- HD.out]
end Mat
end Go.Proofs.YtahjjcmeocibbaaGreatDoor
end
section
namespace Go.Proofs.YtahjjcmeocibbaaGreatDoor
open Go.RowKit Go.Own
namespace Mat
open Go.MatM Byt
theorem isPos_any (ao : Option Addr) (len cap : Nat) (i : Int) (v : Bool) (hv : decide (0 <= i /\ i < (len : Int)) = v) (w : World) (hb : len <= 1000000000) :
 Calls Tryz.prog 140 #[.slice ao len cap, .int .i64 i] w fun e w' => e = .returned (.bool v) /\ w = w' := by
 have HV := Lib.hid hv
 clear hv
 by_cases h0 : 0 <= i
 · by_cases h1 : i < (len : Int)
   · go_enter Tryz.func140, Tryz.ntmps140
     go_wp2
     go_ret
     exact ⟨by rw [<- HV.out]; simp; omega, rfl⟩
   · go_enter Tryz.func140, Tryz.ntmps140
     go_wp2
     go_ret
     exact ⟨by rw [<- HV.out]; simp; omega, rfl⟩
 · go_enter Tryz.func140, Tryz.ntmps140
   go_wp2
   go_ret
   exact ⟨by rw [<- HV.out]; simp; omega, rfl⟩
theorem hasHead_any (ao : Option Addr) (len cap : Nat) (i : Int) (v : Bool) (hv : decide (0 <= i /\ i + 3 <= (len : Int)) = v) (w : World) (hb : len <= 1000000000) (h2 : i <= 9223372036854775807) :
 Calls Tryz.prog 99 #[.slice ao len cap, .int .i64 i] w fun e w' => e = .returned (.bool v) /\ w = w' := by
 have HV := Lib.hid hv
 clear hv
 by_cases h0 : 0 <= i
 · by_cases h1 : i <= (len : Int) - 3
   · go_enter Tryz.func99, Tryz.ntmps99
     go_wp2
     go_ret
     exact ⟨by rw [<- HV.out]; simp; omega, rfl⟩
   · go_enter Tryz.func99, Tryz.ntmps99
     go_wp2
     go_ret
     exact ⟨by rw [<- HV.out]; simp; omega, rfl⟩
 · go_enter Tryz.func99, Tryz.ntmps99
   go_wp2
   go_ret
   exact ⟨by rw [<- HV.out]; simp; omega, rfl⟩
theorem cnt_at (b : Bs) (i k f n : Nat) (h : ¬ (i + n < b.length /\ k + n < b.length /\ by' b (i + n) = by' b (k + n))) : cnt b i k f n = n := by
 cases f with
 | zero => rfl
 | succ f => unfold cnt; rw [if_neg h]
theorem cnt_on (b : Bs) (i k n : Nat) (hn : n < 130) (h : i + n < b.length /\ k + n < b.length /\ by' b (i + n) = by' b (k + n)) : cnt b i k (130 - n) n = cnt b i k (130 - (n + 1)) (n + 1) := by
 rw [show 130 - n = (130 - (n + 1)) + 1 by omega]
 conv => lhs; unfold cnt
 rw [if_pos h]
set_option maxHeartbeats 4000000 in
theorem common_any (ao : Option Addr) (len cap : Nat) (l : Bs) (i k : Int) (w : World) (hV : View w (fun k => k < w.heap.size) ao l) (hn : l.length = len) (hb : len <= 1000000) :
 Calls Tryz.prog 126 #[.slice ao len cap, .int .i64 i, .int .i64 k] w fun e w' => e = .returned (.int .i64 (comI l i k : Nat)) /\ ∃ q, w' = w.drewN q := by
 have HN := Lib.hid hn
 have HV := Lib.hid hV
 obtain ⟨R, hR⟩ : ∃ r, r = comI l i k := ⟨_, rfl⟩
 rw [<- hR]
 clear hn hV
 by_cases hi : 0 <= i /\ i < (len : Int)
 · have P1 := Lib.hid (fun wx => isPos_any ao len cap i true (decide_eq_true hi) wx (by omega))
   by_cases hk : 0 <= k /\ k < (len : Int)
   · have P2 := Lib.hid (fun wx => isPos_any ao len cap k true (decide_eq_true hk) wx (by omega))
     obtain ⟨hi0, hil⟩ := hi
     obtain ⟨hk0, hkl⟩ := hk
     obtain ⟨i, rfl⟩ := Int.eq_ofNat_of_zero_le hi0
     obtain ⟨k, rfl⟩ := Int.eq_ofNat_of_zero_le hk0
     have HR : Hid (R = com l i k) := by show R = com l i k; rw [hR]; unfold comI; rw [if_neg (by have := HN.out; omega)]; rfl
     obtain ⟨b, o, hao, _, _, _⟩ := vat HV.out (k := i) (by rw [HN.out]; omega)
     have HAO := Lib.hid hao
     have HBYTE : Hid (∀ j, j < len -> w.cell? ⟨b, o + j, none⟩ = some (.int .u8 ((by' l j).toNat : Int))) := by
      intro j hj
      obtain ⟨b', o', h1, _, _, h2⟩ := vat HV.out (k := j) (by rw [HN.out]; exact hj)
      rw [HAO.out] at h1
      cases h1
      exact h2
     subst hao
     clear hR HAO
     obtain ⟨most, hmost⟩ : ∃ m, m = min (len - max i k) 130 := ⟨_, rfl⟩
     have HM : Hid (most <= 130 /\ (i + most <= len /\ k + most <= len) /\ (most = 130 \/ i + most = len \/ k + most = len)) := by
      show _ /\ _ /\ _
      refine ⟨?_, ⟨?_, ?_⟩, ?_⟩ <;> omega
     have HMI : Hid (min ((len : Int) - max (i : Int) (k : Int)) 130 = (most : Int)) := by
      show min ((len : Int) - max (i : Int) (k : Int)) 130 = (most : Int)
      omega
     clear hmost
     go_enter Tryz.func126, Tryz.ntmps126
     go_wp2_with (first | (refine (P1.out _).mono ?_; clear P1; rintro e w' ⟨rfl, rfl⟩) | (refine (P2.out _).mono ?_; clear P2; rintro e w' ⟨rfl, rfl⟩))
     rw [HMI.out]
     go_loopw [8] (fun v wr => ∃ n : Nat, ∃ q, n <= most /\ v = .int .i64 (n : Int) /\ wr = w.drewN q /\ cnt l i k (130 - n) n = R) (fun v _ => 131 - (intOf v).toNat)
     case atStart => exact ⟨0, 0, Nat.zero_le _, rfl, rfl, HR.out.symm⟩
     case round =>
      obtain ⟨n, q, hnm, rfl, rfl, hcnt⟩ := hrel
      have HCNT := Lib.hid hcnt
      clear hcnt
      have hm130 : most <= 130 := HM.out.1
      have hml := HM.out.2.1
      by_cases hlt : n < most
      · have c1 := HBYTE.out (i + n) (by omega)
        have c2 := HBYTE.out (k + n) (by omega)
        obtain ⟨x, hx⟩ : ∃ x, x = by' l (i + n) := ⟨_, rfl⟩
        obtain ⟨y, hy⟩ : ∃ y, y = by' l (k + n) := ⟨_, rfl⟩
        rw [<- hx] at c1
        rw [<- hy] at c2
        have HXY : Hid (x = by' l (i + n) /\ y = by' l (k + n)) := ⟨hx, hy⟩
        clear hx hy
        have e1 : IntKind.i64.wrap ((i : Int) + (n : Int)) = ((i + n : Nat) : Int) := (IntWalk.i64_in _ (by omega)).trans (by omega)
        have e2 : IntKind.i64.wrap ((k : Int) + (n : Int)) = ((k + n : Nat) : Int) := (IntWalk.i64_in _ (by omega)).trans (by omega)
        have b1 : i + n < len := by omega
        have b2 : k + n < len := by omega
        by_cases hxy : x = y
        · subst hxy
          go_wp2
          go_quiet (fail)
          go_wp2
          go_roundw
          case rel =>
           refine ⟨n + 1, q + nq, by omega, by simp, rfl, ?_⟩
           rw [<- HCNT.out]
           exact (cnt_on l i k n (by omega) ⟨by rw [HN.out]; omega, by rw [HN.out]; omega, by rw [<- HXY.out.1, <- HXY.out.2]⟩).symm
          case measure => simp [intOf]; omega
        · have hxy' : ¬ (x.toNat : Int) = (y.toNat : Int) := fun h => hxy (UInt8.toNat_inj.1 (by omega))
          have HE : Hid (R = n) := by
           show R = n
           rw [<- HCNT.out]
           exact cnt_at l i k _ n (fun h => hxy (by rw [HXY.out.1, HXY.out.2]; exact h.2.2))
          go_wp2
          go_quiet (fail)
          go_wp2
          go_ret
          exact ⟨by rw [HE.out]; rfl, q + nq, by first | rfl | simp⟩
      · have HE : Hid (R = n) := by
         show R = n
         rw [<- HCNT.out]
         rcases HM.out.2.2 with h | h | h
         · rw [show 130 - n = 0 by omega]; rfl
         · exact cnt_at l i k _ n (fun g => by have := HN.out; omega)
         · exact cnt_at l i k _ n (fun g => by have := HN.out; omega)
        have hnm' : ¬ (n : Int) < (most : Int) := by omega
        go_wp2
        go_quiet (fail)
        go_wp2
        go_ret
        exact ⟨by rw [HE.out]; rfl, q + nq, by first | rfl | simp⟩
   · have P2 := Lib.hid (fun wx => isPos_any ao len cap k false (decide_eq_false hk) wx (by omega))
     have h0 : R = 0 := by rw [hR]; unfold comI; rw [if_pos (by have := HN.out; omega)]
     subst h0
     clear hR
     go_enter Tryz.func126, Tryz.ntmps126
     go_wp2_with (first | (refine (P1.out _).mono ?_; clear P1; rintro e w' ⟨rfl, rfl⟩) | (refine (P2.out _).mono ?_; clear P2; rintro e w' ⟨rfl, rfl⟩))
     go_ret
     exact ⟨rfl, 0, rfl⟩
 · have P1 := Lib.hid (fun wx => isPos_any ao len cap i false (decide_eq_false hi) wx (by omega))
   have h0 : R = 0 := by rw [hR]; unfold comI; rw [if_pos (by have := HN.out; omega)]
   subst h0
   clear hR
   go_enter Tryz.func126, Tryz.ntmps126
   go_wp2_with (refine (P1.out _).mono ?_; clear P1; rintro e w' ⟨rfl, rfl⟩)
   go_ret
   exact ⟨rfl, 0, rfl⟩
end Mat
end Go.Proofs.YtahjjcmeocibbaaGreatDoor
end
section
namespace Go.Proofs.YtahjjcmeocibbaaGreatDoor
open Go.RowKit Go.Own
namespace Mat
open Go.MatM Byt
theorem infoPair : (Tryz.prog.info? 139).map (fun i => (i.zero, i.size, i.bytes)) = some (some (.agg #[.int .i64 0, .int .i64 0]), 2, 16) := by kernel_rfl
def pcells (ps : List (Nat × Nat)) : List Value := ps.flatMap fun x => [.int .i64 (x.1 : Int), .int .i64 (x.2 : Int)]
theorem pcells_len (ps : List (Nat × Nat)) : (pcells ps).length = ps.length * 2 := by
 induction ps with
 | nil => rfl
 | cons x ps ih => simp only [pcells, List.flatMap_cons, List.length_append, List.length_cons, List.length_nil] at *; omega
theorem pcells_at (ps : List (Nat × Nat)) : ∀ i, i < ps.length -> (pcells ps)[2 * i]? = some (.int .i64 ((ps.getD i (0, 0)).1 : Int)) /\ (pcells ps)[2 * i + 1]? = some (.int .i64 ((ps.getD i (0, 0)).2 : Int)) := by
 induction ps with
 | nil => intro i h; simp at h
 | cons x ps ih =>
  intro i h
  have e : pcells (x :: ps) = .int .i64 (x.1 : Int) :: .int .i64 (x.2 : Int) :: pcells ps := rfl
  rw [e]
  cases i with
  | zero => exact ⟨rfl, rfl⟩
  | succ i =>
   have h1 := ih i (by simpa using h)
   rw [show 2 * (i + 1) = 2 * i + 1 + 1 by omega]
   simp only [List.getElem?_cons_succ, List.getD_cons_succ]
   exact h1
def AQ (ao : Option Addr) (n cap : Nat) (ps : List (Nat × Nat)) : Asn := ARow 139 2 (.slice ao n cap) n (pcells ps)
section
variable {B : Nat} {w0 w : World} {Ps : List Asn} {ao : Option Addr} {n cap : Nat} {ps : List (Nat × Nat)}
theorem aq_len (H : St B w0 w Ps) (i : Nat) (hi : Ps[i]? = some (AQ ao n cap ps)) : ps.length = n /\ n <= cap /\ cap <= maxLen := by
 obtain ⟨S, hS, _⟩ := H.at i hi
 obtain ⟨ao', cap', hv, h1, h2, h3, _⟩ := Row.form hS
 simp only [Value.slice.injEq, true_and] at hv
 obtain ⟨rfl, rfl⟩ := hv
 have := hS.own.1
 rw [pcells_len] at this
 exact ⟨by omega, h1, h2⟩
theorem aq_at (H : St B w0 w Ps) (i : Nat) (hi : Ps[i]? = some (AQ ao n cap ps)) (j : Nat) (hj : j < n) :
 ∃ g, ao = some ⟨g, 0, none⟩ /\ w.cell? ⟨g, 2 * j, none⟩ = some (.int .i64 ((ps.getD j (0, 0)).1 : Int)) /\ w.cell? ⟨g, 2 * j + 1, none⟩ = some (.int .i64 ((ps.getD j (0, 0)).2 : Int)) := by
 have hl := (aq_len H i hi).1
 obtain ⟨S, hS, _⟩ := H.at i hi
 obtain ⟨ao', cap', hv, _, _, h3, h4⟩ := Row.form hS
 simp only [Value.slice.injEq, true_and] at hv
 obtain ⟨rfl, rfl⟩ := hv
 cases ao with
 | none => have := (h3 rfl).1; omega
 | some a =>
  obtain ⟨g, rfl, _⟩ := h4 a rfl
  have hc := pcells_at ps j (by omega)
  exact ⟨g, rfl, (hS.cells (2 * j) (by omega)).trans hc.1, (hS.cells (2 * j + 1) (by omega)).trans hc.2⟩
end
theorem row_out {w wr : World} {Ps : List Asn} {ao : Option Addr} {n cap : Nat} {ps : List (Nat × Nat)} (H : St w.heap.size w wr Ps) (i : Nat) (hi : Ps[i]? = some (AQ ao n cap ps)) :
 ∃ T, Row wr 139 2 T (.slice ao n cap) n (pcells ps) /\ Step (fun _ => False) T w wr := by
 obtain ⟨S, hS, hB, _⟩ := H.at i hi
 have hb := H.below
 exact ⟨S, hS, ⟨hb.os, hb.tape, hb.output, H.size, fun k hk _ => hb.block k hk, fun k hk => .inr (hB k hk)⟩⟩
def alls (l : Bs) : List (Nat × Nat) := (List.range l.length).map (longest l)
def AllDone (l : Bs) (len : Nat) (w : World) (e : Ending) (w' : World) : Prop := ∃ ao cap T, e = .returned (.slice ao len cap) /\ Row w' 139 2 T (.slice ao len cap) len (pcells (alls l)) /\ Step (fun _ => False) T w w'
end Mat
end Go.Proofs.YtahjjcmeocibbaaGreatDoor
end
section
namespace Go.Proofs.YtahjjcmeocibbaaGreatDoor
open Go.RowKit Go.Own
namespace Mat
open Go.MatM Byt
set_option maxHeartbeats 1000000 in
theorem headAt_any (ao : Option Addr) (len cap : Nat) (l : Bs) (t : Nat) (w : World) (hG : Given w ao len cap l) (hb : len <= 1000000) (ht : t + 3 <= len) :
 Calls Tryz.prog 101 #[.slice ao len cap, .int .i64 (t : Int)] w fun e w' => e = .returned (hdV (by' l t) (by' l (t + 1)) (by' l (t + 2))) /\ Below w.heap.size w w' := by
 obtain ⟨b, o, hao, _, hbw, _⟩ := vat hG.view (k := t) (by rw [hG.size]; omega)
 have hc : ∀ j, j < len -> w.cell? ⟨b, o + j, none⟩ = some (.int .u8 ((by' l j).toNat : Int)) := by
  intro j hj
  obtain ⟨b', o', h1, _, _, h2⟩ := vat hG.view (k := j) (by rw [hG.size]; exact hj)
  rw [hao] at h1
  cases h1
  exact h2
 subst hao
 have c0 := hc t (by omega)
 have c1 := hc (t + 1) (by omega)
 have c2 := hc (t + 2) (by omega)
 have hcap := hG.room
 generalize by' l t = x0 at *
 generalize by' l (t + 1) = x1 at *
 generalize by' l (t + 2) = x2 at *
 have hm := hcap.2
 unfold maxLen at hm
 have hcl := hcap.1
 clear hG hc hcap
 have c1 : w.cell? ⟨b, o + t + 1, none⟩ = some (.int .u8 (x1.toNat : Int)) := c1
 have c2 : w.cell? ⟨b, o + t + 2, none⟩ = some (.int .u8 (x2.toNat : Int)) := c2
 have d0 : (w.alloc (.cells #[.int .u8 0, .int .u8 0, .int .u8 0] 177)).cell? ⟨b, o + t, none⟩ = some (.int .u8 (x0.toNat : Int)) := cell_alloc c0 _
 have d1 : (w.alloc (.cells #[.int .u8 0, .int .u8 0, .int .u8 0] 177)).cell? ⟨b, o + t + 1, none⟩ = some (.int .u8 (x1.toNat : Int)) := cell_alloc c1 _
 have d2 : (w.alloc (.cells #[.int .u8 0, .int .u8 0, .int .u8 0] 177)).cell? ⟨b, o + t + 2, none⟩ = some (.int .u8 (x2.toNat : Int)) := cell_alloc c2 _
 have hat : ∀ w, (Instr.arrayAt 177 (.slice (some ⟨b, o + t, none⟩) 3 (cap - t))).run Tryz.prog w = .ok (.pointer (some ⟨b, o + t, none⟩)) w := fun w => run_arrayAt w 177 _ 3 _ 3 (cap - t) Tryz.underlying177 (Nat.le_refl _)
 go_enter Tryz.func101, Tryz.ntmps101
 go_wp2
 refine bodyPost_ret (v := hdV x0 x1 x2) ?_ rfl ⟨rfl, (Below.refl _ _).alloc (Nat.le_refl _) _⟩
 have hres : Tryz.f101.results = #[.cell 4 177] := by kernel_rfl
 simp only [results, hres]
 go_simp
 rfl
def farP (t z : Nat) : Bool := decide (z + 256 < t)
set_option maxHeartbeats 1000000 in
theorem within_any (v : Value) (zs : List Nat) (t : Nat) (w : World) (hs : Slc w v zs) (hl : zs.length <= 100000000) (hz : ∀ k ∈ zs, k <= 1000000000) (ht : t <= 1000000000) :
 Calls Tryz.prog 100 #[v, .int .i64 (t : Int)] w fun e w' => ∃ v', e = .returned v' /\ w = w' /\ Slc w v' (zs.dropWhile (farP t)) /\ v'.ownBlock = v.ownBlock := by
 have HS := Lib.hid hs
 have HZ := Lib.hid hz
 clear hs hz
 go_enter Tryz.func100, Tryz.ntmps100
 go_wp2
 go_loopw [0] (fun x wr => wr = w /\ ∃ zs1, Slc w x zs1 /\ x.ownBlock = v.ownBlock /\ zs1.dropWhile (farP t) = zs.dropWhile (farP t) /\ zs1.length <= 100000000 /\ ∀ k ∈ zs1, k <= 1000000000) (fun x _ => lenV x)
 case atStart => exact ⟨rfl, zs, HS.out, rfl, rfl, hl, HZ.out⟩
 case round =>
  obtain ⟨rfl, zs1, hs1, hob, hdw, hl1, hz1⟩ := hrel
  cases zs1 with
  | nil =>
   obtain ⟨ao, cap, rfl, _⟩ := hs1.form
   have H1 := Lib.hid hs1
   have H2 := Lib.hid hob
   have H3 := Lib.hid hdw
   clear hs1 hob hdw hz1
   go_wp2
   go_ret
   refine ⟨_, rfl, rfl, ?_, H2.out⟩
   rw [<- H3.out]
   exact H1.out
  | cons z zs1 =>
   rcases id hs1 with ⟨_, h0⟩ | ⟨g, o, cap, cur, rfl, hb, h1, h2, h3, h4⟩
   · cases h0
   · have c0 : wr.cell? ⟨g, o, none⟩ = some (.int .i64 (z : Int)) := cell_of_block (i := o) hb (by have := h4 0 (by simp); simpa [nv] using this)
     have hcap : zs1.length + 1 <= cap := by simpa using h1
     have hcm : cap <= 9223372036854775807 := by unfold maxLen at h2; omega
     have hzb := hz1 z (List.mem_cons_self ..)
     have H1 := Lib.hid hs1
     have H2 := Lib.hid hob
     have H3 := Lib.hid hdw
     have H4 := Lib.hid (fun k hk => hz1 k (List.mem_cons_of_mem _ hk))
     have hl2 : zs1.length + 1 <= 100000000 := by simpa using hl1
     clear hs1 hob hdw hz1 hl1 hb h1 h2 h3 h4
     simp only [List.length_cons] at H1 H2 ⊢
     obtain ⟨n, hn⟩ : ∃ n, n = zs1.length := ⟨_, rfl⟩
     rw [<- hn] at hcap hl2 H1 H2 ⊢
     have HN := Lib.hid hn
     clear hn
     by_cases hf : z + 256 < t
     · have hf' : (256 : Int) < (t : Int) - (z : Int) := by omega
       go_wp2
       go_roundw
       case rel =>
        refine ⟨trivial, zs1, ?_, ?_, ?_, by have := HN.out; omega, H4.out⟩
        · have h := H1.out; rw [HN.out] at h ⊢; exact h.off'
        · rw [<- H2.out]; by_cases hc : cap = 1
          · rw [if_pos hc]; rfl
          · rw [if_neg hc]; rfl
        · rw [<- H3.out, List.dropWhile_cons]
          simp [farP, hf]
       case measure => simp [lenV]
     · have hf' : ¬ (256 : Int) < (t : Int) - (z : Int) := by omega
       go_wp2
       go_ret
       refine ⟨.slice (some ⟨g, o, none⟩) (n + 1) cap, rfl, rfl, ?_, H2.out⟩
       rw [<- H3.out, List.dropWhile_cons]
       simp only [farP, hf, decide_false, Bool.false_eq_true, if_false]
       exact H1.out
end Mat
end Go.Proofs.YtahjjcmeocibbaaGreatDoor
end
section
namespace Go.Proofs.YtahjjcmeocibbaaGreatDoor
open Go.RowKit Go.Own
namespace Mat
open Go.MatM Byt
theorem choose_in {w wr : World} (hw : Below w.heap.size w wr) {ao : Option Addr} {len cap : Nat} {l : Bs} (HG : Given w ao len cap l) (t : Nat) (v : Value) (hb : len <= 1000000) (ht : t + 3 <= len) (hs : Slc wr v (near l t)) :
 Calls Tryz.prog 102 #[.slice ao len cap, .int .i64 (t : Int), v] wr fun e w' => e = .returned (.agg #[.int .i64 ((longest l t).1 : Int), .int .i64 ((longest l t).2 : Int)]) /\ Below wr.heap.size wr w' := by
 have h := choose_any ao len cap t l v (near l t) wr hs (by have := near_len l t; omega) (fun k hk => near_lt l t k hk) (by omega) (Lib.hid (fun wx hwx k hk => by
  have hg := HG.later (hw.trans (hwx.mono hw.size))
  have h := common_any ao len cap l (k : Int) (t : Int) wx hg.view hg.size hb
  have e : comI l (k : Int) (t : Int) = com l k t := by unfold comI; rw [if_neg (by have := HG.size; omega)]; rfl
  rw [e] at h
  exact h))
 rw [pick_near l t (by have := HG.size; omega)] at h
 exact h
end Mat
end Go.Proofs.YtahjjcmeocibbaaGreatDoor
end
section
namespace Go.Proofs.YtahjjcmeocibbaaGreatDoor
open Go.RowKit Go.Own Go.Maps
namespace Mat
open Go.MatM Byt
theorem occ_drop (l h : Bs) (i : Nat) : ∀ (m lo : Nat), i - lo <= m -> lo <= i - 256 -> (occ l h lo i).dropWhile (farP i) = occ l h (i - 256) i := by
 intro m
 induction m with
 | zero =>
  intro lo h1 h2
  cases hz : occ l h lo i with
  | nil => exact (occ_none l h lo (i - 256) i hz h2).symm
  | cons z zs => have := (occ_cons l h lo i z zs hz).2; omega
 | succ m ih =>
  intro lo h1 h2
  cases hz : occ l h lo i with
  | nil => exact (occ_none l h lo (i - 256) i hz h2).symm
  | cons z zs =>
   obtain ⟨e, g1, g2⟩ := occ_cons l h lo i z zs hz
   rw [List.dropWhile_cons]
   by_cases hf : z + 256 < i
   · rw [if_pos (show farP i z = true by simp [farP, hf]), e]
     exact ih (z + 1) (by omega) (by omega)
   · rw [if_neg (show ¬ farP i z = true by simp [farP, hf]), <- hz]
     exact occ_near l h lo (i - 256) i z zs hz h2 (by omega)
def FI (l : Bs) (i : Nat) (f : Lit -> List Nat) : Prop := ∀ a b c, ∃ lo, lo <= i - 256 /\ f (hdL a b c) = occ l [a, b, c] lo i
theorem FI.zero (l : Bs) : FI l 0 (fun _ => []) := fun a b c => ⟨0, Nat.le_refl _, (occ_empty l [a, b, c] 0).symm⟩
theorem FI.nearby {l : Bs} {i : Nat} {f : Lit -> List Nat} (h : FI l i f) : (f (hdL (by' l i) (by' l (i + 1)) (by' l (i + 2)))).dropWhile (farP i) = near l i := by
 obtain ⟨lo, h1, h2⟩ := h (by' l i) (by' l (i + 1)) (by' l (i + 2))
 rw [h2, occ_drop l _ i i lo (by omega) h1]
 rfl
theorem FI.few {l : Bs} {i : Nat} {f : Lit -> List Nat} (h : FI l i f) (a b c : UInt8) : (f (hdL a b c)).length <= i /\ ∀ k ∈ f (hdL a b c), k < i := by
 obtain ⟨lo, h1, h2⟩ := h a b c
 rw [h2]
 exact ⟨by have := occ_len l [a, b, c] lo i; omega, fun k hk => ((occ_mem l [a, b, c] lo i k).1 hk).2.1⟩
theorem FI.next {l : Bs} {i : Nat} {f : Lit -> List Nat} (h : FI l i f) : FI l (i + 1) (put1 f (hdL (by' l i) (by' l (i + 1)) (by' l (i + 2))) (near l i ++ [i])) := by
 intro a b c
 by_cases e : hdL a b c = hdL (by' l i) (by' l (i + 1)) (by' l (i + 2))
 · obtain ⟨rfl, rfl, rfl⟩ := hdL_inj e
   refine ⟨i - 256, Nat.sub_le_sub_right (Nat.le_succ i) 256, ?_⟩
   rw [put1_same, occ_succ _ _ _ _ (Nat.sub_le _ _)]
   show near l i ++ [i] = occ l (hd l i) (i - 256) i ++ (if hd l i = hd l i then [i] else [])
   rw [if_pos rfl]
   rfl
 · obtain ⟨lo, h1, h2⟩ := h a b c
   refine ⟨lo, Nat.le_trans h1 (Nat.sub_le_sub_right (Nat.le_succ i) 256), ?_⟩
   rw [put1_other e, h2, occ_succ _ _ _ _ (Nat.le_trans h1 (Nat.sub_le _ _)), if_neg, List.append_nil]
   intro e2
   simp only [hd, List.cons.injEq, and_true] at e2
   exact e (by rw [e2.1, e2.2.1, e2.2.2])
theorem madePairs (n : Nat) : (madeCells (Value.agg #[.int .i64 0, .int .i64 0]).cells (n * 2)).toList = pcells (List.replicate n (0, 0)) := by
 unfold madeCells
 apply List.ext_getElem?
 intro i
 by_cases hi : i < n * 2
 · have hc := pcells_at (List.replicate n (0, 0)) (i / 2) (by simp; omega)
   have hz : (List.replicate n ((0 : Nat), (0 : Nat))).getD (i / 2) (0, 0) = (0, 0) := by rw [List.getD_eq_getElem?_getD, List.getElem?_replicate]; split <;> rfl
   rw [hz] at hc
   have hv : (pcells (List.replicate n (0, 0)))[i]? = some (.int .i64 0) := by
    rcases Nat.mod_two_eq_zero_or_one i with h | h
    · have e : 2 * (i / 2) = i := by omega
      rw [e] at hc; simpa using hc.1
    · have e : 2 * (i / 2) + 1 = i := by omega
      rw [e] at hc; simpa using hc.2
   rw [hv]
   simp [hi, Value.cells]
   rcases Nat.mod_two_eq_zero_or_one i with h | h <;> simp [h]
 · have h2 : (pcells (List.replicate n (0, 0))).length = n * 2 := by rw [pcells_len]; simp
   rw [List.getElem?_eq_none (l := pcells (List.replicate n (0, 0))) (by rw [h2]; omega)]
   simp [hi]
theorem pcells_set (ps : List (Nat × Nat)) : ∀ (j : Nat) (d m : Nat), ((pcells ps).set (2 * j) (.int .i64 (d : Int))).set (2 * j + 1) (.int .i64 (m : Int)) = pcells (ps.set j (d, m)) := by
 induction ps with
 | nil => intro j d m; simp [pcells]
 | cons x ps ih =>
  intro j d m
  have e : ∀ (y : Nat × Nat) qs, pcells (y :: qs) = .int .i64 (y.1 : Int) :: .int .i64 (y.2 : Int) :: pcells qs := fun _ _ => rfl
  cases j with
  | zero => rfl
  | succ j =>
   rw [show 2 * (j + 1) = 2 * j + 1 + 1 by omega]
   simp only [e, List.set_cons_succ, List.set_cons_succ]
   rw [ih]
section
variable {B : Nat} {w0 w : World} {Ps : List Asn}
theorem aq_make (H : St B w0 w Ps) (kl kc : IntKind) (n : Nat) (hn : n <= 100000000) :
 ∃ w', (Instr.makeSlice 136 (.int kl (n : Int)) (.int kc (n : Int))).run Tryz.prog w = .ok (.slice (some ⟨w.heap.size, 0, none⟩) n n) w' /\ St B w0 w' (AQ (some ⟨w.heap.size, 0, none⟩) n n (List.replicate n (0, 0)) :: Ps) := by
 obtain ⟨i0, hi, hz0, hz1, hz2⟩ := info_parts infoPair
 obtain ⟨w', hr, hown, hg⟩ := run_make_full (P := Tryz.prog) w 0 136 139 i0 (.agg #[.int .i64 0, .int .i64 0]) 2 Tryz.underlying136 hi hz0 hz1 kl kc n (by rw [hz2]; omega) (by unfold maxLen; omega) (Nat.zero_le _)
 rw [madePairs] at hown
 refine ⟨w', hr, H.new (S' := fun k => k = w.heap.size) (AQ _ n n _) ⟨hown, fun k => by simp [Value.ownBlock, eq_comm]⟩ ?_⟩
 exact ((Step.refl (fun _ => False) w).grown hg (by intro k hk; cases hk)).to (fun k hk => .inr (Nat.le_of_eq hk.symm))
theorem aq_put {p n cap : Nat} {ps : List (Nat × Nat)} (H : St B w0 w Ps) (i k : Nat) (hik : k ≠ i) (hi : Ps[i]? = some (AQ (some ⟨p, 0, none⟩) n cap ps)) {b m : Nat} {g : Lit -> Value} {f : Lit -> List Nat} (hk : Ps[k]? = some (AG b m g f)) (j : Nat) (hj : j < n) :
 (∃ u, w.cell? ⟨p, j * 2, none⟩ = some u) /\ (∃ u, w.cell? ⟨p, j * 2 + 1, none⟩ = some u) /\ w.frozen? ⟨p, j * 2, none⟩ = false /\ w.frozen? ⟨p, j * 2 + 1, none⟩ = false /\
  ∀ d x : Nat, St B w0 ((w.setCell ⟨p, j * 2, none⟩ (.int .i64 (d : Int))).setCell ⟨p, j * 2 + 1, none⟩ (.int .i64 (x : Int))) (Ps.set i (AQ (some ⟨p, 0, none⟩) n cap (ps.set j (d, x)))) /\
   ∀ v zs kl, Slc w v zs -> v.ownBlock = (g kl).ownBlock -> Slc ((w.setCell ⟨p, j * 2, none⟩ (.int .i64 (d : Int))).setCell ⟨p, j * 2 + 1, none⟩ (.int .i64 (x : Int))) v zs := by
 obtain ⟨S, Sk, hS, hSk, hdis, _, put⟩ := H.at2 i k hik hi hk
 have hlen := (aq_len H i hi).1
 rw [show j * 2 = 2 * j by omega]
 obtain ⟨hown, hset⟩ := id hS
 rcases hown.2 with ⟨hv, rfl⟩ | ⟨g', cap', cur, hv, h0, hb, hnc, hcm, hcs, htake⟩
 · omega
 · simp only [Value.slice.injEq, true_and, Option.some.injEq, Addr.mk.injEq, and_true] at hv
   obtain ⟨rfl, rfl⟩ := hv
   have l0 : 2 * j < cur.size := by omega
   have l1 : 2 * j + 1 < cur.size := by omega
   refine ⟨⟨_, cell_of_block hb (Array.getElem?_eq_getElem l0)⟩, ⟨_, cell_of_block hb (Array.getElem?_eq_getElem l1)⟩, frozen_of_block hb, frozen_of_block hb, fun d x => ?_⟩
   have hst : Step S S w ((w.setCell ⟨p, 2 * j, none⟩ (.int .i64 (d : Int))).setCell ⟨p, 2 * j + 1, none⟩ (.int .i64 (x : Int))) :=
    ((Step.refl S w).setCell (a := ⟨p, 2 * j, none⟩) (Or.inl ((hset p).2 rfl)) _).setCell (a := ⟨p, 2 * j + 1, none⟩) (Or.inl ((hset p).2 rfl)) _
   refine ⟨put S _ (AQ (some ⟨p, 0, none⟩) n cap (ps.set j (d, x))) ?_ hst, fun v zs kl hs hvb => hs.step hst (fun q hq => hdis q ((hSk.2.2.2.2 q).2 (.inr ⟨kl, by rw [<- hvb]; exact hq⟩)))⟩
   have h1 := (hown.stored (2 * j) (.int .i64 (d : Int))).1
   have h2 := (h1.stored (2 * j + 1) (.int .i64 (x : Int))).1
   rw [pcells_set] at h2
   exact ⟨h2, hset⟩
end
end Mat
end Go.Proofs.YtahjjcmeocibbaaGreatDoor
end
section
namespace Go.Proofs.YtahjjcmeocibbaaGreatDoor
open Go.RowKit Go.Own
namespace Mat
open Go.MatM Byt
def RetYes (w : World) (e : Ending) (w' : World) : Prop := e = .returned (.bool true) /\ Below w.heap.size w w'
structure Kept (W : World) : Prop where
end Mat
end Go.Proofs.YtahjjcmeocibbaaGreatDoor
end
section
namespace Go.Proofs.YtahjjcmeocibbaaGreatDoor
open Go.RowKit Go.Own Go.Maps
namespace Mat
open Go.MatM Byt
def upto (l : Bs) (len i : Nat) : List (Nat × Nat) := (List.range i).map (longest l) ++ List.replicate (len - i) (0, 0)
theorem upto_zero (l : Bs) (len : Nat) : upto l len 0 = List.replicate len (0, 0) := by simp [upto]
theorem upto_set (l : Bs) (len i : Nat) (h : i < len) : (upto l len i).set i (longest l i) = upto l len (i + 1) := by
 unfold upto
 obtain ⟨r, hr⟩ : ∃ r, len - i = r + 1 := ⟨len - i - 1, by omega⟩
 rw [hr, show len - (i + 1) = r by omega, List.set_append_right _ _ (by simp), List.range_succ, List.map_append]
 simp [List.replicate_succ]
theorem upto_end (l : Bs) (len i : Nat) (hl : l.length = len) (h1 : i <= len) (h : len < i + 3) : upto l len i = alls l := by
 unfold upto alls
 rw [hl]
 obtain ⟨r, hr⟩ : ∃ r, len = i + r := ⟨len - i, by omega⟩
 have e : List.range len = List.range i ++ (List.range r).map (fun j => i + j) := by rw [hr, List.range_add]
 rw [e, List.map_append]
 congr 1
 rw [show len - i = r by omega, List.map_map]
 symm
 rw [List.eq_replicate_iff]
 refine ⟨by simp, fun x hx => ?_⟩
 rw [List.mem_map] at hx
 obtain ⟨j, _, rfl⟩ := hx
 exact longest_short l (i + j) (by omega)
theorem look_op {B : Nat} {w0 w : World} {Ps : List Asn} {b n : Nat} {g : Lit -> Value} {f : Lit -> List Nat} (H : St B w0 w Ps) (i : Nat) (hi : Ps[i]? = some (AG b n g f)) (p q r : UInt8) {o : Oper} {x y : Tmp} (ho : o.op = .lookup 173 (.tmp x) (.tmp y) false) (ρ : Operand -> Value) (h0 : ρ (.tmp x) = .map (some b)) (h1 : ρ (.tmp y) = hdV p q r) :
 (execOp ρ o).run Tryz.prog w = .ok (.value (g (hdL p q r))) w := by
 have h := ag_look H i hi p q r
 simp [execOp, ho, h0, h1, h, go_sem]
set_option maxHeartbeats 4000000 in
theorem all_any (ao : Option Addr) (len cap : Nat) (l : Bs) (w : World) (hG : Given w ao len cap l) (hb : len <= 1000000) :
 Calls Tryz.prog 72 #[.slice ao len cap] w (AllDone l len w) := by
 have HG := Lib.hid hG
 have HL := Lib.hid hG.size
 clear hG
 obtain ⟨w1, pA, hmk, hst1⟩ : ∃ w1 pA, (Instr.makeSlice 136 (.int .i64 (len : Int)) (.int .i64 (len : Int))).run Tryz.prog w = .ok (.slice (some ⟨pA, 0, none⟩) len len) w1 /\ Own.St w.heap.size w w1 [AQ (some ⟨pA, 0, none⟩) len len (List.replicate len (0, 0))] := by
  obtain ⟨w1, h1, h2⟩ := aq_make (Own.St.start w) .i64 .i64 len (by omega)
  exact ⟨w1, _, h1, h2⟩
 obtain ⟨w2, bM, hmm, hst2⟩ : ∃ w2 bM, (Instr.makeMap 173 none).run Tryz.prog w1 = .ok (.map (some bM)) w2 /\ Own.St w.heap.size w w2 [AG bM 0 (fun _ => .slice none 0 0) (fun _ => []), AQ (some ⟨pA, 0, none⟩) len len (List.replicate len (0, 0))] :=
  ⟨_, _, rfl, ag_made hst1⟩
 have HS1 := Lib.hid hst2
 clear hst1 hst2
 have P1 := Lib.hid (fun (i : Nat) (h : i + 3 <= len) wx => hasHead_any ao len cap (i : Int) true (decide_eq_true (by omega)) wx (by omega) (by omega))
 have P0 := Lib.hid (fun (i : Nat) (hi : i < len) (h : ¬ i + 3 <= len) wx => hasHead_any ao len cap (i : Int) false (decide_eq_false (by omega)) wx (by omega) (by omega))
 have CH : Hid (∀ wx j, Below w.heap.size w wx -> j + 3 <= len -> Calls Tryz.prog 101 #[.slice ao len cap, .int .i64 (j : Int)] wx fun e w' => e = .returned (hdV (by' l j) (by' l (j + 1)) (by' l (j + 2))) /\ Below wx.heap.size wx w') :=
  fun wx j hwx hj => headAt_any ao len cap l j wx (HG.out.later hwx) hb hj
 go_enter Tryz.func72, Tryz.ntmps72
 go_wp2
 clear hmk hmm
 go_loopw [13] (fun v13 wr => ∃ (i n : Nat) (g : Lit -> Value) (f : Lit -> List Nat), i <= len /\ n <= i /\ v13 = .int .i64 (i : Int) /\ FI l i f /\ Own.St w.heap.size w wr [AG bM n g f, AQ (some ⟨pA, 0, none⟩) len len (upto l len i)]) (fun v13 _ => len - (intOf v13).toNat)
 case atStart => exact ⟨0, 0, _, _, Nat.zero_le _, Nat.le_refl _, rfl, FI.zero l, by rw [upto_zero]; exact HS1.out⟩
 case round =>
  obtain ⟨i, n, g, f, hil, hni, rfl, hfi, H⟩ := hrel
  have H := Lib.hid H
  have HFI := Lib.hid hfi
  clear HS1 hfi
  by_cases hi : i < len
  · by_cases h3 : i + 3 <= len
    · have Q1 := Lib.hid (P1.out i h3)
      have K1 := Lib.hid (CH.out wr i H.out.below h3)
      clear P1 P0
      go_wp2_with (refine (Q1.out _).mono ?_; clear Q1; rintro e w' ⟨rfl, rfl⟩)
      refine K1.out.mono ?_
      clear K1
      rintro e w3 ⟨rfl, h3'⟩
      have H3 := Lib.hid (H.out.later h3')
      clear h3' H
      obtain ⟨kl, hkl⟩ : ∃ kl, kl = hdL (by' l i) (by' l (i + 1)) (by' l (i + 2)) := ⟨_, rfl⟩
      have HKL := Lib.hid hkl
      have hW : Calls Tryz.prog 100 #[g kl, .int .i64 (i : Int)] w3 fun e w' => ∃ v', e = .returned v' /\ w3 = w' /\ Slc w3 v' (near l i) /\ v'.ownBlock = (g kl).ownBlock := by
       obtain ⟨q1, q2⟩ := HFI.out.few (by' l i) (by' l (i + 1)) (by' l (i + 2))
       rw [<- hkl] at q1 q2
       have h := within_any (g kl) (f kl) i w3 (ag_slc H3.out 0 rfl kl) (by omega) (fun k hk => by have := q2 k hk; omega) (by omega)
       have e := HFI.out.nearby
       rw [<- hkl] at e
       rw [e] at h
       exact h
      have HW := Lib.hid hW
      clear hW hkl
      go_wp2_with (refine wpList_val rfl (look_op H3.out 0 rfl _ _ _ rfl _ rfl rfl) ?_; rw [<- HKL.out])
      refine HW.out.mono ?_
      clear HW
      rintro e w4 ⟨v', rfl, rfl, hs, hvb⟩
      have HVB := Lib.hid hvb
      have HSL := Lib.hid hs
      clear hvb hs
      have HCH := Lib.hid (choose_in H3.out.below HG.out i v' hb h3 HSL.out)
      obtain ⟨d, x, hdx⟩ : ∃ d x, longest l i = (d, x) := ⟨_, _, rfl⟩
      rw [hdx] at HCH
      have HDX := Lib.hid hdx
      clear hdx
      go_wp2_with (fail)
      refine HCH.out.mono ?_
      clear HCH
      rintro e w5 ⟨rfl, h5⟩
      have H5 := Lib.hid (H3.out.later h5)
      have HSL5 := Lib.hid (HSL.out.later h5)
      clear h5 H3 HSL
      obtain ⟨⟨u0, c0⟩, ⟨u1, c1⟩, f0, f1, hput⟩ := aq_put H5.out 1 0 (by decide) rfl rfl i hi
      obtain ⟨hp1, hp2⟩ := hput d x
      have H6 := Lib.hid hp1
      have HSL6 := Lib.hid (hp2 v' _ kl HSL5.out HVB.out)
      clear hput hp1 hp2 H5 HSL5
      go_wp2_with (fail)
      obtain ⟨w6, hw6⟩ : ∃ w6, w6 = (w5.setCell ⟨pA, i * 2, none⟩ (.int .i64 (d : Int))).setCell ⟨pA, i * 2 + 1, none⟩ (.int .i64 (x : Int)) := ⟨_, rfl⟩
      rw [<- hw6] at H6 HSL6 ⊢
      clear hw6 c0 c1 f0 f1 u0 u1
      refine (CH.out w6 i H6.out.below h3).mono ?_
      rintro e w7 ⟨rfl, h7⟩
      have H7 := H6.out.later h7
      have HSL7 := HSL6.out.later h7
      rw [List.set_cons_succ, List.set_cons_zero, <- HDX.out, upto_set l len i hi] at H7
      clear h7 H6 HSL6
      obtain ⟨v2, w8, hr1, w9, g', hr2, hst9⟩ := ag_push (H7.alloc (.cells #[.int .i64 (i : Int)] 3)) 0 rfl (by' l i) (by' l (i + 1)) (by' l (i + 2)) 23 v' (near l i)
       (HSL7.later ((Below.refl _ _).alloc (Nat.le_refl _) _)) (by rw [HVB.out, HKL.out]) (by omega) i ⟨w7.heap.size, 0, none⟩ (by simp [nv]) rfl (by have := near_len l i; omega)
      have HR1 := Lib.hid hr1
      have H9 := Lib.hid hst9
      have HFN := Lib.hid HFI.out.next
      clear hr1 hst9 H7 HSL7
      go_wp2_with (at_builtin; refine wpList_app rfl (.tmp 38) (.tmp 40) rfl v' ⟨w7.heap.size, 0, none⟩ rfl rfl v2 w8 HR1.out ?_)
      go_roundw
      case rel => exact ⟨i + 1, n + 1, g', _, by omega, by omega, by go_num, HFN.out, H9.out⟩
      case measure => simp [intOf]; omega
    · have Q0 := Lib.hid (P0.out i hi h3)
      obtain ⟨T, hrow, hst⟩ := row_out H.out 1 rfl
      rw [upto_end l len i HL.out hil (by omega)] at hrow
      have HR := Lib.hid hrow
      have HS := Lib.hid hst
      clear hrow hst H P0 P1
      go_wp2_with (refine (Q0.out _).mono ?_; clear Q0; rintro e w' ⟨rfl, rfl⟩)
      go_ret
      exact ⟨_, _, T, rfl, HR.out, HS.out⟩
  · obtain ⟨T, hrow, hst⟩ := row_out H.out 1 rfl
    rw [upto_end l len i HL.out hil (by omega)] at hrow
    have HR := Lib.hid hrow
    have HS := Lib.hid hst
    clear hrow hst H P0 P1
    go_wp2
    go_ret
    exact ⟨_, _, T, rfl, HR.out, HS.out⟩
end Mat
end Go.Proofs.YtahjjcmeocibbaaGreatDoor
end
section
namespace Go.Proofs.YtahjjcmeocibbaaGreatDoor
open Go.RowKit Go.Own
namespace Lz
open Go.MatM Go.LzM Byt
open Mat (AQ aq_at aq_len alls)
set_option maxHeartbeats 1000000 in
theorem isLit_st {B : Nat} {w0 w : World} {Ps : List Asn} {ao : Option Addr} {n cap : Nat} {ps : List (Nat × Nat)} (H : Own.St B w0 w Ps) (i : Nat) (hi : Ps[i]? = some (AQ ao n cap ps)) (j : Nat) (hj : j < n) (hn : n <= 1000000000) (m x : Nat) (hm : (ps.getD j (0, 0)).2 = m) (hx : (ps.getD (j + 1) (0, 0)).2 = x) (hx0 : ¬ j + 1 < n -> x = 0) :
 Calls Tryz.prog 73 #[.slice ao n cap, .int .i64 (j : Int)] w fun e w' => e = .returned (.bool (decide (m = 0 \/ m < x))) /\ w = w' := by
 obtain ⟨g, rfl, _, hc⟩ := aq_at H i hi j hj
 rw [hm, Nat.mul_comm] at hc
 by_cases hj1 : j + 1 < n
 · obtain ⟨g', hg', _, hc2⟩ := aq_at H i hi (j + 1) hj1
   cases hg'
   rw [hx, Nat.mul_comm] at hc2
   obtain ⟨j1, hj1d⟩ : ∃ j1, j1 = j + 1 := ⟨_, rfl⟩
   rw [<- hj1d] at hc2 hj1
   have e1 : (j : Int) + 1 = (j1 : Int) := by omega
   clear hi H hm hx hx0 hj1d
   by_cases h0 : m = 0
   · have hv : decide (m = 0 \/ m < x) = true := by simp [h0]
     have hg0 : ((m : Int) == 0) = true := by simp [h0]
     rw [hv]
     clear hv h0
     go_enter Tryz.func73, Tryz.ntmps73
     go_wp2
     go_ret
     exact ⟨rfl, rfl⟩
   · have hv : decide (m = 0 \/ m < x) = decide (m < x) := by simp [h0]
     have hg0 : ((m : Int) == 0) = false := by simp [h0]
     rw [hv]
     clear hv
     go_enter Tryz.func73, Tryz.ntmps73
     go_wp2
     go_ret
     exact ⟨rfl, rfl⟩
 · obtain rfl := hx0 hj1
   have e1 : ¬ ((j : Int) + 1 < (n : Int)) := by omega
   clear hi H hm hx hx0
   by_cases h0 : m = 0
   · have hv : decide (m = 0 \/ m < 0) = true := by simp [h0]
     have hg0 : ((m : Int) == 0) = true := by simp [h0]
     rw [hv]
     clear hv h0
     go_enter Tryz.func73, Tryz.ntmps73
     go_wp2
     go_ret
     exact ⟨rfl, rfl⟩
   · have hv : decide (m = 0 \/ m < 0) = false := by simp [h0]
     have hg0 : ((m : Int) == 0) = false := by simp [h0]
     have hz : ¬ (m : Int) < 0 := by omega
     rw [hv]
     clear hv
     go_enter Tryz.func73, Tryz.ntmps73
     go_wp2
     go_ret
     exact ⟨by simp, rfl⟩
theorem all_st' {B : Nat} {w0 w w' : World} {Ps : List Asn} {l : Bs} {len : Nat} {e : Ending} (H : Own.St B w0 w Ps) (h : Mat.AllDone l len w e w') : ∃ ao cap, e = .returned (.slice ao len cap) /\ Own.St B w0 w' (AQ ao len cap (alls l) :: Ps) := by
 obtain ⟨ao, cap, T, he, hr, hs⟩ := h
 exact ⟨ao, cap, he, H.new (AQ ao len cap (alls l)) hr hs⟩
theorem alls_next (b : Bs) (i : Nat) : (alls b).getD i (0, 0) = longest b i := by
 unfold Mat.alls
 by_cases h : i < b.length
 · simp [h]
 · rw [longest_out b i (by omega)]; simp [List.getD, h]
set_option maxHeartbeats 8000000 in
theorem encode_any (ao : Option Addr) (n cap : Nat) (b : Bs) (w : World) (hg : Given w ao n cap b) (hb : n <= 1000000) :
 Calls Tryz.prog 34 #[.slice ao n cap] w fun e w' => ∃ v, e = .returned v /\ Reads (enc b) w v w' := by
 have HG := Lib.hid hg
 have HN := Lib.hid hg.size
 have CA := Lib.hid (Mat.all_any ao n cap b w hg hb)
 clear hg
 have H0 := Lib.hid (ab_nil (Own.St.start w))
 go_enter Tryz.func34, Tryz.ntmps34
 go_wp2_with (fail)
 refine CA.out.mono ?_
 intro e w1 h1
 obtain ⟨aq, cq, rfl, k1⟩ := all_st' H0.out h1
 have H1 := Lib.hid k1.swap2
 clear k1 h1 H0 CA
 go_wp2
 go_loopw [3, 5, 6] (fun v3 v5 v6 wr => ∃ (i fr : Nat) (done : Bs) (ax : Option Addr) (k cx : Nat), v6 = .int .i64 (i : Int) /\ v5 = .int .i64 (fr : Int) /\ v3 = .slice ax k cx /\ fr <= i /\ i <= n /\ Own.St w.heap.size w wr [AB ax k cx done, AQ aq n cq (alls b)] /\ done ++ encF (b.length - i) b fr i = enc b) (fun _ _ v6 _ => n - (intOf v6).toNat)
 case atStart => exact ⟨0, 0, [], none, 0, 0, rfl, rfl, rfl, Nat.le_refl _, Nat.zero_le _, H1.out, rfl⟩
 case round =>
  obtain ⟨i, fr, done, ax, k, cx, rfl, rfl, rfl, hfi, hin, H, E⟩ := hrel
  have H := Lib.hid H
  have E := Lib.hid E
  clear H1
  have hkb : k <= 2 * n := by
   have h1 := congrArg List.length E.out
   have h2 := enc_len b
   have h3 := (ab_len H.out 0 rfl).1
   rw [List.length_append] at h1
   rw [HN.out] at h2
   omega
  by_cases hi : (i : Int) < (n : Int)
  · obtain ⟨d, m, hdm⟩ : ∃ d m, longest b i = (d, m) := ⟨_, _, rfl⟩
    obtain ⟨d2, m2, hdm2⟩ : ∃ d m, longest b (i + 1) = (d, m) := ⟨_, _, rfl⟩
    have CI := Lib.hid (isLit_st H.out 1 rfl i (by omega) (by omega) m m2 (by rw [alls_next, hdm]) (by rw [alls_next, hdm2]) (fun h => by have e := longest_out b (i + 1) (by rw [HN.out]; omega); rw [hdm2] at e; exact congrArg Prod.snd e))
    by_cases hlit : m = 0 \/ m < m2
    · have HLIT : Hid (encF (b.length - i) b fr i = encF (b.length - (i + 1)) b fr (i + 1)) := enc_lit b fr i (by rw [HN.out]; omega) (by rw [hdm, hdm2]; exact hlit)
      rw [decide_eq_true hlit] at CI
      clear hdm hdm2 hlit
      go_wp2_with (fail)
      refine CI.out.mono ?_
      clear CI
      rintro e w1 ⟨rfl, rfl⟩
      go_wp2_with (fail)
      go_roundw
      case rel => exact ⟨i + 1, fr, done, ax, k, cx, by go_num, rfl, rfl, by omega, by omega, H.out, by rw [<- HLIT.out]; exact E.out⟩
      case measure => simp [intOf]; omega
    · rw [decide_eq_false hlit] at CI
      obtain ⟨a1, a2, a3, a4, a5, a6, _, _⟩ := longest_runs b i d m hdm (by omega)
      have HM := Lib.hid (enc_match b fr i (by rw [HN.out]; omega) (by rw [hdm, hdm2]; exact hlit))
      rw [hdm] at HM
      obtain ⟨g, rfl, hq1, hq2⟩ := aq_at H.out 1 rfl i (by omega)
      rw [alls_next, hdm, Nat.mul_comm] at hq1 hq2
      obtain ⟨c1, hc1⟩ : ∃ c, c = UInt8.ofNat (128 + m - 3) := ⟨_, rfl⟩
      obtain ⟨c2, hc2⟩ : ∃ c, c = UInt8.ofNat (d - 1) := ⟨_, rfl⟩
      have hv1 : c1.toNat = 128 + m - 3 := by rw [hc1, ofNat_toNat _ (by omega)]
      have hv2 : c2.toNat = d - 1 := by rw [hc2, ofNat_toNat _ (by omega)]
      have hs1 : (m : Int) - 3 + 128 = (c1.toNat : Int) := by omega
      have hs2 : (d : Int) - 1 = (c2.toNat : Int) := by omega
      have hb1 : c1.toNat <= 255 := by omega
      have hb2 : c2.toNat <= 255 := by omega
      have him : i + m <= n := by rw [HN.out] at a6; exact a6
      have hm3 : 3 <= m := a4
      obtain ⟨q, hq⟩ : ∃ q, q = i - fr := ⟨_, rfl⟩
      obtain ⟨am, cm, hCM1, hCM2⟩ := cutMid (ao := ao) (l := b) (m := n) (cap := cap) fr i HN.out hfi hin HG.out.room.1 HG.out.room.2 HG.out.nil
      rw [<- hq] at hCM1 hCM2
      obtain ⟨pt, hpt⟩ : ∃ pt, pt = (b.take i).drop fr := ⟨_, rfl⟩
      rw [<- hpt] at hCM2
      obtain ⟨pl, hpl⟩ : ∃ pl, pl = plain pt := ⟨_, rfl⟩
      obtain ⟨enx, henx⟩ : ∃ x, x = encF (b.length - (i + m)) b (i + m) (i + m) := ⟨_, rfl⟩
      have HE : Hid (enc b = done ++ (pl ++ (c1 :: c2 :: enx))) := by
       show enc b = done ++ (pl ++ (c1 :: c2 :: enx))
       rw [<- E.out, HM.out, hpl, hc1, hc2, henx, hpt]
      have HL : Hid (k + pl.length + 2 <= 2 * n) := by
       show k + pl.length + 2 <= 2 * n
       have h1 := congrArg List.length HE.out
       have h2 := enc_len b
       have h3 := (ab_len H.out 0 rfl).1
       rw [HN.out] at h2
       simp only [List.length_append, List.length_cons] at h1
       omega
      have C3 : Hid (∀ nq, Calls Tryz.prog 74 #[.slice ax k cx, .slice am q cm] (wr.drewN nq) fun e w' => ∃ a' c' kk, kk = k + pl.length /\ e = .returned (.slice a' kk c') /\ Own.St w.heap.size w w' [AB a' kk c' (done ++ pl), AQ (some ⟨g, 0, none⟩) n cq (alls b)]) := by
       intro nq
       have hst := H.out.drewN nq
       have hv := hCM2.view _ _ (View.below (View.below HG.out.view H.out.below) (w' := wr.drewN nq) ⟨rfl, rfl, rfl, Nat.le_refl _, fun _ _ => rfl⟩)
       refine (putLits_st hst (by intro P hP; simp only [List.mem_singleton] at hP; subst hP; exact ARow.cellish _ _ _ _ _) hv hCM2.len hCM2.cap.1 hCM2.cap.2 (by omega)).mono ?_
       rintro e w' ⟨a', c', he, hs⟩
       rw [<- hpl] at he hs
       exact ⟨a', c', _, rfl, he, hs⟩
      have CM1 := Lib.hid hCM1
      have HENX := Lib.hid henx
      clear hdm hdm2 hlit hc1 hc2 hv1 hv2 hpl hpt henx hCM1 hCM2 HM hq a1 a2 a3 a4 a5 a6
      go_wp2_with (fail)
      refine CI.out.mono ?_
      clear CI
      rintro e w1 ⟨rfl, rfl⟩
      go_wp2_with (fail)
      go_quiet (fail)
      clear hq1 hq2
      go_wp2_with (refine Byt.wpList_val rfl (CM1.out _ (.tmp 31) (.tmp 32) (.tmp 33) rfl _ _ rfl rfl rfl) ?_)
      refine (C3.out nq).mono ?_
      clear C3
      rintro e w3 ⟨ap, cp, kk, hkk, rfl, h3⟩
      have H3 := Lib.hid h3
      have hkb3 : kk + 2 <= 2 * n := by have := HL.out; omega
      have HKK := Lib.hid hkk
      clear h3 hkk H
      go_wp2_with (at_builtin; refine Byt.wpList_ab_append rfl (.tmp 36) (.tmp 44) rfl (H3.out.alloc (.cells #[.int .u8 (c1.toNat : Int), .int .u8 (c2.toNat : Int)] 5)) 0 rfl rfl (some ⟨w3.heap.size, 0, none⟩) 2 2 [c1, c2] rfl (by intro h; cases h) rfl (two_cells w3 c1 c2 _) (by omega) ?_; intro a5 c5 w5 h5; simp only [List.set_cons_zero] at h5; have H5 := Lib.hid h5; clear h5)
      go_roundw
      case rel =>
       refine ⟨i + m, i + m, done ++ pl ++ [c1, c2], a5, kk + 2, c5, by go_num, by go_num, rfl, Nat.le_refl _, him, H5.out, ?_⟩
       rw [HE.out, HENX.out]
       simp
      case measure => simp [intOf]; omega
  · have hin2 : i = n := by omega
    have HM : Hid (enc b = done ++ plain (b.drop fr)) := by
     show enc b = done ++ plain (b.drop fr)
     rw [<- E.out, enc_end b fr i (by rw [HN.out]; omega)]
    obtain ⟨q, hq⟩ : ∃ q, q = n - fr := ⟨_, rfl⟩
    obtain ⟨am, cm, hCM1, hCM2⟩ := cutFrom (ao := ao) (l := b) (m := n) (cap := cap) fr HN.out (by omega) HG.out.room.1 HG.out.room.2 HG.out.nil
    rw [<- hq] at hCM1 hCM2
    obtain ⟨pl, hpl⟩ : ∃ pl, pl = plain (b.drop fr) := ⟨_, rfl⟩
    rw [<- hpl] at HM
    have C3 : Hid (Calls Tryz.prog 74 #[.slice ax k cx, .slice am q cm] wr fun e w' => ∃ a' c', e = .returned (.slice a' (k + pl.length) c') /\ Own.St w.heap.size w w' [AB a' (k + pl.length) c' (done ++ pl), AQ aq n cq (alls b)]) := by
     have hv := hCM2.view _ _ (View.below HG.out.view H.out.below)
     have h := putLits_st H.out (by intro P hP; simp only [List.mem_singleton] at hP; subst hP; exact ARow.cellish _ _ _ _ _) hv hCM2.len hCM2.cap.1 hCM2.cap.2 (by omega)
     rw [<- hpl] at h
     exact h
    have CM1 := Lib.hid hCM1
    clear hpl hCM1 hCM2 hq hin2
    go_wp2_with (refine Byt.wpList_val rfl (CM1.out _ (.tmp 51) (.tmp 52) rfl _ _ rfl rfl) ?_)
    refine C3.out.mono ?_
    clear C3
    rintro e w3 ⟨ap, cp, rfl, h3⟩
    have H3 := Lib.hid h3
    clear h3
    go_wp2_with (fail)
    go_ret
    have hk := (ab_len H3.out 0 rfl).1
    have h3 := H3.out
    rw [<- HM.out] at hk h3
    rw [<- hk] at h3 ⊢
    exact ⟨_, rfl, ap, cp, rfl, given_own h3 0 rfl, h3.below⟩
end Lz
end Go.Proofs.YtahjjcmeocibbaaGreatDoor
end
section
namespace Go.Proofs.YtahjjcmeocibbaaGreatDoor
open Go.RowKit Go.Own
namespace Lz
open Go.MatM Go.LzM Byt
set_option maxRecDepth 10000 in
set_option maxHeartbeats 16000000 in
theorem decode_any (ao : Option Addr) (n cap : Nat) (p : Bs) (M : Nat) (w : World) (hg : Given w ao n cap p) (hb : n <= 1000000) (hM : M <= 9223372036854775807) :
 Calls Tryz.prog 46 #[.slice ao n cap, .int .i64 (M : Int)] w (UnDone (dec M p []) w) := by
 have HG := Lib.hid hg
 obtain ⟨X, hX⟩ : ∃ X, X = dec M p [] := ⟨_, rfl⟩
 rw [<- hX]
 have HX := Lib.hid hX
 have H0 := Lib.hid (ab_nil (Own.St.start w))
 clear hg hX
 go_enter Tryz.func46, Tryz.ntmps46
 go_wp2
 go_loopw [0, 6] (fun v0 v6 wr => ∃ (rest out : Bs) (ar ax : Option Addr) (m cr k cx : Nat), v0 = .slice ar m cr /\ v6 = .slice ax k cx /\ Given w ar m cr rest /\ m <= n /\ k <= M /\ k + 130 * m <= 130 * n /\ Own.St w.heap.size w wr [AB ax k cx out] /\ X = dec M rest out) (fun v0 _ _ => lenV v0)
 case atStart => exact ⟨p, [], ao, none, n, cap, 0, 0, rfl, rfl, HG.out, Nat.le_refl _, Nat.zero_le _, by omega, H0.out, HX.out⟩
 case round =>
  obtain ⟨rest, out, ar, ax, m, cr, k, cx, rfl, rfl, G, hmn, hkM, hkb, H, E⟩ := hrel
  have G := Lib.hid G
  have H := Lib.hid H
  have E := Lib.hid E
  have HKL := Lib.hid (ab_len H.out 0 rfl).1
  have HRL := Lib.hid G.out.size
  clear H0 HG HX
  by_cases hm0 : m = 0
  · have HR : Hid (X = (out, 0)) := by
     show X = (out, 0)
     rw [E.out, List.eq_nil_of_length_eq_zero (show rest.length = 0 by rw [HRL.out]; exact hm0), dec_nil]
    subst hm0
    go_wp2
    go_ret2
    rw [HR.out]
    refine ⟨_, rfl, ax, cx, by rw [HKL.out]; rfl, ?_, H.out.below⟩
    rw [HKL.out]
    exact given_own H.out 0 rfl
  · obtain ⟨c, hc⟩ : ∃ c, c = rest.getD 0 0 := ⟨_, rfl⟩
    obtain ⟨d, hd⟩ : ∃ d, d = rest.getD 1 0 := ⟨_, rfl⟩
    have GR := Lib.hid (G.out.later H.out.below)
    have CF := first_any ar m cr rest wr GR.out (by omega) (by omega) c d hc.symm hd.symm
    have hmpos : 0 < m := by omega
    have hc8 : c.toNat <= 255 := by have := c.toNat_lt; omega
    have hd8 : d.toNat <= 255 := by have := d.toNat_lt; omega
    obtain ⟨sp, hsp⟩ : ∃ x, x = M - k := ⟨_, rfl⟩
    have e2 : (M : Int) - (k : Int) = (sp : Int) := by omega
    have HSP := Lib.hid hsp
    clear hsp
    unfold itemR at CF
    by_cases hlit : c.toNat < 128
    · rw [if_pos hlit] at CF
      obtain ⟨q, hq⟩ : ∃ q, c.toNat + 2 = q := ⟨_, rfl⟩
      obtain ⟨r, hr⟩ : ∃ r, c.toNat + 1 = r := ⟨_, rfl⟩
      rw [hq, hr] at CF
      by_cases hmq : m < q
      · rw [if_pos hmq] at CF
        have HX2 : Hid (X = ([], 60)) := by
         show X = ([], 60)
         have h := dec_lit_long M rest out 0 (by rw [HRL.out]; omega) c hc.symm hlit (by rw [HRL.out]; omega)
         rw [List.drop_zero] at h
         rw [E.out, h]
        unfold itemV at CF
        have CF := Lib.hid CF
        clear hc hd hlit hq hr hmq
        go_wp2_with (fail)
        refine CF.out.mono ?_
        clear CF
        rintro e w1 ⟨rfl, h1⟩
        have H1 := Lib.hid (H.out.later h1)
        clear h1
        go_wp2
        go_ret2
        exact un_err X 60 HX2.out (H1.out.alloc _).below
      rw [if_neg hmq] at CF
      by_cases hrs : sp < r
      · have HX2 : Hid (X = ([], 4)) := by
         show X = ([], 4)
         have h := dec_lit_most M rest out 0 (by rw [HRL.out]; omega) c hc.symm hlit (by rw [HRL.out]; omega) (by rw [HKL.out]; have := HSP.out; omega)
         rw [List.drop_zero] at h
         rw [E.out, h]
        unfold itemV at CF
        have CF := Lib.hid CF
        clear hc hd hlit hq hr hmq
        go_wp2_with (fail)
        refine CF.out.mono ?_
        clear CF
        rintro e w1 ⟨rfl, h1⟩
        have H1 := Lib.hid (H.out.later h1)
        clear h1
        go_wp2
        go_ret2
        exact un_err X 4 HX2.out (H1.out.alloc _).below
      have HX2 : Hid (X = dec M (rest.drop q) (out ++ (rest.take q).drop 1)) := by
       show X = dec M (rest.drop q) (out ++ (rest.take q).drop 1)
       have h := dec_lit_ok M rest out 0 (by rw [HRL.out]; omega) c hc.symm hlit (by rw [HRL.out]; omega) (by rw [HKL.out]; have := HSP.out; omega)
       rw [List.drop_zero, show 0 + 1 + (c.toNat + 1) = q by omega] at h
       rw [E.out, h]
      have HQ1 := Lib.hid (show q - 1 = r by omega)
      have CPB : Hid (∀ wx Q, Own.St w.heap.size w wx [AB ax k cx out, Q] -> Calls Tryz.prog 84 #[.slice ax k cx, itemV 2 q r 0, .slice ar m cr] wx fun e w' => ∃ a' c', e = .returned (.slice a' (k + r) c') /\ Own.St w.heap.size w w' [AB a' (k + r) c' (out ++ (rest.take q).drop 1), Q]) := by
       intro wx Q hx
       have h := putB_lit hx (View.below G.out.view hx.below) HRL.out G.out.room.1 G.out.room.2 G.out.nil q r (by omega) (by omega) (by omega)
       rw [HQ1.out] at h
       exact h
      obtain ⟨a2, c2, hF1, hF2⟩ := cutFrom (ao := ar) (l := rest) (m := m) (cap := cr) q HRL.out (by omega) G.out.room.1 G.out.room.2 G.out.nil
      have CT := Lib.hid hF1
      have CT2 := Lib.hid hF2
      unfold itemV at CF CPB
      have CF := Lib.hid CF
      have hkr : k + r <= M := by have := HSP.out; omega
      have hkr2 : k + r + 130 * (m - q) <= 130 * n := by omega
      have hq0 : 0 < q := by omega
      have hqm : q <= m := by omega
      clear hc hd hlit hq hr hmq hF1 hF2
      go_wp2_with (fail)
      refine CF.out.mono ?_
      clear CF
      rintro e w1 ⟨rfl, h1⟩
      have H1 := Lib.hid (H.out.later h1)
      clear h1
      have CPB1 := Lib.hid (CPB.out _ _ (H1.out.boxV 156 [.int .i64 2, .int .i64 (q : Int), .int .i64 (r : Int), .int .i64 0]).swap2)
      go_wp2_with (fail)
      refine CPB1.out.mono ?_
      clear CPB1 CPB
      rintro e w2 ⟨a4, c4, rfl, h2⟩
      have hcl := (h2.cellV 1 rfl 1 rfl).1
      have H2 := Lib.hid (h2.perm (List.Perm.swap _ _ _))
      clear h2
      go_wp2_with (refine Byt.wpList_val rfl (CT.out _ (.tmp 37) (.tmp 39) rfl _ _ rfl rfl) ?_)
      go_roundw
      case rel => exact ⟨rest.drop q, _, a2, a4, m - q, c2, k + r, c4, rfl, rfl, ⟨CT2.out.view _ _ G.out.view, CT2.out.len, CT2.out.cap, CT2.out.none⟩, by omega, hkr, hkr2, H2.out.drop 1, HX2.out⟩
      case measure => simp only [lenV]; omega
    · rw [if_neg hlit] at CF
      by_cases hm2 : m < 2
      · rw [if_pos hm2] at CF
        have HX2 : Hid (X = ([], 60)) := by
         show X = ([], 60)
         have h := dec_ref_end M rest out 0 (by rw [HRL.out]; omega) c hc.symm hlit
         rw [List.drop_zero] at h
         rw [E.out, h]
        unfold itemV at CF
        have CF := Lib.hid CF
        clear hc hd hlit hm2
        go_wp2_with (fail)
        refine CF.out.mono ?_
        clear CF
        rintro e w1 ⟨rfl, h1⟩
        have H1 := Lib.hid (H.out.later h1)
        clear h1
        go_wp2
        go_ret2
        exact un_err X 60 HX2.out (H1.out.alloc _).below
      rw [if_neg hm2] at CF
      obtain ⟨r, hr⟩ : ∃ r, c.toNat - 125 = r := ⟨_, rfl⟩
      obtain ⟨D, hD⟩ : ∃ D, d.toNat + 1 = D := ⟨_, rfl⟩
      have HR0 : Hid (X = if k < D then ([], 60) else if M < k + r then ([], 4) else dec M (rest.drop 2) (copyN out D r)) := by
       show X = _
       have h := dec_ref M rest out 0 (by rw [HRL.out]; omega) c d hc.symm hd.symm hlit
       rw [List.drop_zero, HKL.out, hr, hD] at h
       rw [E.out, h]
      rw [hr, hD] at CF
      unfold itemV at CF
      have CF := Lib.hid CF
      have hrb : r <= 130 := by omega
      have hr1 : 1 <= r := by omega
      have hDb : D <= 256 := by omega
      have hD1 : 1 <= D := by omega
      by_cases hkD : k < D
      · have HX2 : Hid (X = ([], 60)) := by
         show X = ([], 60)
         rw [HR0.out, if_pos hkD]
        clear hc hd hlit hm2 hr hD
        go_wp2_with (fail)
        refine CF.out.mono ?_
        clear CF
        rintro e w1 ⟨rfl, h1⟩
        have H1 := Lib.hid (H.out.later h1)
        clear h1
        go_wp2
        go_ret2
        exact un_err X 60 HX2.out (H1.out.alloc _).below
      by_cases hrs : sp < r
      · have HX2 : Hid (X = ([], 4)) := by
         show X = ([], 4)
         rw [HR0.out, if_neg hkD, if_pos (by have := HSP.out; omega)]
        clear hc hd hlit hm2 hr hD
        go_wp2_with (fail)
        refine CF.out.mono ?_
        clear CF
        rintro e w1 ⟨rfl, h1⟩
        have H1 := Lib.hid (H.out.later h1)
        clear h1
        go_wp2
        go_ret2
        exact un_err X 4 HX2.out (H1.out.alloc _).below
      have HX2 : Hid (X = dec M (rest.drop 2) (copyN out D r)) := by
       show X = _
       rw [HR0.out, if_neg hkD, if_neg (by have := HSP.out; omega)]
      have CPB : Hid (∀ wx Q, Own.St w.heap.size w wx [AB ax k cx out, Q] -> Calls Tryz.prog 84 #[.slice ax k cx, itemV 1 2 r D, .slice ar m cr] wx fun e w' => ∃ a' c', e = .returned (.slice a' (k + r) c') /\ Own.St w.heap.size w w' [AB a' (k + r) c' (copyN out D r), Q]) := by
       intro wx Q hx
       exact putB_ref hx D r hD1 (by omega) (by omega)
      obtain ⟨a2, c2, hF1, hF2⟩ := cutFrom (ao := ar) (l := rest) (m := m) (cap := cr) 2 HRL.out (by omega) G.out.room.1 G.out.room.2 G.out.nil
      have CT := Lib.hid hF1
      have CT2 := Lib.hid hF2
      unfold itemV at CPB
      have hkr : k + r <= M := by have := HSP.out; omega
      have hkr2 : k + r + 130 * (m - 2) <= 130 * n := by omega
      have hm22 : 2 <= m := by omega
      clear hc hd hlit hr hD hm2 hF1 hF2
      go_wp2_with (fail)
      refine CF.out.mono ?_
      clear CF
      rintro e w1 ⟨rfl, h1⟩
      have H1 := Lib.hid (H.out.later h1)
      clear h1
      have CPB1 := Lib.hid (CPB.out _ _ (H1.out.boxV 156 [.int .i64 1, .int .i64 2, .int .i64 (r : Int), .int .i64 (D : Int)]).swap2)
      go_wp2_with (fail)
      refine CPB1.out.mono ?_
      clear CPB1 CPB
      rintro e w2 ⟨a4, c4, rfl, h2⟩
      have hcl := (h2.cellV 1 rfl 1 rfl).1
      have H2 := Lib.hid (h2.perm (List.Perm.swap _ _ _))
      clear h2
      go_wp2_with (refine Byt.wpList_val rfl (CT.out _ (.tmp 37) (.tmp 39) rfl _ _ rfl rfl) ?_)
      go_roundw
      case rel => exact ⟨rest.drop 2, _, a2, a4, m - 2, c2, k + r, c4, rfl, rfl, ⟨CT2.out.view _ _ G.out.view, CT2.out.len, CT2.out.cap, CT2.out.none⟩, by omega, hkr, hkr2, H2.out.drop 1, HX2.out⟩
      case measure => simp only [lenV]; omega
set_option maxHeartbeats 4000000 in
theorem unpack_any (ao : Option Addr) (n cap : Nat) (p : Bs) (most : Int) (w : World) (hg : Given w ao n cap p) (hb : n <= 1000000) (h0 : -9223372036854775808 <= most) (h1 : most <= 9223372036854775807) :
 Calls Tryz.prog 18 #[.slice ao n cap, .int .i64 most] w (UnDone (unpack p most.toNat) w) := by
 have HG := Lib.hid hg
 have HN := Lib.hid hg.size
 obtain ⟨M, hM⟩ : ∃ M, M = most.toNat := ⟨_, rfl⟩
 have hmax : max most 0 = (M : Int) := by omega
 have hMb : M <= 9223372036854775807 := by omega
 rw [<- hM]
 clear hg hM
 obtain ⟨X, hX⟩ : ∃ X, X = unpack p M := ⟨_, rfl⟩
 rw [<- hX]
 by_cases hn0 : n = 0
 · have HX : Hid (X = ([], 60)) := by
    show X = ([], 60)
    rw [hX, List.eq_nil_of_length_eq_zero (show p.length = 0 by rw [HN.out, hn0])]; rfl
   have hgo : ((n : Int) == 0) = true := by simp [hn0]
   clear hX hn0
   go_enter Tryz.func18, Tryz.ntmps18
   go_wp2
   go_ret2
   exact un_err X 60 HX.out (Below.refl _ _)
 have hgo : ((n : Int) == 0) = false := by simp [hn0]
 obtain ⟨n1, hn1⟩ : ∃ n1, n = n1 + 1 := ⟨n - 1, by omega⟩
 have hnpos : 0 < n := by omega
 obtain ⟨gb, go, hao, _, _, hc0⟩ := vat HG.out.view (k := 0) (by rw [HN.out]; omega)
 obtain ⟨c0, hcc⟩ : ∃ c, c = p.getD 0 0 := ⟨_, rfl⟩
 rw [<- hcc, Nat.add_zero] at hc0
 have hpc : p = c0 :: p.drop 1 := by
  have h := List.drop_eq_getElem_cons (l := p) (i := 0) (by rw [HN.out]; omega)
  rw [List.drop_zero] at h
  rw [hcc]
  simpa [List.getD, show 0 < p.length by rw [HN.out]; omega] using h
 have HC0 := Lib.hid hc0
 obtain ⟨a2, c2, hF1, hF2⟩ := cutFrom (ao := ao) (l := p) (m := n) (cap := cap) 1 HN.out (by omega) HG.out.room.1 HG.out.room.2 HG.out.nil
 rw [show n - 1 = n1 by omega] at hF1 hF2
 have CF := Lib.hid hF1
 have CF2 := Lib.hid hF2
 have G2 : Hid (Given w a2 n1 c2 (p.drop 1)) := ⟨CF2.out.view _ _ HG.out.view, CF2.out.len, CF2.out.cap, CF2.out.none⟩
 clear hF1 hF2
 by_cases hbig : (1 : Int) < (c0.toNat : Int)
 · have HX : Hid (X = ([], 60)) := by
    show X = ([], 60)
    rw [hX, hpc]
    unfold unpack
    simp only
    rw [if_pos (by omega)]
   clear hX hn0 hn1 hpc hcc HC0
   subst hao
   go_enter Tryz.func18, Tryz.ntmps18
   go_wp2
   go_ret2
   exact un_err X 60 HX.out (Below.refl _ _)
 by_cases hz : c0.toNat = 0
 · have hX0 : unpack p M = if M < (p.drop 1).length then ([], 4) else (p.drop 1, 0) := by
    rw [hpc]
    unfold unpack
    simp only
    rw [if_neg (by omega), if_pos hz]
    rfl
   have hl1 : (p.drop 1).length = n1 := by rw [List.length_drop, HN.out]; omega
   rw [hl1] at hX0
   have hgz : ((c0.toNat : Int) == 1) = false := by simp [hz]
   by_cases hlong : M < n1
   · have HX : Hid (X = ([], 4)) := by
      show X = ([], 4)
      rw [hX, hX0, if_pos hlong]
     clear hX hX0 hn0 hn1 hpc hcc HC0 hl1 hz
     subst hao
     go_enter Tryz.func18, Tryz.ntmps18
     go_wp2_with (refine Byt.wpList_val rfl (CF.out _ (.tmp 27) (.const (.int .i64 1)) rfl _ _ rfl rfl) ?_)
     go_ret2
     exact un_err X 4 HX.out (Below.refl _ _)
   · have HX : Hid (X = (p.drop 1, 0)) := by
      show X = (p.drop 1, 0)
      rw [hX, hX0, if_neg hlong]
     have CL := Cod.clone_any (fun k => k < w.heap.size) a2 (p.drop 1) c2 w G2.out.view (by rw [hl1]; omega)
     rw [hl1] at CL
     have CL := Lib.hid CL
     have HL1 := Lib.hid hl1
     clear hX hX0 hn0 hn1 hpc hcc HC0 hl1 hz
     subst hao
     go_enter Tryz.func18, Tryz.ntmps18
     go_wp2_with (first | (refine Byt.wpList_val rfl (CF.out _ (.tmp 27) (.const (.int .i64 1)) rfl _ _ rfl rfl) ?_) | (refine Byt.wpList_val rfl (CF.out _ (.tmp 32) (.const (.int .i64 1)) rfl _ _ rfl rfl) ?_))
     refine CL.out.mono ?_
     clear CL
     rintro e w1 ⟨a3, c3, T, he, hrow, hst⟩
     rw [HL1.out] at he hrow
     subst he
     have H1 := Lib.hid ((Own.St.start w).new (AB a3 n1 c3 (p.drop 1)) hrow hst)
     clear hrow hst
     go_wp2
     go_ret2
     rw [HX.out]
     exact ⟨_, rfl, a3, c3, by rw [HL1.out]; rfl, by rw [HL1.out]; exact given_own H1.out 0 rfl, H1.out.below⟩
 have hX1 : unpack p M = dec M (p.drop 1) [] := by
  have e : unpack (c0 :: p.drop 1) M = dec M (p.drop 1) [] := by
   unfold unpack
   simp only
   rw [if_neg (by omega), if_neg hz]
  rw [<- hpc] at e
  exact e
 have hgz : ((c0.toNat : Int) == 1) = true := by simp; omega
 have CD := decode_any a2 n1 c2 (p.drop 1) M w G2.out (by omega) hMb
 rw [<- hX1, <- hX] at CD
 have CD := Lib.hid CD
 clear hX hX1 hn0 hpc hcc hz hn1
 subst hao
 go_enter Tryz.func18, Tryz.ntmps18
 go_wp2_with (refine Byt.wpList_val rfl (CF.out _ (.tmp 21) (.const (.int .i64 1)) rfl _ _ rfl rfl) ?_)
 refine CD.out.mono ?_
 clear CD
 rintro e w1 ⟨v, rfl, hr⟩
 have HR := Lib.hid hr
 clear hr
 go_wp2
 go_ret2
 exact ⟨v, rfl, HR.out⟩
theorem kept (W : World) : Kept W where
 unpack ao n cap p most w _ hg hn h0 h1 := unpack_any ao n cap p most w hg (by omega) h0 h1
end Lz
end Go.Proofs.YtahjjcmeocibbaaGreatDoor
end
section
namespace Go.Proofs.YtahjjcmeocibbaaGreatDoor
open Go.RowKit Go.Own
namespace Lz
open Go.MatM Go.LzM Byt
theorem pack_own (ao : Option Addr) (n cap : Nat) (b : Bs) (w : World) (hg : Given w ao n cap b) (hb : n <= 1000000) :
 Calls Tryz.prog 12 #[.slice ao n cap] w fun e w' => ∃ a c, e = .returned (.slice a (pack b).length c) /\ Own.St w.heap.size w w' [AB a (pack b).length c (pack b)] := by
 have HG := Lib.hid hg
 have HN := Lib.hid hg.size
 have C1 := Lib.hid (encode_any ao n cap b w hg hb)
 clear hg
 go_enter Tryz.func12, Tryz.ntmps12
 go_wp2_with (fail)
 refine C1.out.mono ?_
 rintro e w1 ⟨v, rfl, a1, c1, rfl, gs, h1⟩
 obtain ⟨k, hk⟩ : ∃ k, k = (enc b).length := ⟨_, rfl⟩
 rw [<- hk] at gs ⊢
 have HK := Lib.hid hk
 have GS := Lib.hid gs
 have GB := Lib.hid (HG.out.later h1)
 have H1 := Lib.hid ((Own.St.start w).later h1)
 have hkb : k <= 2 * n := by have := enc_len b; rw [HN.out] at this; omega
 clear h1 gs C1 hk
 by_cases hkn : (k : Int) < (n : Int)
 · have HP : Hid (pack b = [1] ++ enc b) := by
    show pack b = [1] ++ enc b
    unfold pack
    rw [if_pos (by rw [HN.out, <- HK.out]; omega)]
    rfl
   have HA := Lib.hid (ab_one H1.out 1)
   have HC := Lib.hid (vcells (vlater GS.out.view ((Own.St.start w1).alloc (.cells #[.int .u8 (((1 : UInt8).toNat : Nat) : Int)] 5)).below))
   have HNO := Lib.hid (given_nil GS.out)
   go_wp2_with (at_builtin; refine Byt.wpList_ab_append rfl (.tmp 11) (.tmp 12) rfl HA.out 0 rfl rfl a1 k c1 (enc b) rfl HNO.out GS.out.size HC.out (by omega) ?_; intro a4 c4 w4 h4; simp only [List.set_cons_zero] at h4; have H4 := Lib.hid h4; clear h4)
   go_ret
   have hk2 := (ab_len H4.out 0 rfl).1
   rw [<- HP.out] at hk2
   refine ⟨a4, c4, by rw [hk2]; rfl, ?_⟩
   rw [hk2, HP.out]
   exact H4.out
 · have HP : Hid (pack b = [0] ++ b) := by
    show pack b = [0] ++ b
    unfold pack
    rw [if_neg (by rw [HN.out, <- HK.out]; omega)]
    rfl
   have HA := Lib.hid (ab_one H1.out 0)
   have HC := Lib.hid (vcells (vlater GB.out.view ((Own.St.start w1).alloc (.cells #[.int .u8 (((0 : UInt8).toNat : Nat) : Int)] 5)).below))
   have HNO := Lib.hid (given_nil GB.out)
   go_wp2_with (at_builtin; refine Byt.wpList_ab_append rfl (.tmp 14) (.tmp 15) rfl HA.out 0 rfl rfl ao n cap (b) rfl HNO.out GB.out.size HC.out (by omega) ?_; intro a4 c4 w4 h4; simp only [List.set_cons_zero] at h4; have H4 := Lib.hid h4; clear h4)
   go_ret
   have hk2 := (ab_len H4.out 0 rfl).1
   rw [<- HP.out] at hk2
   refine ⟨a4, c4, by rw [hk2]; rfl, ?_⟩
   rw [hk2, HP.out]
   exact H4.out
end Lz
end Go.Proofs.YtahjjcmeocibbaaGreatDoor
end
section
namespace Go.LogM
open FlaM (FS)
structure LR (pp : Nat) (tb : TabM.T) (a q nx : Nat) : Prop where
 seq : q < tb.next
 low : nx <= pp
 cur : ∀ i, TabM.cur tb = some i -> ((TabM.at_ tb.rows i).seq = q /\ nx = a) \/ ((TabM.at_ tb.rows i).seq ≠ q /\ a = pp)
def leftN (pp : Nat) (tb : TabM.T) (q nx : Nat) : Nat :=
 match TabM.cur tb with
 | none => 0
 | some i => if (TabM.at_ tb.rows i).seq = q then pp - nx else 0
theorem left_none {pp q nx : Nat} {tb : TabM.T} (h : TabM.cur tb = none) : leftN pp tb q nx = 0 := by unfold leftN; rw [h]
theorem left_some {pp q nx i : Nat} {tb : TabM.T} (h : TabM.cur tb = some i) : leftN pp tb q nx = if (TabM.at_ tb.rows i).seq = q then pp - nx else 0 := by unfold leftN; rw [h]
section
variable {pp : Nat} {tb : TabM.T} {a q nx N : Nat}
theorem LR.left (h : LR pp tb a q nx) : leftN pp tb q nx = if (TabM.cur tb).isSome = true then pp - a else 0 := by
 cases hc : TabM.cur tb with
 | none => rw [left_none hc]; rfl
 | some i =>
  rw [left_some hc]
  simp only [Option.isSome_some, if_true]
  rcases h.cur i hc with ⟨h1, h2⟩ | ⟨h1, h2⟩
  · rw [if_pos h1, h2]
  · rw [if_neg h1, h2, Nat.sub_self]
theorem LR.here (h : LR pp tb a q nx) {i : Nat} (hc : TabM.cur tb = some i) (ha : a < pp) : (TabM.at_ tb.rows i).seq = q /\ nx = a := by
 rcases h.cur i hc with h1 | ⟨_, h2⟩
 · exact h1
 · omega
theorem lr_new (ok : TabM.Ok tb N) : LR pp tb pp 0 pp :=
 ⟨ok.low, Nat.le_refl _, fun i _ => by
  by_cases h : (TabM.at_ tb.rows i).seq = 0
  · exact .inl ⟨h, rfl⟩
  · exact .inr ⟨h, rfl⟩⟩
theorem seal_none (h : TabM.LoadOk tb.rows tb.next) : TabM.cur (TabM.sealT tb).1 = none := by
 unfold TabM.sealT
 cases hc : TabM.cur tb with
 | none => exact hc
 | some i =>
  obtain ⟨hi, hk⟩ := TabM.cur_some hc
  show TabM.curF 0 (tb.rows.set i _) = none
  refine curF_no _ _ fun s hs hs1 => ?_
  obtain ⟨j, hj, rfl⟩ := List.getElem_of_mem hs
  rw [List.length_set] at hj
  by_cases hij : i = j
  · subst hij
    rw [List.getElem_set_self] at hs1
    cases hs1
  · rw [List.getElem_set_ne hij] at hs1
    rw [TabM.at_lt hi] at hk
    exact hij (h.one i j hi hj hk hs1)
theorem seal_next (tb : TabM.T) : (TabM.sealT tb).1.next = tb.next := by
 unfold TabM.sealT
 split <;> rfl
theorem seal_len (tb : TabM.T) : (TabM.sealT tb).1.rows.length = tb.rows.length := by
 unfold TabM.sealT
 split
 · rfl
 · exact List.length_set
theorem LR.sealed (h : LR pp tb a q nx) (hl : TabM.LoadOk tb.rows tb.next) (a' : Nat) : LR pp (TabM.sealT tb).1 a' q nx :=
 ⟨by rw [seal_next]; exact h.seq, h.low, fun i hi => by rw [seal_none hl] at hi; cases hi⟩
structure Opn (tb : TabM.T) (i : Nat) : Prop where
 eq : (TabM.openT tb).2 = (i, tb.next, 0)
 next : (TabM.openT tb).1.next = tb.next + 1
 lt : i < tb.rows.length
 len : (TabM.openT tb).1.rows.length = tb.rows.length
 cur : TabM.cur (TabM.openT tb).1 = some i
 seq : (TabM.at_ (TabM.openT tb).1.rows i).seq = tb.next
theorem opn_of (hc : TabM.cur tb = none) (h0 : (TabM.openT tb).2.2.2 = 0) : ∃ i, Opn tb i := by
 unfold TabM.openT at h0
 rw [hc] at h0
 cases hb : TabM.best tb with
 | none => rw [hb] at h0; cases h0
 | some x =>
  obtain ⟨i, w⟩ := x
  obtain ⟨hi, hk, _⟩ := TabM.best_some hb
  have e : TabM.openT tb = (TabM.opened tb i w, (i, tb.next, 0)) := by unfold TabM.openT; rw [hc, hb]
  have hnk : ∀ j, j < tb.rows.length -> (TabM.at_ tb.rows j).kind ≠ 1 := fun j hj => TabM.curF_none _ _ hc _ (TabM.at_mem hj)
  have hat : TabM.at_ (TabM.opened tb i w).rows i = ⟨1, tb.next, w + 1⟩ := by
   show TabM.at_ (tb.rows.set i _) i = _
   rw [TabM.at_lt (by rw [List.length_set]; exact hi), List.getElem_set_self]
  refine ⟨i, ?_, ?_, hi, ?_, ?_, ?_⟩
  · rw [e]
  · rw [e]; rfl
  · rw [e]; exact List.length_set
  · rw [e]
    have := curF_first (tb.rows.set i ⟨1, tb.next, w + 1⟩) 0 i (by rw [List.length_set]; exact hi) (fun j hj => by
     have hjl : j < tb.rows.length := by omega
     rw [TabM.at_lt (by rw [List.length_set]; exact hjl), List.getElem_set_ne (by omega), <- TabM.at_lt hjl]
     exact hnk j hjl) (by rw [show TabM.at_ (tb.rows.set i ⟨1, tb.next, w + 1⟩) i = _ from hat])
    rw [Nat.zero_add] at this
    exact this
  · rw [e, hat]
theorem open_err (h0 : (TabM.openT tb).2.2.2 ≠ 0) : (TabM.openT tb).1 = tb := by
 unfold TabM.openT at h0 ⊢
 cases hc : TabM.cur tb with
 | some _ => rfl
 | none =>
  rw [hc] at h0
  cases hb : TabM.best tb with
  | none => rfl
  | some x => rw [hb] at h0; exact absurd rfl h0
theorem LR.begun (h : LR pp tb a q nx) {i : Nat} (o : Opn tb i) (hp : 1 <= pp) : LR pp (TabM.openT tb).1 1 tb.next 1 :=
 ⟨by rw [o.next]; exact Nat.lt_succ_self _, hp, fun j hj => by rw [o.cur] at hj; cases hj; exact .inl ⟨o.seq, rfl⟩⟩
theorem LR.bare (h : LR pp tb a q nx) {i : Nat} (o : Opn tb i) : LR pp (TabM.openT tb).1 pp q nx :=
 ⟨by rw [o.next]; have := h.seq; omega, h.low, fun j hj => by rw [o.cur] at hj; cases hj; exact .inr ⟨by rw [o.seq]; have := h.seq; omega, rfl⟩⟩
end
theorem erase_dims (s : FS) (seg : Int) : (FlaM.erase s seg).1.pp = s.pp /\ (FlaM.erase s seg).1.safe.length = s.safe.length := by
 have e : (FlaM.trip s).pp = s.pp /\ (FlaM.trip s).safe = s.safe := by unfold FlaM.trip; split <;> exact ⟨rfl, rfl⟩
 unfold FlaM.erase
 split
 · exact ⟨rfl, rfl⟩
 · split
   · exact ⟨e.1, by rw [e.2]⟩
   · exact ⟨e.1, by show (FlaM.trip s).safe.length = _; rw [e.2]⟩
theorem doAll_len (pp : Nat) (fates : List Int) : ∀ (L : List FlaM.Act) (safe : List (List Bs)) (i : Nat), (FlaM.doAll pp fates safe i L).length = safe.length
 | [], _, _ => rfl
 | x :: L, safe, i => by
  unfold FlaM.doAll
  rw [doAll_len pp fates L]
  unfold FlaM.doOne
  split
  · exact FlaM.setPage_len _ _ _ _
  · exact FlaM.clearTo_len _ _ _
theorem barrier_dims (s : FS) : (FlaM.barrier s).1.pp = s.pp /\ (FlaM.barrier s).1.safe.length = s.safe.length := by
 have e : (FlaM.trip s).pp = s.pp /\ (FlaM.trip s).safe = s.safe := by unfold FlaM.trip; split <;> exact ⟨rfl, rfl⟩
 unfold FlaM.barrier
 split
 · exact ⟨e.1, by rw [e.2]⟩
 · refine ⟨e.1, ?_⟩
   show (FlaM.doAll _ _ (FlaM.trip s).safe 0 _).length = _
   rw [doAll_len, e.2]
theorem prog_dims (s : FS) (seg page : Int) (b : Bs) : (FlaM.progF s seg page b).1.pp = s.pp /\ (FlaM.progF s seg page b).1.safe.length = s.safe.length := by
 have e : (FlaM.trip s).pp = s.pp /\ (FlaM.trip s).safe = s.safe := by unfold FlaM.trip; split <;> exact ⟨rfl, rfl⟩
 unfold FlaM.progF
 split
 · exact ⟨rfl, rfl⟩
 split
 · exact ⟨rfl, rfl⟩
 split
 · exact ⟨rfl, rfl⟩
 split
 · exact ⟨e.1, by rw [e.2]⟩
 · exact ⟨e.1, by show (FlaM.trip s).safe.length = _; rw [e.2]⟩
theorem head_facts {s : FS} {N : Nat} (ok : FlaM.Ok s N) (g seq : Nat) : (headL g seq s).1.1.pp = s.pp /\ (headL g seq s).1.1.safe.length = s.safe.length /\ FlaM.Ok (headL g seq s).1.1 (N + 3) /\ ((headL g seq s).2 ≠ 0 -> (headL g seq s).1.2 = s.pp) /\ ((headL g seq s).2 = 0 -> (headL g seq s).1.2 = 1) := by
 have ok1 := FlaM.ok_erase ok (g : Int)
 have ok2 := FlaM.ok_barrier ok1
 have ok3 := FlaM.ok_program ok2 (g : Int) ((0 : Nat) : Int) (hdr seq)
 have d1 := erase_dims s (g : Int)
 have d2 := barrier_dims (FlaM.erase s (g : Int)).1
 have d3 := prog_dims (FlaM.barrier (FlaM.erase s (g : Int)).1).1 (g : Int) ((0 : Nat) : Int) (hdr seq)
 unfold headL
 split
 · rename_i h
   exact ⟨d1.1, d1.2, ok1.more (by omega), fun _ => rfl, fun h0 => absurd h0 h⟩
 split
 · rename_i h
   exact ⟨d2.1.trans d1.1, d2.2.trans d1.2, ok2.more (by omega), fun _ => rfl, fun h0 => absurd h0 h⟩
 split
 · rename_i h
   exact ⟨d3.1.trans (d2.1.trans d1.1), d3.2.trans (d2.2.trans d1.2), ok3, fun _ => rfl, fun h0 => absurd h0 h⟩
 · exact ⟨d3.1.trans (d2.1.trans d1.1), d3.2.trans (d2.2.trans d1.2), ok3, fun h0 => absurd rfl h0, fun _ => rfl⟩
theorem joinF_size : ∀ (l : List Bs) (i : Nat) (k : UInt8) (all : Bs), all.length <= 125 * i -> (PagM.joinF i k all l).1.2.1.length <= 8000 /\ (PagM.joinF i k all l).1.2.2 <= i + l.length /\ ((PagM.joinF i k all l).2 = 0 -> i < (PagM.joinF i k all l).1.2.2)
 | [], i, k, all, _ => ⟨Nat.zero_le _, Nat.zero_le _, fun h => (by cases h)⟩
 | p :: l, i, k, all, ha => by
  unfold PagM.joinF
  split
  · exact ⟨Nat.zero_le _, Nat.zero_le _, fun h => (by cases h)⟩
  rename_i hi
  split
  · exact ⟨Nat.zero_le _, Nat.zero_le _, fun h => (by cases h)⟩
  rename_i hp
  have hpg : PagM.isPage p = true := by
   cases h : PagM.isPage p
   · rw [h] at hp; simp at hp
   · rfl
  obtain ⟨h1, h2, _⟩ := PagM.isPage_props hpg
  obtain ⟨_, g2⟩ := PagM.guess_small p h1 h2
  have hal : (all ++ (PagM.guess p).data).length <= 125 * (i + 1) := by rw [List.length_append]; omega
  split
  · refine ⟨by simp only; omega, ?_, fun _ => Nat.lt_succ_self _⟩
    simp only [List.length_cons]
    omega
  · obtain ⟨q1, q2, q3⟩ := joinF_size l (i + 1) (PagM.guess p).kind _ hal
    exact ⟨q1, by simp only [List.length_cons]; omega, fun h => by have := q3 h; omega⟩
theorem join_size (l : List Bs) : (PagM.join l).1.2.1.length <= 8000 /\ (PagM.join l).1.2.2 <= l.length /\ ((PagM.join l).2 = 0 -> 0 < (PagM.join l).1.2.2) := by
 have := joinF_size l 0 0 [] (Nat.zero_le _)
 rw [Nat.zero_add] at this
 exact this
noncomputable def resN (x : Option (RecM.Nte × Nat)) : RecM.Nte × Nat := x.getD (RecM.zeroN, 0)
theorem note1_size {l : List Bs} {n : RecM.Nte} {k : Nat} (h : note1 l = some (n, k)) : 0 < k /\ k <= l.length := by
 unfold note1 at h
 split at h
 · rename_i hc
   cases h
   obtain ⟨_, h2, h3⟩ := join_size l
   exact ⟨h3 hc.1, h2⟩
 · cases h
def readyL (fr : Nat) (σ : LG) (m : Nat) : LG × Nat := if (roomL σ m).2 ≠ 0 then roomL σ m else needL fr (roomL σ m).1
theorem append_ready (fr : Nat) (σ : LG) (n : RecM.Nte) : appendL fr σ n = if RecM.right n = false then (σ, (zP, 1)) else if σ.fs.pp < 1 + (notePages n).length then (σ, (zP, 4)) else
 if (readyL fr σ (notePages n).length).2 ≠ 0 then ((readyL fr σ (notePages n).length).1, (zP, (readyL fr σ (notePages n).length).2)) else putL fr (readyL fr σ (notePages n).length).1 (notePages n) := by
 unfold appendL readyL
 by_cases h : (roomL σ (notePages n).length).2 ≠ 0
 · simp only [if_pos h]
 · simp only [if_neg h]
structure Mid (fr : Nat) (σ : LG) (N : Nat) : Prop where
 fs : FlaM.Ok σ.fs N
 tb : TabM.Ok σ.tb N
 room : fr + σ.tb.rows.length <= σ.fs.safe.length
 pp : 2 <= σ.fs.pp
section
variable {fr m : Nat} {σ : LG} {N : Nat}
theorem LgOk.mid (h : LgOk fr σ N) : Mid fr σ N := ⟨h.fs, h.tb, h.room, h.pp⟩
theorem close_mid (h : LgOk fr σ N) : Mid fr (closeL σ).1 (N + 1) /\ (closeL σ).1.fs.pp = σ.fs.pp /\ ((closeL σ).2 = 0 -> TabM.cur (closeL σ).1.tb = none) /\ ((TabM.cur σ.tb).isSome = true -> (closeL σ).2 ≠ 0 -> (closeL σ).1.tb = σ.tb /\ (closeL σ).1.a = σ.a) /\ (TabM.cur σ.tb = none -> closeL σ = (σ, 0)) := by
 have d := barrier_dims σ.fs
 have okb := FlaM.ok_barrier h.fs
 unfold closeL
 cases hc : TabM.cur σ.tb with
 | none => exact ⟨⟨h.fs.more (by omega), h.tb.more (by omega), h.room, h.pp⟩, rfl, fun _ => hc, fun h => (by cases h), fun _ => rfl⟩
 | some i =>
  simp only
  split
  · refine ⟨⟨okb, (TabM.ok_seal h.tb).more (by omega), ?_, ?_⟩, d.1, fun _ => seal_none h.load, fun _ h => absurd rfl h, fun h => (by cases h)⟩
    · show fr + (TabM.sealT σ.tb).1.rows.length <= (FlaM.barrier σ.fs).1.safe.length
      rw [seal_len, d.2]; exact h.room
    · show 2 <= (FlaM.barrier σ.fs).1.pp
      rw [d.1]; exact h.pp
  · rename_i hb
    refine ⟨⟨okb, h.tb.more (by omega), ?_, ?_⟩, d.1, fun h => absurd h hb, fun _ _ => ⟨rfl, rfl⟩, fun h => (by cases h)⟩
    · show fr + σ.tb.rows.length <= (FlaM.barrier σ.fs).1.safe.length
      rw [d.2]; exact h.room
    · show 2 <= (FlaM.barrier σ.fs).1.pp
      rw [d.1]; exact h.pp
theorem open_mid (h : Mid fr σ N) (hc : TabM.cur σ.tb = none) : Mid fr (openL fr σ).1 (N + 3) /\ (openL fr σ).1.fs.pp = σ.fs.pp /\ ((openL fr σ).2 = 0 -> (∃ i, TabM.cur (openL fr σ).1.tb = some i) /\ (openL fr σ).1.a = 1) := by
 unfold openL
 by_cases h0 : (TabM.openT σ.tb).2.2.2 ≠ 0
 · rw [if_pos h0]
   simp only
   rw [open_err h0]
   exact ⟨⟨h.fs.more (by omega), h.tb.more (by omega), h.room, h.pp⟩, by simp, fun h => absurd h h0⟩
 · rw [if_neg h0]
   obtain ⟨i, o⟩ := opn_of hc (by simpa using h0)
   obtain ⟨f1, f2, f3, f4, f5⟩ := head_facts h.fs (fr + (TabM.openT σ.tb).2.1) (TabM.openT σ.tb).2.2.1
   refine ⟨⟨f3, (TabM.ok_open h.tb).more (by omega), ?_, ?_⟩, f1, fun h => ⟨⟨i, o.cur⟩, f5 h⟩⟩
   · show fr + (TabM.openT σ.tb).1.rows.length <= _
     rw [o.len]
     exact Nat.le_trans h.room (Nat.le_of_eq f2.symm)
   · exact Nat.le_trans h.pp (Nat.le_of_eq f1.symm)
theorem ready_here (hc : (TabM.cur σ.tb).isSome = true) (hm : σ.a + m <= σ.fs.pp) : readyL fr σ m = (σ, 0) := by
 have e : roomL σ m = (σ, 0) := by unfold roomL; rw [if_neg]; rintro ⟨_, h⟩; omega
 unfold readyL
 rw [e, if_neg (by simp)]
 unfold needL
 rw [if_pos hc]
theorem ready_shut (h : LgOk fr σ N) (hc : (TabM.cur σ.tb).isSome = true -> σ.fs.pp < σ.a + m) : readyL fr σ m = if (closeL σ).2 ≠ 0 then closeL σ else openL fr (closeL σ).1 := by
 obtain ⟨_, _, c1, _, c3⟩ := close_mid h
 have e : roomL σ m = closeL σ := by
  unfold roomL
  by_cases hs : (TabM.cur σ.tb).isSome = true
  · rw [if_pos ⟨hs, hc hs⟩]
  · rw [if_neg (fun h => hs h.1)]
    exact (c3 (by simpa using hs)).symm
 unfold readyL
 rw [e]
 by_cases h0 : (closeL σ).2 ≠ 0
 · rw [if_pos h0, if_pos h0]
 · rw [if_neg h0, if_neg h0]
   unfold needL
   rw [c1 (by simpa using h0), if_neg (by simp)]
theorem ready_mid (h : LgOk fr σ N) (hm : 1 + m <= σ.fs.pp) : Mid fr (readyL fr σ m).1 (N + 4) /\ (readyL fr σ m).1.fs.pp = σ.fs.pp /\ ((readyL fr σ m).2 = 0 -> (∃ i, TabM.cur (readyL fr σ m).1.tb = some i) /\ 1 <= (readyL fr σ m).1.a /\ (readyL fr σ m).1.a + m <= σ.fs.pp) := by
 have hmid := h.mid
 by_cases hc : (TabM.cur σ.tb).isSome = true /\ σ.a + m <= σ.fs.pp
 · rw [ready_here hc.1 hc.2]
   refine ⟨⟨h.fs.more (by omega), h.tb.more (by omega), h.room, h.pp⟩, rfl, fun _ => ⟨?_, (h.a hc.1).1, hc.2⟩⟩
   exact Option.isSome_iff_exists.1 hc.1
 · rw [ready_shut (m := m) h (fun hs => by rcases Nat.lt_or_ge σ.fs.pp (σ.a + m) with h1 | h1; exact h1; exact absurd ⟨hs, h1⟩ hc)]
   obtain ⟨c1, c2, c3, c4, c5⟩ := close_mid h
   by_cases h0 : (closeL σ).2 ≠ 0
   · rw [if_pos h0]
     exact ⟨⟨c1.fs.more (by omega), c1.tb.more (by omega), c1.room, c1.pp⟩, c2, fun h => absurd h h0⟩
   · rw [if_neg h0]
     obtain ⟨o1, o2, o3⟩ := open_mid c1 (c3 (by simpa using h0))
     refine ⟨⟨o1.fs.more (by omega), o1.tb.more (by omega), o1.room, o1.pp⟩, o2.trans c2, fun h => ?_⟩
     obtain ⟨o4, o5⟩ := o3 h
     exact ⟨o4, by omega, by omega⟩
end
end Go.LogM
end
section
namespace Go.Proofs.YtahjjcmeocibbaaGreatDoor
open Go.RowKit Go.Own
namespace Pag
open Go.PagM Byt
abbrev errP (n : Nat) : Value := .int .i64 (n : Int)
abbrev frV (k : Nat) (a z : Bool) (d : Value) : Value := .agg #[.int .u8 (k : Int), .bool a, .bool z, d]
abbrev frC (k : Nat) (a z : Bool) (d : Value) : Array Value := #[.int .u8 (k : Int), .bool a, .bool z, d]
def LayDone (x : PagM.Bs × Nat) (w : World) (e : Ending) (w' : World) : Prop := ∃ ao cap, e = .returned (.tuple #[.slice ao x.1.length cap, errP x.2]) /\ Given w' ao x.1.length cap x.1 /\ Below w.heap.size w w'
end Pag
end Go.Proofs.YtahjjcmeocibbaaGreatDoor
end
section
namespace Go.Proofs.YtahjjcmeocibbaaGreatDoor
open Go.RowKit Go.Own
namespace Pag
open Go.PagM Byt
def TakeDone (x : Frm × Nat) (w : World) (e : Ending) (w' : World) : Prop := ∃ ao cap, e = .returned (.tuple #[frV x.1.kind.toNat x.1.first x.1.last (.slice ao x.1.data.length cap), errP x.2]) /\ Given w' ao x.1.data.length cap x.1.data /\ Below w.heap.size w w'
theorem info_frame (cs : Array Value) (h : cs.size = 4) : (Tryz.prog.info? 116).map (·.size) = some cs.size := by
 have h0 : (Tryz.prog.info? 116).map (fun i => i.size) = some 4 := by kernel_rfl
 rw [h]
 exact h0
end Pag
end Go.Proofs.YtahjjcmeocibbaaGreatDoor
end
section
namespace Go.Proofs.YtahjjcmeocibbaaGreatDoor
open Go.RowKit Go.Own
namespace Byt
structure GivenL (w : World) (ao : Option Addr) (n cap : Nat) (L : List (List UInt8)) : Prop where
 size : L.length = n
 room : n <= cap /\ cap <= maxLen
 nil : ao = none -> cap = 0
 rows : ∀ j, j < n -> ∃ b o aj cj, ao = some ⟨b, o, none⟩ /\ b < w.heap.size /\ w.cell? ⟨b, o + j, none⟩ = some (.slice aj (L.getD j []).length cj) /\ Given w aj (L.getD j []).length cj (L.getD j [])
theorem GivenL.later {w w' : World} {ao : Option Addr} {n cap : Nat} {L : List (List UInt8)} (h : GivenL w ao n cap L) (g : Below w.heap.size w w') : GivenL w' ao n cap L :=
 ⟨h.size, h.room, h.nil, fun j hj => by
  obtain ⟨b, o, aj, cj, h1, h2, h3, h4⟩ := h.rows j hj
  exact ⟨b, o, aj, cj, h1, Nat.lt_of_lt_of_le h2 g.size, cellLater h3 g, h4.later g⟩⟩
theorem oneBytes : One Tryz.prog 69 37 (.slice none 0 0) 24 := ⟨Tryz.underlying69, by kernel_rfl, rfl⟩
end Byt
namespace Pag
open Go.PagM Byt
def SplitDone (x : List PagM.Bs × Nat) (w : World) (e : Ending) (w' : World) : Prop := ∃ ao cap, e = .returned (.tuple #[.slice ao x.1.length cap, errP x.2]) /\ GivenL w' ao x.1.length cap x.1 /\ Below w.heap.size w w'
theorem split_err (x : List PagM.Bs × Nat) (k : Nat) (hx : x = ([], k)) (w : World) : SplitDone x w (.returned (.tuple #[.slice none 0 0, errP k])) w := by
 subst hx
 exact ⟨none, 0, rfl, ⟨rfl, ⟨Nat.le_refl _, Nat.zero_le _⟩, fun _ => rfl, fun j hj => absurd hj (Nat.not_lt_zero j)⟩, Below.refl _ _⟩
def boolN : Value -> Nat
 | .bool true => 1
 | _ => 0
end Pag
end Go.Proofs.YtahjjcmeocibbaaGreatDoor
end
section
namespace Go.Proofs.YtahjjcmeocibbaaGreatDoor
open Go.RowKit Go.Own
namespace Pag
open Go.PagM Byt
def JoinDone (x : (UInt8 × PagM.Bs × Nat) × Nat) (w : World) (e : Ending) (w' : World) : Prop := ∃ ao cap, e = .returned (.tuple #[.int .u8 (x.1.1.toNat : Int), .slice ao x.1.2.1.length cap, .int .i64 (x.1.2.2 : Int), errP x.2]) /\ Given w' ao x.1.2.1.length cap x.1.2.1 /\ Below w.heap.size w w'
theorem join_err (x : (UInt8 × PagM.Bs × Nat) × Nat) (hx : x = ((0, [], 0), 90)) {w w' : World} (h : Below w.heap.size w w') : JoinDone x w (.returned (.tuple #[.int .u8 0, .slice none 0 0, .int .i64 0, errP 90])) w' := by
 subst hx
 exact ⟨none, 0, rfl, ⟨.inl rfl, rfl, ⟨Nat.le_refl _, Nat.zero_le _⟩, fun _ => rfl⟩, h⟩
theorem joinF_at (i : Nat) (k : UInt8) (all : PagM.Bs) (L : List PagM.Bs) (h : i < L.length) (h64 : i < 64) : joinF i k all (L.drop i) = if !isPage (L.getD i []) || (guess (L.getD i [])).first != decide (i = 0) || (decide (0 < i) && (guess (L.getD i [])).kind != k) || (!(guess (L.getD i [])).last && decide ((guess (L.getD i [])).data.length ≠ 125)) then ((0, [], 0), 90)
 else if (guess (L.getD i [])).last then (((guess (L.getD i [])).kind, all ++ (guess (L.getD i [])).data, i + 1), 0)
 else joinF (i + 1) (guess (L.getD i [])).kind (all ++ (guess (L.getD i [])).data) (L.drop (i + 1)) := by
 rw [List.drop_eq_getElem_cons h, joinF, if_neg (by omega)]
 have e : L.getD i [] = L[i] := by rw [List.getD_eq_getElem?_getD, List.getElem?_eq_getElem h]; rfl
 rw [e]
end Pag
end Go.Proofs.YtahjjcmeocibbaaGreatDoor
end
section
namespace Go.PagM
end Go.PagM
namespace Go.Proofs.YtahjjcmeocibbaaGreatDoor
open Go.RowKit Go.Own
namespace Pag
open Go.PagM Byt
def RetYes (w : World) (e : Ending) (w' : World) : Prop := e = .returned (.bool true) /\ Below w.heap.size w w'
def TakeNew (x : Frm × Nat) (w : World) (e : Ending) (w' : World) : Prop := ∃ ao cap, e = .returned (.tuple #[frV x.1.kind.toNat x.1.first x.1.last (.slice ao x.1.data.length cap), errP x.2]) /\ Given w' ao x.1.data.length cap x.1.data /\ View w' (fun k => w.heap.size <= k) ao x.1.data /\ Below w.heap.size w w'
structure Kept (W : World) where
end Pag
end Go.Proofs.YtahjjcmeocibbaaGreatDoor
end
