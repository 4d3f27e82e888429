/- The landed putLiterals. -/
import Derived.Test.YthmnaofmpijbiaaLzL
namespace Go.Proofs.Ythmnaofmpijbiaa
open Go.RowKit Go.Own Go.Shelf
attribute [local go_sem] Oper.semAt_some
namespace Lz
open Go.MatM Go.LzM Byt

/-- the objects of putLiterals -/
def PO (b0 : Nat) (ab : Option Addr) (m cb : Nat) (ao : Option Addr) (n cap : Nat) (l : Bs) (Ps : List Asn) : List Asn :=
  AVals (b0 + 1 + 1) 3 [.int .i64 128] :: AVals (b0 + 1) 22 [.slice ab m cb] :: AVals b0 22 [.slice ao n cap] :: AB ao n cap l :: Ps
theorem PO.cellish {b0 : Nat} {ab : Option Addr} {m cb : Nat} {ao : Option Addr} {n cap : Nat} {l : Bs} {Ps : List Asn} (h : ∀ P ∈ Ps, P.cellish) : ∀ P ∈ PO b0 ab m cb ao n cap l Ps, P.cellish := by
  intro P hP
  simp only [PO, List.mem_cons] at hP
  rcases hP with rfl | rfl | rfl | rfl | hP
  · exact ABlk.cellish _ _ _ _
  · exact ABlk.cellish _ _ _ _
  · exact ABlk.cellish _ _ _ _
  · exact ARow.cellish _ _ _ _ _
  · exact h P hP
theorem PO.kc {B : Nat} {w0 W W' : World} {b0 : Nat} {ab : Option Addr} {m cb : Nat} {ao ao' : Option Addr} {n cap n' cap' : Nat} {l l' : Bs} {Ps : List Asn} (H : Own.St B w0 W (PO b0 ab m cb ao n cap l Ps)) (H' : Own.St B w0 W' (PO b0 ab m cb ao' n' cap' l' Ps)) : KC (b0 + 1) (b0 + 1 + 1) W W' :=
  ⟨(H'.block 1 rfl).trans (H.block 1 rfl).symm, (H'.block 0 rfl).trans (H.block 0 rfl).symm⟩

set_option maxRecDepth 100000 in
set_option maxHeartbeats 4000000 in
theorem putLits_st {B : Nat} {w0 w : World} {Ps : List Asn} {ax : Option Addr} {k cx : Nat} {done : Bs} {ab : Option Addr} {m cb : Nat} {l : Bs} (H : Own.St B w0 w (AB ax k cx done :: Ps)) (hPs : ∀ P ∈ Ps, P.cellish)
    (hV : View w (fun k => k < B) ab l) (hl : l.length = m) (hm : m ≤ cb) (hcb : cb ≤ maxLen) (hb : k + 2 * m ≤ 500000000) :
    Calls Try.prog 21 #[.slice ax k cx, .slice ab m cb] w fun e w' => ∃ a' c', e = .returned (.slice a' (k + (plain l).length) c') ∧ Own.St B w0 w' (AB a' (k + (plain l).length) c' (done ++ plain l) :: Ps) := by
  have hao : m = 0 ∨ ∃ b o, ab = some ⟨b, o, none⟩ := by
    rcases hV with rfl | ⟨b, o, h, _⟩
    · exact .inl hl.symm
    · exact .inr ⟨b, o, h⟩
  have H0 := Lib.hid H
  refine (callsIn_wide (n := 5)).1 ?_
  refine callsIn_of_wp_marks Try.func21 rfl trivial ?_ rfl
  simp only [Try.ntmps21, List.size_toArray, List.length_cons, List.length_nil, Nat.reduceAdd, Nat.reduceSub, Array.replicate_succ, Array.replicate_zero, List.push_toArray, List.append_toArray, List.nil_append, List.cons_append]
  gi_wp2_with (refine ⟨trivial, ?_⟩; gi_at_call 30; refine (chunk_in _ _ _ _ _).mono ?_; rintro e w' ⟨rfl, rfl⟩)
  obtain ⟨W0, hW0⟩ : ∃ W0, (((w.alloc (.cells #[.slice ax k cx] 22)).alloc (.cells #[.slice ab m cb] 22)).alloc (.cells #[.int .i64 128] 3)) = W0 := ⟨_, rfl⟩
  have hst : Own.St B w0 W0 (PO w.heap.size ab m cb ax k cx done Ps) := by
    rw [← hW0]
    have h1 := H.boxV 22 [.slice ax k cx]
    have h2 := h1.boxV 22 [.slice ab m cb]
    have h3 := h2.boxV 3 [.int .i64 128]
    simp only [World.size_alloc] at h2 h3
    exact h3
  have hsz : W0.heap.size = w.heap.size + 3 := by rw [← hW0]; simp
  have hc1 := (hst.cellV 1 rfl 0 rfl).1
  have hc2 := (hst.cellV 0 rfl 0 rfl).1
  have hB : B ≤ w.heap.size := H.size
  have hBw : Below B w W0 := by
    rw [← hW0]
    exact (((Below.refl _ w).alloc hB _).alloc (by simp; omega) _).alloc (by simp; omega) _
  have hV0 := View.below hV hBw
  rw [hW0]
  have hbnd : ∀ pre : List (Fin (nch m)), pre.length ≤ nch m → k + (pre.flatMap (fun x => partB l x.1)).length ≤ 1000000 + 500000000 := by
    intro pre hpre
    subst hl
    have := parts_len l pre
    have : 128 * nch l.length ≤ l.length + 127 := by unfold nch; omega
    omega
  have hnb : nch m ≤ 5000000 := by unfold nch; omega
  clear hV hW0 hBw H H0
  refine wpIn_rangeFunc_ownG rfl (by decide) (gf := 35) (lb := #[.pointer (some ⟨w.heap.size + 1, 0, none⟩), .pointer (some ⟨w.heap.size + 1 + 1, 0, none⟩)]) rfl trivial (enters_of Try.func35 (by kernel_rfl) rfl)
    (chunk_stops _ (by decide) (w.heap.size + 1) (w.heap.size + 1 + 1) ab m cb hao hm (by omega) hcb W0 (by omega) (by omega) hc1 hc2) (fun h k => KC.trans h k)
    (fun W l o o' hl h h1 h2 => ⟨World.putObj_heap_other (by omega), World.putObj_heap_other (by omega)⟩) (Below.refl _ _) (fun _ => rfl)
    (fun pre W => ∃ ao n cap, n = k + (pre.flatMap (fun x => partB l x.1)).length ∧ Own.St B w0 W (PO w.heap.size ab m cb ao n cap (done ++ pre.flatMap (fun x => partB l x.1)) Ps))
    (fun _ _ _ => False)
    (fun pre W W' row hs hg hr => by
      obtain ⟨ao, n, cap, hn, hS⟩ := hs
      exact ⟨ao, n, cap, hn, hS.abide (PO.cellish hPs) hg (fun r e => ⟨by have := (hr r e).1; omega, (hr r e).2⟩)⟩)
    (fun c pre W W' row hs hg hr => hs)
    ⟨ax, k, cx, by simp, by simpa using hst⟩
    (fun x => { tmps := #[Value.slice ax k cx, Value.slice ab m cb, Value.pointer (some ⟨w.heap.size, 0, none⟩), undef,
          Value.slice none 0 0, partV ab m x.1, Value.slice ab m cb,
          Value.func (Fn.func 35) #[] #[Value.pointer (some ⟨w.heap.size + 1, 0, none⟩), Value.pointer (some ⟨w.heap.size + 1 + 1, 0, none⟩)],
          partV ab m x.1, undef, undef, undef, undef, undef, undef, undef, undef, undef, undef, undef], defers := [] }) ?assign ?body ?done ?stop
  case assign =>
    intro l x W K hK
    gi_wp2
    exact hK
  case stop => rintro D c pre W hD _ h; exact h.elim
  case done =>
    rintro D ys W hD hys ⟨ao, n, cap, hn, hS⟩ hK
    have hpl : ys.flatMap (fun x => partB l x.1) = plain l := by rw [hys]; subst hl; exact (plain_fin l).symm
    rw [hpl] at hn hS
    have hcb1 := (hS.cellV 2 rfl 0 rfl).1
    have HS := Lib.hid hS
    have HK := Lib.hid hK
    have HD := Lib.hid hD
    have HN := Lib.hid hn
    have HPS := Lib.hid hPs
    have HB := Lib.hid (And.intro hB hsz)
    clear hS hK hD hn hpl hys hPs hst hc1 hc2 hV0 hbnd hnb hB hsz hl hb hao
    gi_wp2
    refine ⟨by simp, .inl ⟨_, _, rfl, run_takeDeferred HK.out, ?_⟩⟩
    refine ⟨.slice ao n cap, ?_, ?_⟩
    · simp [results, Try.f21, go_sem]
    · refine ⟨ao, cap, by rw [HN.out], ?_⟩
      rw [← HN.out]
      have h := HS.out.abide (PO.cellish HPS.out) (grownBy_putObj' W D (.deferred none)) (fun r e => by cases e; exact ⟨by have := HD.out; have := HB.out; omega, _, HK.out, rfl⟩)
      exact h.drop 3
  case body =>
    rintro l' pre x W ⟨ao, n, cap, hn, hS⟩ hpl
    have hm0 : ¬ m = 0 := by intro e; subst e; exact absurd x.2 (by unfold nch; omega)
    rcases hao with h | ⟨gb, go, rfl⟩
    · exact absurd h hm0
    have hVW := View.same hV0 (Below.both hst.below hS.below)
    obtain ⟨q, hq⟩ : ∃ q, q = chl m x.1 := ⟨_, rfl⟩
    have hx := x.2
    have hq1 : 1 ≤ q := by rw [hq]; unfold chl; have : 128 * nch m ≤ m + 127 := by unfold nch; omega
                           omega
    have hq2 : q ≤ 128 := by rw [hq]; unfold chl; omega
    obtain ⟨c, hc⟩ : ∃ c, c = UInt8.ofNat (q - 1) := ⟨_, rfl⟩
    have hcn : c.toNat = q - 1 := by rw [hc, ofNat_toNat (q - 1) (by omega)]
    have hsub : (q : Int) - 1 = (c.toNat : Int) := by omega
    have hcb : c.toNat ≤ 127 := by omega
    obtain ⟨t, ht⟩ : ∃ t, t = (l.drop (128 * x.1)).take 128 := ⟨_, rfl⟩
    have htl : t.length = q := by rw [ht, part_len, hl, hq]
    have hpb : partB l x.1 = c :: t := by unfold partB; rw [hl, ← hq, ← hc, ← ht]
    obtain ⟨off, hoff⟩ : ∃ off, off = go + 128 * x.1 := ⟨_, rfl⟩
    have hpv : partV (some ⟨gb, go, none⟩) m x.1 = .slice (some ⟨gb, off, none⟩) q q := by unfold partV; rw [← hq, hoff]; simp [add_of]
    have hVt : View W (fun k => k < B) (some ⟨gb, off, none⟩) t := by rw [ht, hoff]; exact vtake (vdrop hVW _) 128
    have hnk : n + 1 + q ≤ 1000000000 := by have := hbnd pre (by omega); omega
    have hsnoc : (pre ++ [x]).flatMap (fun x => partB l x.1) = pre.flatMap (fun x => partB l x.1) ++ (c :: t) := by rw [List.flatMap_append]; simp [hpb]
    obtain ⟨bs, hbs⟩ : ∃ bs, bs = pre.flatMap (fun x => partB l x.1) := ⟨_, rfl⟩
    rw [← hbs] at hn hS hsnoc
    rw [hpv]
    obtain ⟨hcb1, hcb2⟩ := hS.cellV 2 rfl 0 rfl
    have HS := Lib.hid hS
    have HN := Lib.hid hn
    have HV := Lib.hid hVt
    have HL := Lib.hid htl
    have HSN := Lib.hid hsnoc
    clear hS hn hVt htl hsnoc hbs hpv hoff hpb ht hcn hc hq hx hVW hm0 hpl hbnd hnb hV0 hc1 hc2 hst hPs hl
    gi_wp2_with (first
      | (gi_at_builtin; refine Byt.wpListIn_ab_append rfl (.tmp 9) (.tmp 14) rfl (HS.out.alloc (.cells #[.int .u8 (c.toNat : Int)] 5)) 3 rfl rfl (some ⟨W.heap.size, 0, none⟩) 1 1 [c] rfl (by intro h; cases h) rfl (one_cells8 W c _) (by omega) ?_; intro a3 c3 wa ha hka; simp only [PO, List.set_cons_succ, List.set_cons_zero] at ha; obtain ⟨hd1, hd2⟩ := ha.cellV 2 rfl 0 rfl; have HA := Lib.hid (ha.storeV 2 rfl 0 (.slice a3 (n + 1) c3)); have HKA := Lib.hid hka; have HVA := Lib.hid (vcells (View.same HV.out (Below.both HS.out.below (ha.storeV 2 rfl 0 (.slice a3 (n + 1) c3)).below))); clear ha hka hcb1 hcb2)
      | (gi_at_builtin; refine Byt.wpListIn_ab_append rfl (.tmp 16) (.tmp 17) rfl HA.out 3 rfl rfl (some ⟨gb, off, none⟩) q q t rfl (by intro h; cases h) HL.out HVA.out (by omega) ?_; intro a4 c4 wb hb4 hkb; simp only [List.set_cons_succ, List.set_cons_zero] at hb4; obtain ⟨he1, he2⟩ := hb4.cellV 2 rfl 0 rfl; have HB4 := Lib.hid (hb4.storeV 2 rfl 0 (.slice a4 (n + 1 + q) c4)); have HKB := Lib.hid hkb; clear hb4 hkb hd1 hd2))
    have HF := HB4.out
    simp only [List.set_cons_succ, List.set_cons_zero] at HF
    refine ⟨?_, PO.kc HS.out HF, a4, n + 1 + q, c4, ?_, ?_⟩
    · exact (((((KeepsOthers.alloc W _).trans HKA.out).trans (KeepsOthers.setCell _ _ _)).trans HKB.out).trans (KeepsOthers.setCell _ _ _)).from _
    · rw [HSN.out, List.length_append, List.length_cons, HL.out, HN.out]; omega
    · rw [HSN.out]
      have e : done ++ bs ++ [c] ++ t = done ++ (bs ++ (c :: t)) := by simp
      rw [← e]
      exact HF
end Lz
end Go.Proofs.Ythmnaofmpijbiaa
