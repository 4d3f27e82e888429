/- The landed firstItem, putBytes. -/
import Derived.Test.YthmnaofmpijbiaaLzT
namespace Go.Proofs.Ythmnaofmpijbiaa
open Go.RowKit Go.Own
namespace Lz
open Go.MatM Go.LzM Byt

/-- an item as a value: kind, size, length, distance -/
def itemV (a b c d : Nat) : Value := .agg #[.int .i64 (a : Int), .int .i64 (b : Int), .int .i64 (c : Int), .int .i64 (d : Int)]


theorem heap_first (w : World) (o o' : Obj) : ((w.alloc o).alloc o').heap[w.heap.size]? = some o := (Below.heap_alloc _ _ _ (by simp)).trans (heap_alloc_new w o)
theorem infoItem : (Try.prog.info? 42).map (·.size) = some 4 := by kernel_rfl
theorem two_below (w : World) (o o' : Obj) : Below w.heap.size w ((w.alloc o).alloc o') := ((Below.refl _ w).alloc (Nat.le_refl _) _).alloc (by simp) _

/-- what the first item of an encoding is -/
def itemR (n : Nat) (c d : UInt8) : Value := if c.toNat < 128 then (if n < c.toNat + 2 then itemV 0 0 0 0 else itemV 2 (c.toNat + 2) (c.toNat + 1) 0) else (if n < 2 then itemV 0 0 0 0 else itemV 1 2 (c.toNat - 125) (d.toNat + 1))

set_option maxRecDepth 10000 in
set_option maxHeartbeats 4000000 in
theorem first_lit (ao : Option Addr) (n cap : Nat) (p : Bs) (w : World) (hg : Given w ao n cap p) (hb : n ≤ 1000000) (h0 : 1 ≤ n) (c : UInt8) (hc : p.getD 0 0 = c) (hl : c.toNat < 128) :
    Calls Try.prog 24 #[.slice ao n cap] w fun e w' => e = .returned (if n < c.toNat + 2 then itemV 0 0 0 0 else itemV 2 (c.toNat + 2) (c.toNat + 1) 0) ∧ Below w.heap.size w w' := by
  obtain ⟨gb, go, rfl, _, hlt, hc0⟩ := vat hg.view (k := 0) (by rw [hg.size]; omega)
  rw [hc, Nat.add_zero] at hc0
  obtain ⟨q, hq⟩ : ∃ q, c.toNat + 2 = q := ⟨_, rfl⟩
  obtain ⟨r, hr⟩ : ∃ r, c.toNat + 1 = r := ⟨_, rfl⟩
  have e1 : (c.toNat : Int) + 2 = (q : Int) := by omega
  have e2 : (c.toNat : Int) + 1 = (r : Int) := by omega
  have hli : (c.toNat : Int) < 128 := by omega
  rw [hq, hr]
  clear hg hc hq hr
  by_cases hnq : n < q
  · rw [if_pos hnq]
    go_enter Try.func24, Try.ntmps24
    go_wp2
    refine bodyPost_ret (results_cell_row rfl _ _ w.heap.size 42 _ (0, 0) _ rfl (heap_first w _ _) Try.underlying42 rfl infoItem) rfl ⟨rfl, two_below w _ _⟩
  · rw [if_neg hnq]
    go_enter Try.func24, Try.ntmps24
    go_wp2
    refine bodyPost_ret (results_cell_row rfl _ _ w.heap.size 42 _ (0, 0) _ rfl (heap_first w _ _) Try.underlying42 rfl infoItem) rfl ⟨rfl, two_below w _ _⟩

set_option maxRecDepth 10000 in
set_option maxHeartbeats 4000000 in
theorem first_ref (ao : Option Addr) (n cap : Nat) (p : Bs) (w : World) (hg : Given w ao n cap p) (hb : n ≤ 1000000) (h0 : 1 ≤ n) (c d : UInt8) (hc : p.getD 0 0 = c) (hd : p.getD 1 0 = d) (hl : ¬ c.toNat < 128) :
    Calls Try.prog 24 #[.slice ao n cap] w fun e w' => e = .returned (if n < 2 then itemV 0 0 0 0 else itemV 1 2 (c.toNat - 125) (d.toNat + 1)) ∧ Below w.heap.size w w' := by
  have hV := hg.view
  obtain ⟨gb, go, rfl, _, hlt, hc0⟩ := vat hV (k := 0) (by rw [hg.size]; omega)
  rw [hc, Nat.add_zero] at hc0
  obtain ⟨q, hq⟩ : ∃ q, c.toNat + 2 = q := ⟨_, rfl⟩
  obtain ⟨r, hr⟩ : ∃ r, c.toNat + 1 = r := ⟨_, rfl⟩
  obtain ⟨m, hm⟩ : ∃ m, c.toNat - 125 = m := ⟨_, rfl⟩
  have e1 : (c.toNat : Int) + 2 = (q : Int) := by omega
  have e2 : (c.toNat : Int) + 1 = (r : Int) := by omega
  have e3 : (c.toNat : Int) - 128 + 3 = (m : Int) := by omega
  have hli : ¬ (c.toNat : Int) < 128 := by omega
  have hc8 : c.toNat ≤ 255 := by have := c.toNat_lt; omega
  rw [hm]
  by_cases hn2 : n < 2
  · rw [if_pos hn2]
    clear hg hc hq hr hd hm hV
    have hn2i : (n : Int) < 2 := by omega
    go_enter Try.func24, Try.ntmps24
    go_wp2
    refine bodyPost_ret (results_cell_row rfl _ _ w.heap.size 42 _ (0, 0) _ rfl (heap_first w _ _) Try.underlying42 rfl infoItem) rfl ⟨rfl, two_below w _ _⟩
  · rw [if_neg hn2]
    have hc1 := vcell hV (k := 1) (by rw [hg.size]; omega)
    rw [hd] at hc1
    obtain ⟨D, hD⟩ : ∃ D, d.toNat + 1 = D := ⟨_, rfl⟩
    have e4 : (d.toNat : Int) + 1 = (D : Int) := by omega
    have hd8 : d.toNat ≤ 255 := by have := d.toNat_lt; omega
    have hn2i : ¬ (n : Int) < 2 := by omega
    have hn1 : 1 < n := by omega
    have hn1i : (1 : Int) < n := by omega
    rw [hD]
    clear hg hc hq hr hd hm hV hD
    go_enter Try.func24, Try.ntmps24
    go_wp2
    refine bodyPost_ret (results_cell_row rfl _ _ w.heap.size 42 _ (0, 0) _ rfl (heap_first w _ _) Try.underlying42 rfl infoItem) rfl ⟨rfl, two_below w _ _⟩
theorem first_any (ao : Option Addr) (n cap : Nat) (p : Bs) (w : World) (hg : Given w ao n cap p) (hb : n ≤ 1000000) (h0 : 1 ≤ n) (c d : UInt8) (hc : p.getD 0 0 = c) (hd : p.getD 1 0 = d) :
    Calls Try.prog 24 #[.slice ao n cap] w fun e w' => e = .returned (itemR n c d) ∧ Below w.heap.size w w' := by
  unfold itemR
  by_cases hl : c.toNat < 128
  · rw [if_pos hl]; exact first_lit ao n cap p w hg hb h0 c hc hl
  · rw [if_neg hl]; exact first_ref ao n cap p w hg hb h0 c d hc hd hl

set_option maxRecDepth 10000 in
set_option maxHeartbeats 4000000 in
theorem putB_lit {B : Nat} {w0 w : World} {Ps : List Asn} {ax : Option Addr} {k cx : Nat} {out : Bs} {ab : Option Addr} {n cap : Nat} {p : Bs} (H : Own.St B w0 w (AB ax k cx out :: Ps)) (hV : View w (fun k => k < B) ab p) (hn : p.length = n) (hc : n ≤ cap) (hcm : cap ≤ maxLen) (hno : ab = none → cap = 0) (q r : Nat) (hq : q ≤ n) (hq1 : 1 ≤ q) (hb : k + q ≤ 1000000000) :
    Calls Try.prog 25 #[.slice ax k cx, itemV 2 q r 0, .slice ab n cap] w fun e w' => ∃ a' c', e = .returned (.slice a' (k + (q - 1)) c') ∧ Own.St B w0 w' (AB a' (k + (q - 1)) c' (out ++ (p.take q).drop 1) :: Ps) := by
  obtain ⟨am, cm, hM1, hM2⟩ := cutMid (ao := ab) (l := p) (m := n) (cap := cap) 1 q hn hq1 hq hc hcm hno
  obtain ⟨s, hs⟩ : ∃ s, q - 1 = s := ⟨_, rfl⟩
  rw [hs] at hM1 hM2 ⊢
  have H1 := Lib.hid (H.alloc (.cells #[.int .i64 2, .int .i64 (q : Int), .int .i64 (r : Int), .int .i64 0] 42))
  have HC := Lib.hid (vcells (hM2.view _ _ (View.below hV (((Below.refl _ w).alloc H.size (.cells #[.int .i64 2, .int .i64 (q : Int), .int .i64 (r : Int), .int .i64 0] 42))))))
  have CM1 := Lib.hid hM1
  have CM2 := Lib.hid hM2
  have hbs : k + s ≤ 1000000000 := by omega
  clear H hV hM1 hM2 hs
  unfold itemV
  go_enter Try.func25, Try.ntmps25
  go_wp2_with (first
    | (refine Byt.wpList_val rfl (CM1.out _ (.tmp 11) (.const (.int .i64 1)) (.tmp 13) rfl _ _ rfl rfl rfl) ?_)
    | (at_builtin; refine Byt.wpList_ab_append rfl (.tmp 10) (.tmp 14) rfl H1.out 0 rfl rfl am s cm _ rfl (fun e => ⟨by have := CM2.out.none e; have := CM2.out.cap; omega, CM2.out.none e⟩) CM2.out.len HC.out hbs ?_; intro a4 c4 w4 h4; simp only [List.set_cons_zero] at h4; have H4 := Lib.hid h4; clear h4))
  go_ret
  exact ⟨_, _, rfl, H4.out⟩

set_option maxRecDepth 10000 in
set_option maxHeartbeats 4000000 in
theorem putB_ref {B : Nat} {w0 w : World} {Ps : List Asn} {ax : Option Addr} {k cx : Nat} {out : Bs} {v : Value} (H : Own.St B w0 w (AB ax k cx out :: Ps)) (d m : Nat) (hd : 1 ≤ d) (hdk : d ≤ k) (hb : k + m ≤ 1000000000) :
    Calls Try.prog 25 #[.slice ax k cx, itemV 1 2 m d, v] w fun e w' => ∃ a' c', e = .returned (.slice a' (k + m) c') ∧ Own.St B w0 w' (AB a' (k + m) c' (copyN out d m) :: Ps) := by
  have H1 := H.alloc (.cells #[.int .i64 1, .int .i64 2, .int .i64 (m : Int), .int .i64 (d : Int)] 42)
  have C := Lib.hid (repeat_st H1 d m hd hdk hb)
  clear H H1
  unfold itemV
  go_enter Try.func25, Try.ntmps25
  go_wp2_with (fail)
  refine C.out.mono ?_
  clear C
  rintro e w' ⟨a', c', rfl, h⟩
  have HH := Lib.hid h
  clear h
  go_wp2_with (fail)
  go_ret
  exact ⟨_, _, rfl, HH.out⟩
end Lz
end Go.Proofs.Ythmnaofmpijbiaa
