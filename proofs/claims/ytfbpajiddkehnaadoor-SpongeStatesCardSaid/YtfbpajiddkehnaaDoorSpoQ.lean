/- What the landed package sponge keeps (a premise of the walks: 'Kept'; to be proved of the landed code), and the examples at the head of all statements. -/
import Derived.Test.YtfbpajiddkehnaaDoorSpoR
import Derived.Lib.SlBytesConst
namespace Go.Proofs.YtfbpajiddkehnaaDoor
open Go.RowKit Go.Own
namespace Spo
open Go.KecM Go.SpoM Byt

def RetYes (w : World) (e : Ending) (w' : World) : Prop := e = .returned (.bool true) ∧ Below w.heap.size w w'
abbrev sumV (l : List UInt8) : Value := .agg ((sha l).map byteV).toArray

/-- a slice of slices reads as these bytes -/
def PartsAt (w : World) (v : Value) (ls : List (List UInt8)) : Prop :=
  (v = .slice none 0 0 ∧ ls = []) ∨ ∃ b cap, v = .slice (some ⟨b, 0, none⟩) ls.length cap ∧ b < w.heap.size ∧ ∀ j, j < ls.length → ∃ ao c, w.cell? ⟨b, j, none⟩ = some (.slice ao (ls.getD j []).length c) ∧ View w (fun k => k < w.heap.size) ao (ls.getD j []) ∧ (ls.getD j []).length ≤ c ∧ c ≤ maxLen ∧ (ao = none → c = 0)

structure Kept (W : World) where
  H : Nat → List UInt8 → (Nat → Prop) → World → Prop
  keep : ∀ {p a S T U w w'}, H p a S w → Step T U w w' → Dis S T → H p a S w'
  lt : ∀ {p a S w}, H p a S w → ∀ k, S k → k < w.heap.size
  new : ∀ w, Below W.heap.size W w → Calls Tryd.prog 12 #[] w fun e w' => ∃ p S, e = .returned (.pointer (some ⟨p, 0, none⟩)) ∧ H p [] S w' ∧ Step (fun _ => False) S w w'
  write : ∀ (S D : Nat → Prop) p a ao x cap w, Below W.heap.size W w → H p a S w → View w D ao x → Dis D S → x.length ≤ cap → cap ≤ maxLen → (ao = none → cap = 0) → a.length + x.length ≤ 10000000 →
    Calls Tryd.prog 13 #[.pointer (some ⟨p, 0, none⟩), .slice ao x.length cap] w fun e w' => e = .returned (.tuple #[]) ∧ ∃ S', H p (a ++ x) S' w' ∧ Step S S' w w'
  sum : ∀ (S : Nat → Prop) p a w, Below W.heap.size W w → H p a S w → a.length ≤ 10000000 → Calls Tryd.prog 14 #[.pointer (some ⟨p, 0, none⟩)] w fun e w' => e = .returned (sumV a) ∧ Below w.heap.size w w'
  nilWrite : ∀ ao n cap w, Calls Tryd.prog 13 #[.pointer none, .slice ao n cap] w fun e w' => e = .returned (.tuple #[]) ∧ Below w.heap.size w w'
  nilSum : ∀ w, Below W.heap.size W w → Calls Tryd.prog 14 #[.pointer none] w fun e w' => e = .returned (sumV []) ∧ Below w.heap.size w w'
  all : ∀ v ls w, Below W.heap.size W w → PartsAt w v ls → ls.flatten.length ≤ 10000000 → ls.length ≤ 1000 → Calls Tryd.prog 9 #[v] w fun e w' => e = .returned (sumV ls.flatten) ∧ Below w.heap.size w w'

/-- in every later world too -/
def Kept.later {W W' : World} (K : Kept W) (g : Below W.heap.size W W') : Kept W' where
  H := K.H
  keep := K.keep
  lt := K.lt
  new w h := K.new w (g.trans (h.mono g.size))
  write S D p a ao x cap w h := K.write S D p a ao x cap w (g.trans (h.mono g.size))
  sum S p a w h := K.sum S p a w (g.trans (h.mono g.size))
  nilWrite := K.nilWrite
  nilSum w h := K.nilSum w (g.trans (h.mono g.size))
  all v ls w h := K.all v ls w (g.trans (h.mono g.size))

section
variable {W : World} (K : Kept W)
/-- a State as an object -/
def Kept.A (p : Nat) (a : List UInt8) : Asn := ⟨K.H p a, K.keep, K.lt⟩
variable {w : World} {Ps : List Asn} {p : Nat} {a : List UInt8}
theorem new_st (H : St W.heap.size W w Ps) : Calls Tryd.prog 12 #[] w fun e w' => ∃ p, e = .returned (.pointer (some ⟨p, 0, none⟩)) ∧ St W.heap.size W w' (K.A p [] :: Ps) := by
  refine (K.new w H.below).mono ?_
  rintro e w' ⟨p, S, he, hH, hs⟩
  exact ⟨p, he, H.new (K.A p []) hH hs⟩
theorem write_old (H : St W.heap.size W w Ps) (i : Nat) (hi : Ps[i]? = some (K.A p a)) {ao : Option Addr} {x : List UInt8} {n cap : Nat} (hV : View w (fun k => k < W.heap.size) ao x) (hn : x.length = n) (h1 : n ≤ cap) (h2 : cap ≤ maxLen) (h3 : ao = none → cap = 0) (hl : a.length + n ≤ 10000000) :
    Calls Tryd.prog 13 #[.pointer (some ⟨p, 0, none⟩), .slice ao n cap] w fun e w' => e = .returned (.tuple #[]) ∧ St W.heap.size W w' (Ps.set i (K.A p (a ++ x))) := by
  subst hn
  obtain ⟨S, hS, hB, put⟩ := H.at i hi
  refine (K.write S _ p a ao x cap w H.below hS hV (fun k hk h => by have := hB k h; omega) h1 h2 h3 hl).mono ?_
  rintro e w' ⟨he, S', hW, hs⟩
  exact ⟨he, put S' w' (K.A p _) hW hs⟩
theorem write_own (H : St W.heap.size W w Ps) (i j : Nat) (hij : j ≠ i) (hi : Ps[i]? = some (K.A p a)) {ao : Option Addr} {x : List UInt8} {n cap : Nat} (hj : Ps[j]? = some (AB ao n cap x)) (hl : a.length + n ≤ 10000000) :
    Calls Tryd.prog 13 #[.pointer (some ⟨p, 0, none⟩), .slice ao n cap] w fun e w' => e = .returned (.tuple #[]) ∧ St W.heap.size W w' (Ps.set i (K.A p (a ++ x))) := by
  obtain ⟨S, D, hS, hD, hd, _, put⟩ := H.at2 i j hij hi hj
  obtain ⟨rfl, h1, h2, h3⟩ := AB.len hD
  refine (K.write S D p a ao x cap w H.below hS (AB.view hD) hd h1 h2 (fun h => (h3 h).2) hl).mono ?_
  rintro e w' ⟨he, S', hW, hs⟩
  exact ⟨he, put S' w' (K.A p _) hW hs⟩
theorem sum_st (H : St W.heap.size W w Ps) (i : Nat) (hi : Ps[i]? = some (K.A p a)) (hl : a.length ≤ 10000000) :
    Calls Tryd.prog 14 #[.pointer (some ⟨p, 0, none⟩)] w fun e w' => e = .returned (sumV a) ∧ Below w.heap.size w w' := by
  obtain ⟨S, hS, _⟩ := H.at i hi
  exact K.sum S p a w H.below hS hl
end

/-- a new block of slices, as a call takes its parts -/
theorem parts_one {w : World} {ao : Option Addr} {x : List UInt8} {n cap : Nat} (hV : View w (fun k => k < w.heap.size) ao x) (hn : x.length = n) (h1 : n ≤ cap) (h2 : cap ≤ maxLen) (h3 : ao = none → cap = 0) (t : TypeId) :
    PartsAt (w.alloc (.cells #[.slice ao n cap] t)) (.slice (some ⟨w.heap.size, 0, none⟩) 1 1) [x] := by
  subst hn
  refine .inr ⟨w.heap.size, 1, rfl, by simp, fun j hj => ?_⟩
  have hj0 : j = 0 := by simpa using hj
  subst hj0
  refine ⟨ao, cap, cell_of_block (heap_alloc_new w _) rfl, ?_, h1, h2, h3⟩
  have hb : Below w.heap.size w (w.alloc (.cells #[.slice ao x.length cap] t)) := ((Own.St.start w).alloc _).below
  exact (vlater hV hb).mono (fun k hk => by simp; omega)

theorem PartsAt.later {w w' : World} {v : Value} {ls : List (List UInt8)} (h : PartsAt w v ls) (g : Below w.heap.size w w') : PartsAt w' v ls := by
  rcases h with h | ⟨b, cap, hv, hb, hc⟩
  · exact .inl h
  · refine .inr ⟨b, cap, hv, Nat.lt_of_lt_of_le hb g.size, fun j hj => ?_⟩
    obtain ⟨ao, c, h1, h2, h3, h4, h5⟩ := hc j hj
    exact ⟨ao, c, (World.cell?_of_block (w := w) (g.block b hb)).trans h1, (vlater h2 g).mono (fun k hk => Nat.lt_of_lt_of_le hk g.size), h3, h4, h5⟩
/-- a slot that holds parts -/
def partsTy (ls : List (List UInt8)) : Ty := ⟨fun v w => PartsAt w v ls, fun h g => h.later g⟩
theorem build1 {o : Oper} {x : Operand} (ho : o.op = .buildSlice 30 1 #[(0, x)]) (ρ : Operand → Value) {ao : Option Addr} {l : List UInt8} {n c : Nat} (hx : ρ x = .slice ao n c) (w : World) (hV : View w (fun k => k < w.heap.size) ao l) (hn : l.length = n) (h1 : n ≤ c) (h2 : c ≤ maxLen) (h3 : ao = none → c = 0) :
    ∃ v w', (execOp ρ o).run Tryd.prog w = .ok (.value v) w' ∧ (partsTy [l]).holds v w' ∧ Below w.heap.size w w' := by
  refine ⟨.slice (some ⟨w.heap.size, 0, none⟩) 1 1, w.alloc (.cells #[.slice ao n c] 22), ?_, parts_one hV hn h1 h2 h3 _, ((Own.St.start w).alloc _).below⟩
  simp [execOp, ho, hx, go_sem]
theorem build4 {o : Oper} {x y z u : Operand} (ho : o.op = .buildSlice 30 4 #[(0, x), (1, y), (2, z), (3, u)]) (ρ : Operand → Value) {a1 a2 a4 : Option Addr} {l1 l2 l4 : List UInt8} {n1 n2 n4 c1 c2 c4 : Nat}
    (hx : ρ x = .slice a1 n1 c1) (hy : ρ y = .slice a2 n2 c2) (hz : ρ z = .slice none 0 0) (hu : ρ u = .slice a4 n4 c4) (w : World)
    (H1 : View w (fun k => k < w.heap.size) a1 l1 ∧ l1.length = n1 ∧ n1 ≤ c1 ∧ c1 ≤ maxLen ∧ (a1 = none → c1 = 0)) (H2 : View w (fun k => k < w.heap.size) a2 l2 ∧ l2.length = n2 ∧ n2 ≤ c2 ∧ c2 ≤ maxLen ∧ (a2 = none → c2 = 0)) (H4 : View w (fun k => k < w.heap.size) a4 l4 ∧ l4.length = n4 ∧ n4 ≤ c4 ∧ c4 ≤ maxLen ∧ (a4 = none → c4 = 0)) :
    ∃ v w', (execOp ρ o).run Tryd.prog w = .ok (.value v) w' ∧ (partsTy [l1, l2, [], l4]).holds v w' ∧ Below w.heap.size w w' := by
  obtain ⟨w', hw'⟩ : ∃ w', w' = w.alloc (.cells #[.slice a1 n1 c1, .slice a2 n2 c2, .slice none 0 0, .slice a4 n4 c4] 22) := ⟨_, rfl⟩
  have hb : Below w.heap.size w w' := by rw [hw']; exact ((Own.St.start w).alloc _).below
  have hbl : w'.heap[w.heap.size]? = some (.cells #[.slice a1 n1 c1, .slice a2 n2 c2, .slice none 0 0, .slice a4 n4 c4] 22) := by rw [hw']; exact heap_alloc_new w _
  have up : ∀ {ao : Option Addr} {l : List UInt8}, View w (fun k => k < w.heap.size) ao l → View w' (fun k => k < w'.heap.size) ao l := fun h => (vlater h hb).mono (fun k hk => Nat.lt_of_lt_of_le hk hb.size)
  refine ⟨.slice (some ⟨w.heap.size, 0, none⟩) 4 4, w', ?_, .inr ⟨w.heap.size, 4, rfl, by rw [hw']; simp, fun j hj => ?_⟩, hb⟩
  · rw [hw']; simp [execOp, ho, hx, hy, hz, hu, go_sem]
  · obtain ⟨v1, rfl, k1, k2, k3⟩ := H1
    obtain ⟨v2, rfl, k4, k5, k6⟩ := H2
    obtain ⟨v4, rfl, k7, k8, k9⟩ := H4
    have hj4 : j < 4 := hj
    match j, hj4 with
    | 0, _ => exact ⟨a1, c1, cell_of_block hbl rfl, up v1, k1, k2, k3⟩
    | 1, _ => exact ⟨a2, c2, cell_of_block hbl rfl, up v2, k4, k5, k6⟩
    | 2, _ => exact ⟨none, 0, cell_of_block hbl rfl, .inl rfl, Nat.le_refl _, Nat.zero_le _, fun _ => rfl⟩
    | 3, _ => exact ⟨a4, c4, cell_of_block hbl rfl, up v4, k7, k8, k9⟩

/-- fingerprints, compared -/
theorem eqlSum {o : Oper} {x y : Tmp} (ho : o.op = .binOp .eql 25 (.tmp x) (.tmp y) 25) {s t : List UInt8} (hs : s.length = 32) (ht : t.length = 32) {v : Bool} (hv : decide (s = t) = v) (ρ : Operand → Value) (w : World)
    (h0 : ρ (.tmp x) = .agg (s.map byteV).toArray) (h1 : ρ (.tmp y) = .agg (t.map byteV).toArray) : (execOp ρ o).run Tryd.prog w = .ok (.value (.bool v)) w := by
  have e0 : ∀ l : List UInt8, l.map byteV = (l.map (fun c => (c.toNat : Int))).map (Value.int .u8) := fun l => by simp [byteV]
  have h := run_equalIn_ints (P := Tryd.prog) 9998 25 5 .u8 (s.map (fun c => (c.toNat : Int))) (t.map (fun c => (c.toNat : Int))) (by simp [hs, ht]) (by rw [List.length_map, hs]; exact Tryd.underlying25) Tryd.underlying5 (fun w => by kernel_rfl) (fun w => by kernel_rfl) w
  have hd : decide (s.map (fun c => (c.toNat : Int)) = t.map (fun c => (c.toNat : Int))) = decide (s = t) := by
    apply decide_eq_decide.2
    constructor
    · intro h
      exact (List.map_inj_right (fun x y h => UInt8.toNat_inj.1 (by omega))).1 h
    · rintro rfl; rfl
  rw [hd, hv, ← e0, ← e0] at h
  have h' : (Op.equalIn 10000 25 (.agg (s.map byteV).toArray) (.agg (t.map byteV).toArray)).run Tryd.prog w = .ok v w := h
  unfold execOp
  simp only [ho, h0, h1]
  generalize (s.map byteV).toArray = A at h' ⊢
  generalize (t.map byteV).toArray = B at h' ⊢
  simp [go_sem, h']

theorem wpList_eql_sum {ops : Array Oper} {rest : List Oper} {o : Oper} {a : Act} {w : World} {Q : Exit → Act → World → Prop} (hw : Region.wanted o (yielded ops a.tmps) = true) (x y : Tmp) (ho : o.op = .binOp .eql 25 (.tmp x) (.tmp y) 25)
    {s t : List UInt8} (hs : s.length = 32) (ht : t.length = 32) {v : Bool} (hv : decide (s = t) = v) (hx : a.eval (.tmp x) = .agg (s.map byteV).toArray) (hy : a.eval (.tmp y) = .agg (t.map byteV).toArray)
    (h : wpList Tryd.prog ops Q rest (a.put o.dst (.bool v)) w) : wpList Tryd.prog ops Q (o :: rest) a w := by
  refine wpList_want hw ?_
  unfold Oper.wp
  rw [eqlSum ho hs ht hv _ w hx hy]
  exact h

set_option maxHeartbeats 800000 in
theorem shown_any {w : World} (K : Kept w) : Calls Tryd.prog 8 #[] w (RetYes w) := by
  have kc := fun (wx : World) (C : Array Value) (n c : Nat) => Lib.run_convert_bytes_const (P := Tryd.prog) wx 22 5 C n c Tryd.underlying22 Tryd.underlying5
  have C1 := Lib.hid (fun wx hwx => K.all (.slice none 0 0) [] wx hwx (.inl ⟨rfl, rfl⟩) (by simp) (by simp))
  go_enter Tryd.func8, Tryd.ntmps8
  go_wp2_with (fail)
  refine (C1.out w (Below.refl _ _)).mono ?_
  rintro e w1 ⟨rfl, hw1⟩
  have H1 := Lib.hid ((Own.St.start w).later hw1)
  clear hw1
  go_wp2_with (fail)
  obtain ⟨w2, hw2⟩ : ∃ v, v = w1.alloc (.cells #[.int .u8 97, .int .u8 98, .int .u8 99] 5 (3, 4)) := ⟨_, rfl⟩
  have hsz : w2.heap.size = w1.heap.size + 1 := by rw [hw2]; simp
  have HV2 : View w2 (fun k => k < w2.heap.size) (some ⟨w1.heap.size, 0, none⟩) [97, 98, 99] := by
    refine .inr ⟨w1.heap.size, 0, rfl, by omega, by omega, fun j hj => ?_⟩
    have hb : w2.heap[w1.heap.size]? = some (.cells #[.int .u8 97, .int .u8 98, .int .u8 99] 5 (3, 4)) := by rw [hw2]; exact heap_alloc_new w1 _
    have hj3 : j < 3 := hj
    match j, hj3 with
    | 0, _ => exact cell_of_block hb rfl
    | 1, _ => exact cell_of_block hb rfl
    | 2, _ => exact cell_of_block hb rfl
  have H2 : Own.St w.heap.size w w2 [] := by rw [hw2]; exact H1.out.alloc _
  have HP := parts_one HV2 rfl (show 3 ≤ 3 by decide) (show 3 ≤ maxLen by unfold maxLen; omega) (by intro h; cases h) 22
  have C2 := K.all _ _ _ (H2.alloc (.cells #[.slice (some ⟨w1.heap.size, 0, none⟩) 3 3] 22)).below HP (by simp) (by simp)
  rw [hsz] at C2
  rw [← hw2]
  have H3 := Lib.hid (H2.alloc (.cells #[.slice (some ⟨w1.heap.size, 0, none⟩) 3 3] 22))
  clear HV2 HP H2 hsz hw2
  refine C2.mono ?_
  clear C2
  rintro e w3 ⟨rfl, hw3⟩
  have H4 := Lib.hid (H3.out.later hw3)
  clear hw3 H3 H1
  obtain ⟨S1, hS1⟩ : ∃ l, l = sha [] := ⟨_, rfl⟩
  obtain ⟨S2, hS2⟩ : ∃ l, l = sha [97, 98, 99] := ⟨_, rfl⟩
  have e1 : sumV [] = .agg (S1.map byteV).toArray := by rw [hS1]
  have e2 : sumV [[97, 98, 99]].flatten = .agg (S2.map byteV).toArray := by rw [hS2]; rfl
  have L1 : Hid (S1.length = 32) := by rw [hS1]; exact sha_len _
  have L2 : Hid (S2.length = 32) := by rw [hS2]; exact sha_len _
  have T1 : Hid (S1.take 4 = [167, 255, 198, 248]) := by rw [hS1]; exact shown_none
  have T2 : Hid (S2.take 4 = [58, 152, 93, 167]) := by rw [hS2]; exact shown_abc
  rw [e1, e2]
  clear e1 e2 hS1 hS2 kc
  have hst := A8.box (A8.box H4.out 25 (List.replicate 32 0)) 25 (List.replicate 32 0)
  simp only [size_alloc'] at hst
  have THERE1 := Lib.hid (A8.there hst 1 rfl S1 (by rw [L1.out]; rfl))
  have ALL1 := Lib.hid (A8.setAll hst 1 rfl S1 (by rw [L1.out]; rfl))
  have THERE2 := Lib.hid (A8.there ALL1.out 0 rfl S2 (by rw [L2.out]; rfl))
  have ALL2 := Lib.hid (A8.setAll ALL1.out 0 rfl S2 (by rw [L2.out]; rfl))
  have VW1 := Lib.hid (vtake (A8.view ALL2.out 1 rfl) 4)
  have VW2 := Lib.hid (vtake (A8.view ALL2.out 0 rfl) 4)
  have I1 := Lib.hid (info_sum S1 L1.out)
  have I2 := Lib.hid (info_sum S2 L2.out)
  have O1 := Lib.hid (one8 S1)
  have O2 := Lib.hid (one8 S2)
  rw [T1.out] at VW1
  rw [T2.out] at VW2
  have hc1 : (strB [167, 255, 198, 248]).toList = [167, 255, 198, 248] := strB_toList _
  have hc2 : (strB [58, 152, 93, 167]).toList = [58, 152, 93, 167] := strB_toList _
  clear hst
  go_wp2_with (first
    | (refine wpList_store_mid rfl 25 (.tmp 1) (.tmp 3) rfl w3.heap.size 0 (S1.map byteV).toArray rfl rfl THERE1.out I1.out O1.out ?_)
    | (refine wpList_store_mid rfl 25 (.tmp 2) (.tmp 7) rfl (w3.heap.size + 1) 0 (S2.map byteV).toArray rfl rfl THERE2.out I2.out O2.out ?_)
    | (refine wpList_str8 rfl (.tmp 8) rfl (some ⟨w3.heap.size, 0, none⟩) 4 32 rfl _ [167, 255, 198, 248] VW1.out rfl ?_)
    | (refine wpList_str8 rfl (.tmp 12) rfl (some ⟨w3.heap.size + 1, 0, none⟩) 4 32 rfl _ [58, 152, 93, 167] VW2.out rfl ?_))
  go_ret
  exact ⟨rfl, ALL2.out.below⟩
end Spo
end Go.Proofs.YtfbpajiddkehnaaDoor
