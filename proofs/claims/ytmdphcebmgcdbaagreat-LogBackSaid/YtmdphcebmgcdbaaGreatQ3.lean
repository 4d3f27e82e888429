/- Merged: TabR TabRb Res TabRc Cod CodA CodB CodC CodD CodE CodS CodP TabRd TabRe Acts TabQ RecP StrS RecR RecTb RecRb RecQ Ado LogQ LawLog LawLogA LawLogN LawLogB LawLogC LawLogD FlaK -/
import Derived.BigQuiet
import Derived.BigRegion
import Derived.Deep.QuietTactic
import Derived.Lib.Hide
import Derived.OwnWalk
import Derived.Test.YtmdphcebmgcdbaaGreatRows
import Derived.WalkKit
import Derived.Deep.RegionLaw
import Derived.Deep.DeepMust
import Derived.WalkSpells
import Derived.WalkLawsBesides
import Derived.Laws.StructEq
import Derived.Deep.MidRow
import Derived.Laws.Rows
import Derived.Great.Walk
import Derived.Maps.Own
import Derived.Maps.Views
import Derived.WideKeyArr
import Derived.Carry
import Derived.Test.YtmdphcebmgcdbaaGreatQ1
import Derived.Test.YtmdphcebmgcdbaaGreatQ2
set_option linter.unusedVariables false
section
namespace Go.Proofs.YtmdphcebmgcdbaaGreat
open Go.RowKit Go.Own
namespace Tab
open Go.TabM
abbrev ptr (p : Nat) : Value := .pointer (some ⟨p, 0, none⟩)
abbrev errT (n : Nat) : Value := .int .i64 (n : Int)
abbrev sgC (s : Sg) : List Value := [.int .u8 (s.kind : Int), .int .u64 (s.seq : Int), .int .u32 (s.wear : Int)]
theorem sgC_len (l : List Sg) : ∀ a ∈ l, (sgC a).length = 3 := fun _ _ => rfl
abbrev RowG (v : Value) (rows : List Sg) : Asn := ARow 106 3 v rows.length (rows.flatMap sgC)
abbrev tabC (v : Value) (t : T) : List Value := [v, .int .u64 (t.next : Int)]
theorem flat_set (l : List Sg) (j k : Nat) (s : Sg) (u : Value) (hj : j < l.length) (hk : k < 3) (he : (sgC (at_ l j)).set k u = sgC s) : (l.flatMap sgC).set (j * 3 + k) u = (l.set j s).flatMap sgC := by
  induction l generalizing j with
  | nil => simp at hj
  | cons x l ih =>
    cases j with
    | zero =>
      rw [Nat.zero_mul, Nat.zero_add, List.flatMap_cons, List.set_append_left _ _ (by simpa using hk), List.set_cons_zero, List.flatMap_cons]
      congr 1
    | succ j =>
      rw [List.flatMap_cons, List.set_append_right _ _ (by show 3 ≤ _; omega), List.set_cons_succ, List.flatMap_cons]
      congr 1
      rw [← ih j (by simpa using hj) he]
      congr 1
      show (j + 1) * 3 + k - 3 = _
      omega
section
variable {B : Nat} {w0 w : World} {Ps : List Asn} {q : Nat} {v : Value} {t : T}
structure At (w : World) (g j : Nat) (s : Sg) : Prop where
  c0 : w.cell? ⟨g, j * 3, none⟩ = some (.int .u8 (s.kind : Int))
  c1 : w.cell? ⟨g, j * 3 + 1, none⟩ = some (.int .u64 (s.seq : Int))
  c2 : w.cell? ⟨g, j * 3 + 2, none⟩ = some (.int .u32 (s.wear : Int))
theorem rowG_at {rows : List Sg} (H : Own.St B w0 w Ps) (i : Nat) (hi : Ps[i]? = some (RowG v rows)) (j : Nat) (hj : j < rows.length) :
    ∃ g c, v = .slice (some ⟨g, 0, none⟩) rows.length c ∧ At w g j (at_ rows j) := by
  obtain ⟨ao, c, rfl⟩ := H.rowForm i hi
  have f := fun k hk => flat_at sgC 3 rows (sgC_len rows) j (at_ rows j) (at_get hj) k hk
  obtain ⟨g, rfl, ⟨u0, h0, c0⟩, _, _⟩ := H.rowAt i hi (j * 3 + 0) (by omega)
  obtain ⟨g1, e1, ⟨u1, h1, c1⟩, _, _⟩ := H.rowAt i hi (j * 3 + 1) (by omega)
  cases e1
  obtain ⟨g2, e2, ⟨u2, h2, c2⟩, _, _⟩ := H.rowAt i hi (j * 3 + 2) (by omega)
  cases e2
  rw [f 0 (by omega)] at h0; cases h0
  rw [f 1 (by omega)] at h1; cases h1
  rw [f 2 (by omega)] at h2; cases h2
  exact ⟨g, c, rfl, c0, c1, c2⟩
theorem rowG_set {rows : List Sg} {g c : Nat} (H : Own.St B w0 w Ps) (i : Nat) (hi : Ps[i]? = some (RowG (.slice (some ⟨g, 0, none⟩) rows.length c) rows)) (j k : Nat) (s : Sg) (u : Value) (hj : j < rows.length) (hk : k < 3) (he : (sgC (at_ rows j)).set k u = sgC s) :
    w.frozen? ⟨g, j * 3 + k, none⟩ = false ∧ Own.St B w0 (w.setCell ⟨g, j * 3 + k, none⟩ u) (Ps.set i (RowG (.slice (some ⟨g, 0, none⟩) rows.length c) (rows.set j s))) := by
  obtain ⟨g1, e1, _, fz, put⟩ := H.rowAt i hi (j * 3 + k) (by omega)
  cases e1
  refine ⟨fz, ?_⟩
  have h := put u
  rw [flat_set rows j k s u hj hk he] at h
  rw [show RowG (.slice (some ⟨g, 0, none⟩) rows.length c) (rows.set j s) = ARow 106 3 (.slice (some ⟨g, 0, none⟩) rows.length c) rows.length ((rows.set j s).flatMap sgC) by
    show ARow _ 3 _ (rows.set j s).length _ = _
    rw [List.length_set]]
  exact h
end
def curV (t : T) : Value := .tuple #[.int .i64 (((cur t).getD 0 : Nat) : Int), .bool (cur t).isSome]
section
variable {B : Nat} {w0 w : World} {Ps : List Asn} {q : Nat} {v : Value} {t : T} {N : Nat}
end
end Tab
end Go.Proofs.YtmdphcebmgcdbaaGreat
end
section
namespace Go.Proofs.YtmdphcebmgcdbaaGreat
open Go.RowKit Go.Own
namespace Tab
open Go.TabM
theorem manySeg : Many Tryz.prog 95 106 3 24 := ⟨Tryz.underlying95, by kernel_rfl, by decide⟩
theorem zero_seg : (Tryz.prog.info? 106).bind (·.zero) = some (.agg (sgC zS).toArray) := by kernel_rfl
theorem flat_fresh (n : Nat) : (List.replicate n (sgC zS)).flatten = (List.replicate n zS).flatMap sgC := by rw [List.flatMap_def, List.map_replicate]
section
variable {B : Nat} {w0 w : World} {Ps : List Asn} {q : Nat} {v : Value} {t : T} {N : Nat}
end
end Tab
end Go.Proofs.YtmdphcebmgcdbaaGreat
end
section
namespace Go.Own
open Go.RowKit
theorem results_cell_two {P : Program} {fn : Func} {p q : Tmp} {ty : TypeId} (h : fn.results = #[.cell p ty, .tmp q]) (tmps : Array Value) (w : World) (g : Nat) (t : TypeId) (cs : Array Value) (fr : Nat × Nat) (d : TypeDesc) (v : Value)
    (hp : tmps.getD p undef = .pointer (some ⟨g, 0, none⟩)) (hq : tmps.getD q undef = v) (hg : w.heap[g]? = some (.cells cs t fr))
    (hu : P.underlying ty = some d) (hd : (match d with | .struct _ | .array _ _ => true | _ => false) = true) (hi : (P.info? ty).map (·.size) = some cs.size) :
    (results fn tmps).run P w = .ok (.tuple #[.agg cs, v]) w := by
  have hp' : tmps[p]?.getD undef = .pointer (some ⟨g, 0, none⟩) := by simpa using hp
  have hq' : tmps[q]?.getD undef = v := by simpa using hq
  simp [results, h, hp', hq', asAddr, run_loadVar_row w g t ty cs fr d hg hu hd hi]
theorem results_four {P : Program} {fn : Func} {a b c d : Tmp} (h : fn.results = #[.tmp a, .tmp b, .tmp c, .tmp d]) (tmps : Array Value) (w : World) {va vb vc vd : Value} (ha : tmps.getD a undef = va) (hb : tmps.getD b undef = vb) (hc : tmps.getD c undef = vc) (hd : tmps.getD d undef = vd) :
    (results fn tmps).run P w = .ok (.tuple #[va, vb, vc, vd]) w := by
  have ha' : tmps[a]?.getD undef = va := by simpa using ha
  have hb' : tmps[b]?.getD undef = vb := by simpa using hb
  have hc' : tmps[c]?.getD undef = vc := by simpa using hc
  have hd' : tmps[d]?.getD undef = vd := by simpa using hd
  simp [results, h, ha', hb', hc', hd']
end Go.Own
end
section
namespace Go.Proofs.YtmdphcebmgcdbaaGreat
open Go.RowKit Go.Own
namespace Tab
open Go.TabM
theorem idx_seg {o : Oper} {x y : Tmp} (ho : o.op = .indexAddr 95 (.tmp x) (.tmp y)) {g n c k : Nat} (hk : k < n) (ρ : Operand → Value) (w : World) (h0 : ρ (.tmp x) = .slice (some ⟨g, 0, none⟩) n c) (h1 : ρ (.tmp y) = .int .i64 (k : Int)) : (execOp ρ o).run Tryz.prog w = .ok (.value (.pointer (some ⟨g, k * 3, none⟩))) w := by
  have hk' : (k : Int) < (n : Int) := by omega
  simp [execOp, ho, h0, h1, go_sem, hk', add_of]
theorem sat_lt {o : Oper} {x : Tmp} (ho : o.op = .binOp .lss 31 (.tmp x) (.const (.int .u32 4294967295)) 31) {k : Nat} (hk : k ≤ 100000) (ρ : Operand → Value) (w : World) (h0 : ρ (.tmp x) = .int .u32 (k : Int)) (h1 : ρ (.const (.int .u32 4294967295)) = .int .u32 4294967295) : (execOp ρ o).run Tryz.prog w = .ok (.value (.bool true)) w := by
  have hk' : (k : Int) < 4294967295 := by omega
  simp [execOp, ho, h0, h1, go_sem, hk']
def opV (x : Nat × Nat × Nat) : Value := .tuple #[.int .i64 (x.1 : Int), .int .u64 (x.2.1 : Int), errT x.2.2]
section
variable {B : Nat} {w0 w : World} {Ps : List Asn} {q : Nat} {v : Value} {t : T} {N : Nat}
end
end Tab
end Go.Proofs.YtmdphcebmgcdbaaGreat
end
section
namespace Go.Proofs.YtmdphcebmgcdbaaGreat
open Go.RowKit Go.Own
theorem Tryz.infoU8 : (Tryz.prog.info? 5).map (fun i => (i.zero, i.size, i.bytes)) = some (some (.int .u8 0), 1, 1) := by kernel_rfl
namespace Cod
def le (n : Nat) : Nat → List UInt8
  | 0 => []
  | k + 1 => le n k ++ [UInt8.ofNat (n / 2 ^ (8 * k))]
theorem le_len (n k : Nat) : (le n k).length = k := by induction k <;> simp [le, *]
theorem le_byte (n k : Nat) : IntKind.u8.wrap ((n : Int) / 2 ^ (8 * (k : Int)).toNat) = ((UInt8.ofNat (n / 2 ^ (8 * k))).toNat : Int) := by
  have e : (8 * (k : Int)).toNat = 8 * k := by omega
  rw [e, IntKind.wrap_u8]
  simp
structure WS where
  room : Int
  xs : List UInt8
  err : Int
def WS.lay (s : WS) (bs : List UInt8) : WS := if s.err ≠ 0 then s else if s.room - s.xs.length < bs.length then { s with err := 4 } else { s with xs := s.xs ++ bs }
def WS.num (s : WS) (n : Nat) (many : Int) : WS := if s.err ≠ 0 then s else if many < 0 ∨ 8 < many then { s with err := 1 } else s.lay (le n many.toNat)
def WS.blob (s : WS) (bs : List UInt8) : WS := if s.err ≠ 0 then s else if 65535 < bs.length then { s with err := 4 } else s.lay (le bs.length 2 ++ bs)
def Wr (w : World) (S : Nat → Prop) (p : Nat) (s : WS) : Prop :=
  ∃ v T, w.heap[p]? = some (.cells #[.int .i64 s.room, v, .int .i64 s.err] 162 (0, 0)) ∧ Row w 5 1 T v s.xs.length (s.xs.map byteV) ∧ ¬ T p ∧ (∀ k, S k ↔ (k = p ∨ T k)) ∧ 0 ≤ s.room ∧ s.room ≤ 9223372036854775807
def WrTo (S : Nat → Prop) (p : Nat) (s : WS) (w w' : World) : Prop := ∃ S', Wr w' S' p s ∧ Step S S' w w'
theorem Wr.keep {w w' : World} {S T U : Nat → Prop} {p : Nat} {s : WS} (h : Wr w S p s) (g : Step T U w w') (hd : Dis S T) : Wr w' S p s := by
  obtain ⟨v, R, hb, hr, hR, hS, h0, h1⟩ := h
  exact ⟨v, R, (g.block p (lt_of_block hb) (hd p ((hS p).2 (.inl rfl)))).trans hb, hr.step g (fun k hk => hd k ((hS k).2 (.inr hk))), hR, hS, h0, h1⟩
theorem Wr.lt {w : World} {S : Nat → Prop} {p : Nat} {s : WS} (h : Wr w S p s) : ∀ k, S k → k < w.heap.size := by
  obtain ⟨v, R, hb, hr, hR, hS, h0, h1⟩ := h
  intro k hk
  rcases (hS k).1 hk with rfl | h
  · exact lt_of_block hb
  · exact hr.lt k h
theorem Wr.drewN {w : World} {S : Nat → Prop} {p : Nat} {s : WS} (h : Wr w S p s) (n : Nat) : WrTo S p s w (w.drewN n) :=
  ⟨S, h.keep (T := fun _ => False) (U := fun _ => False) ((Step.refl _ _).drewN n) (fun _ _ h => h), (Step.refl _ _).drewN n⟩
theorem Wr.fault {w : World} {S : Nat → Prop} {p : Nat} {s : WS} (h : Wr w S p s) (n : Nat) (x : Int) : WrTo S p { s with err := x } w ((w.drewN n).setCell ⟨p, 2, none⟩ (.int .i64 x)) := by
  obtain ⟨v, R, hb, hr, hR, hS, h0, h1⟩ := h
  have g : Step (fun k => k = p) (fun k => k = p) w ((w.drewN n).setCell ⟨p, 2, none⟩ (.int .i64 x)) := ((Step.refl (fun k => k = p) w).drewN n).setCell (a := ⟨p, 2, none⟩) (Or.inl rfl) _
  refine ⟨S, ⟨v, R, ?_, hr.step g (fun k h e => hR (e ▸ h)), hR, hS, h0, h1⟩, ((Step.refl S w).drewN n).setCell (a := ⟨p, 2, none⟩) (Or.inl ((hS p).2 (.inl rfl))) _⟩
  have e : (w.drewN n).heap[p]? = some (.cells #[.int .i64 s.room, v, .int .i64 s.err] 162 (0, 0)) := hb
  rw [block_setCell e]
  rfl
theorem Wr.push {wr w0 w1 : World} {S T T' : Nat → Prop} {p : Nat} {s : WS} {v v' : Value} {c : UInt8}
    (hb : wr.heap[p]? = some (.cells #[.int .i64 s.room, v, .int .i64 s.err] 162 (0, 0))) (hT : ¬ T p) (hS : ∀ k, S k ↔ (k = p ∨ T k)) (hr0 : 0 ≤ s.room) (hr1 : s.room ≤ 9223372036854775807)
    (h0 : Step T T wr w0) (hs : Step T T' w0 w1) (hr : Row w1 5 1 T' v' (s.xs.length + 1) (s.xs.map byteV ++ [byteV c])) :
    WrTo S p { s with xs := s.xs ++ [c] } wr (w1.setCell ⟨p, 1, none⟩ v') := by
  have hp := lt_of_block hb
  have h1 := h0.trans hs
  have hT' : ¬ T' p := fun h => (h1.new p h).elim hT (fun h => by omega)
  have hb1 : w1.heap[p]? = _ := (h1.block p hp hT).trans hb
  refine ⟨fun k => k = p ∨ T' k, ⟨v', T', by rw [block_setCell hb1]; rfl, ?_, hT', fun _ => Iff.rfl, hr0, hr1⟩, ?_⟩
  · have e : (s.xs ++ [c]).length = s.xs.length + 1 := by simp
    show Row _ _ _ _ _ (s.xs ++ [c]).length ((s.xs ++ [c]).map byteV)
    rw [e, List.map_append]
    exact hr.step (S := fun k => k = p) (U := fun k => k = p) ((Step.refl (fun k => k = p) w1).setCell (a := ⟨p, 1, none⟩) (Or.inl rfl) _) (fun k h e => hT' (e ▸ h))
  · have h2 : Step S (fun k => k = p ∨ T' k) wr w1 := ⟨h1.os, h1.tape, h1.output, h1.size, fun k hk hs => h1.block k hk (fun ht => hs ((hS k).2 (.inr ht))), fun k hk => hk.elim (fun e => .inl ((hS k).2 (.inl e))) (fun ht => (h1.new k ht).imp_left fun h => (hS k).2 (.inr h))⟩
    exact h2.setCell (Or.inl ((hS p).2 (.inl rfl))) _
def WDone (S : Nat → Prop) (p : Nat) (s : WS) (w : World) (e : Ending) (w' : World) : Prop := e = .returned (.tuple #[]) ∧ WrTo S p s w w'
set_option maxHeartbeats 400000 in
theorem putNum_any (S : Nat → Prop) (p : Nat) (s : WS) (n many : Nat) (w : World)
    (hW : Wr w S p s) (hm : many ≤ 8) (hxs : s.xs.length ≤ 100000000) :
    Calls Tryz.prog 94 #[.pointer (some ⟨p, 0, none⟩), .int .u64 n, .int .i64 many] w (WDone S p { s with xs := s.xs ++ le n many } w) := by
  obtain ⟨i0, hi, hz0, hz1, hz2⟩ := info_parts Tryz.infoU8
  go_enter Tryz.func94, Tryz.ntmps94
  go_wp2
  go_loopw [6, 8] (fun _ i wr => ∃ k : Nat, k ≤ many ∧ i = .int .i64 k ∧ WrTo S p { s with xs := s.xs ++ le n k } w wr) (fun _ i _ => many - (intOf i).toNat)
  case atStart => exact ⟨0, Nat.zero_le _, rfl, S, by simpa [le] using hW, Step.refl _ _⟩
  case round =>
    obtain ⟨k, hk, rfl, S', ⟨v, T, hb, hrow, hT, hS, hr0, hr1⟩, hst⟩ := hrel
    have hlen : (s.xs ++ le n k).length ≤ 100000008 := by rw [List.length_append, le_len]; omega
    obtain ⟨ao, cap, rfl, hc1, hc2, -⟩ := hrow.form
    have h1 := cell_of_block (i := 1) hb rfl
    have hp := lt_of_block hb
    by_cases hlt : k < many
    · have hk8 : IntKind.i64.wrap (8 * (k : Int)) = 8 * (k : Int) := IntWalk.i64_in _ (by omega)
      have hk0 : (0 : Int) ≤ 8 * (k : Int) := by omega
      obtain ⟨c, hc⟩ : ∃ c, c = UInt8.ofNat (n / 2 ^ (8 * k)) := ⟨_, rfl⟩
      have hB : IntKind.u8.wrap ((n : Int) / 2 ^ (8 * (k : Int)).toNat) = (c.toNat : Int) := by rw [hc]; exact le_byte n k
      have HC := Lib.hid hc
      clear hc
      generalize hys : s.xs ++ le n k = ys at *
      have HY := Lib.hid hys
      clear hys
      simp only at hb hrow hr0 hr1 h1 hlen hc1
      go_wp2
      go_region_law (refine step_append_row rfl (.tmp 15) (.tmp 21) 37 rfl 5 i0 (.int .u8 0) 1 1 Tryz.underlying37 hi hz0 hz1 hz2 rfl (by decide) _ _ _ (by simp [Act.eval]) (hrow.alloc _).drew (some ⟨wr.heap.size, 0, none⟩) 1 1 [byteV c] (by simp [Act.eval]) (by intro h; cases h) rfl (cell_new_byte _ _ _) (byteV_one [_]) (by unfold maxLen; omega) (by omega) ?_; intro v' w1 T' hr' hs'; obtain ⟨ao', cap', rfl, -⟩ := hr'.form; have hb1 := ((((Step.refl T wr).alloc _).drew).trans hs').block p (lt_of_block hb) hT |>.trans hb; have c1 := cell_of_block (i := 1) hb1 rfl; have f1 := frozen_of_block (i := 1) hb1)
      all_goals
        have r := Wr.push (s := { s with xs := ys }) hb hT hS hr0 hr1 (((Step.refl T wr).alloc _).drew) hs' hr'
        clear hb1 c1 f1
        go_wp2
        go_roundw
        case rel =>
          obtain ⟨S'', r1, r2⟩ := r
          exact ⟨k + 1, by omega, by go_num, S'', by rw [le, ← List.append_assoc, HY.out, ← HC.out]; exact r1, hst.trans r2⟩
        case measure => simp [intOf]; omega
    · have hkm : k = many := by omega
      have HK := Lib.hid hkm
      clear hkm
      go_wp2
      go_end0
      exact ⟨rfl, S', by rw [← HK.out]; exact ⟨_, T, hb, hrow, hT, hS, hr0, hr1⟩, hst⟩
set_option maxHeartbeats 400000 in
theorem putBytes_any (S D : Nat → Prop) (p : Nat) (s : WS) (ao : Option Addr) (bs : List UInt8) (cap : Nat) (w : World)
    (hW : Wr w S p s) (hV : View w D ao bs) (hD : Dis D S) (hbs : bs.length ≤ 100000000) (hxs : s.xs.length ≤ 100000000) :
    Calls Tryz.prog 95 #[.pointer (some ⟨p, 0, none⟩), .slice ao bs.length cap] w (WDone S p { s with xs := s.xs ++ bs } w) := by
  obtain ⟨i0, hi, hz0, hz1, hz2⟩ := info_parts Tryz.infoU8
  obtain ⟨len, hl⟩ : ∃ len, len = bs.length := ⟨_, rfl⟩
  rw [← hl]
  rw [← hl] at hbs
  have HL := Lib.hid hl
  clear hl
  go_enter Tryz.func95, Tryz.ntmps95
  go_wp2
  go_loopw [4, 7] (fun _ i wr => ∃ k : Nat, k ≤ len ∧ i = .int .i64 k ∧ WrTo S p { s with xs := s.xs ++ bs.take k } w wr) (fun _ i _ => len - (intOf i).toNat)
  case atStart => exact ⟨0, Nat.zero_le _, rfl, S, by simpa using hW, Step.refl _ _⟩
  case round =>
    obtain ⟨k, hk, rfl, S', ⟨v, T, hb, hrow, hT, hS, hr0, hr1⟩, hst⟩ := hrel
    have hlen : (s.xs ++ bs.take k).length ≤ 200000000 := by have := HL.out; rw [List.length_append, List.length_take]; omega
    obtain ⟨ao', cap', rfl, hc1, hc2, -⟩ := hrow.form
    have h1 := cell_of_block (i := 1) hb rfl
    have hp := lt_of_block hb
    by_cases hlt : k < len
    · obtain ⟨b, o, rfl, hbD, hbw, hc⟩ : ∃ b o, ao = some ⟨b, o, none⟩ ∧ D b ∧ b < w.heap.size ∧ ∀ j, j < bs.length → w.cell? ⟨b, o + j, none⟩ = some (.int .u8 ((bs.getD j 0).toNat : Int)) := by
        rcases hV with h | h
        · have := HL.out; rw [h] at this; simp at this; omega
        · exact h
      obtain ⟨c, hcd⟩ : ∃ c, c = bs.getD k 0 := ⟨_, rfl⟩
      have hcx : wr.cell? ⟨b, o + k, none⟩ = some (.int .u8 (c.toNat : Int)) := by
        rw [hcd]; exact (World.cell?_of_block (w := w) (hst.block b hbw (hD b hbD))).trans (hc k (by rw [← HL.out]; exact hlt))
      have hbw' : b < wr.heap.size := Nat.lt_of_lt_of_le hbw hst.size
      have hsn : bs.take (k + 1) = bs.take k ++ [c] := by
        rw [List.take_succ_eq_append_getElem (by rw [← HL.out]; exact hlt), hcd]
        simp [show k < bs.length by rw [← HL.out]; exact hlt]
      have HC := Lib.hid hsn
      clear hcd hsn hc hbD hbw hV
      generalize hys : s.xs ++ bs.take k = ys at *
      have HY := Lib.hid hys
      clear hys
      simp only at hb hrow hr0 hr1 h1 hlen hc1
      go_wp2
      go_region_law (refine step_append_row rfl (.tmp 14) (.tmp 19) 37 rfl 5 i0 (.int .u8 0) 1 1 Tryz.underlying37 hi hz0 hz1 hz2 rfl (by decide) _ _ _ (by simp [Act.eval]) (hrow.alloc _).drew (some ⟨wr.heap.size, 0, none⟩) 1 1 [byteV c] (by simp [Act.eval]) (by intro h; cases h) rfl (cell_new_byte _ _ _) (byteV_one [_]) (by unfold maxLen; omega) (by omega) ?_; intro v' w1 T' hr' hs'; obtain ⟨ao'', cap'', rfl, -⟩ := hr'.form; have hb1 := ((((Step.refl T wr).alloc _).drew).trans hs').block p (lt_of_block hb) hT |>.trans hb; have c1 := cell_of_block (i := 1) hb1 rfl; have f1 := frozen_of_block (i := 1) hb1)
      all_goals
        have r := Wr.push (s := { s with xs := ys }) hb hT hS hr0 hr1 (((Step.refl T wr).alloc _).drew) hs' hr'
        clear hb1 c1 f1
        go_wp2
        go_roundw
        case rel =>
          obtain ⟨S'', r1, r2⟩ := r
          exact ⟨k + 1, by omega, by go_num, S'', by rw [HC.out, ← List.append_assoc, HY.out]; exact r1, hst.trans r2⟩
        case measure => simp [intOf]; omega
    · have hkm : bs.take k = bs := List.take_of_length_le (by rw [← HL.out]; omega)
      have HK := Lib.hid hkm
      clear hkm
      have hkl : (k : Int) = len := by omega
      have HKL := Lib.hid hkl
      clear hkl
      go_wp2
      go_end0
      exact ⟨rfl, S', by rw [← HK.out]; exact ⟨_, T, hb, hrow, hT, hS, hr0, hr1⟩, hst⟩
end Cod
end Go.Proofs.YtmdphcebmgcdbaaGreat
end
section
namespace Go.Proofs.YtmdphcebmgcdbaaGreat
open Go.RowKit Go.Own
namespace Cod
set_option maxHeartbeats 400000 in
theorem fits_yes (S : Nat → Prop) (p : Nat) (s : WS) (size : Int) (w : World) (hW : Wr w S p s) (hxs : s.xs.length ≤ 200000000) (_h0 : 0 ≤ size) (hs : size ≤ s.room - s.xs.length) :
    Calls Tryz.prog 93 #[.pointer (some ⟨p, 0, none⟩), .int .i64 size] w fun e w' => e = .returned (.bool true) ∧ WrTo S p s w w' := by
  have hW0 := Lib.hid hW
  obtain ⟨v, T, hb, hrow, hT, hS, hr0, hr1⟩ := hW
  obtain ⟨ao, cap, rfl, hc1, hc2, -⟩ := hrow.form
  have h0 := cell_of_block (i := 0) hb rfl
  have h1 := cell_of_block (i := 1) hb rfl
  go_enter Tryz.func93, Tryz.ntmps93
  go_wp2
  go_quiet (fail)
  go_wp2
  go_ret
  exact ⟨rfl, hW0.out.drewN _⟩
set_option maxHeartbeats 400000 in
theorem fits_no (S : Nat → Prop) (p : Nat) (s : WS) (size : Int) (w : World) (hW : Wr w S p s) (hxs : s.xs.length ≤ 200000000) (_h0 : 0 ≤ size) (hs : s.room - s.xs.length < size) :
    Calls Tryz.prog 93 #[.pointer (some ⟨p, 0, none⟩), .int .i64 size] w fun e w' => e = .returned (.bool false) ∧ WrTo S p { s with err := 4 } w w' := by
  have hW0 := Lib.hid hW
  obtain ⟨v, T, hb, hrow, hT, hS, hr0, hr1⟩ := hW
  obtain ⟨ao, cap, rfl, hc1, hc2, -⟩ := hrow.form
  have h0 := cell_of_block (i := 0) hb rfl
  have h1 := cell_of_block (i := 1) hb rfl
  have h2 := cell_of_block (i := 2) hb rfl
  have f2 := frozen_of_block (i := 2) hb
  go_enter Tryz.func93, Tryz.ntmps93
  go_wp2
  go_quiet (fail)
  go_wp2
  go_ret
  exact ⟨rfl, hW0.out.fault _ 4⟩
def CloneDone (bs : List UInt8) (w : World) (e : Ending) (w' : World) : Prop :=
  ∃ ao cap T, e = .returned (.slice ao bs.length cap) ∧ Row w' 5 1 T (.slice ao bs.length cap) bs.length (bs.map byteV) ∧ Step (fun _ => False) T w w'
theorem view_cells {w : World} {D : Nat → Prop} {ao : Option Addr} {bs : List UInt8} (h : View w D ao bs) : ∀ a, ao = some a → ∀ j u, (bs.map byteV)[j]? = some u → w.cell? (a.add j) = some u := by
  intro a ha j u hu
  have hj := (List.getElem?_eq_some_iff.1 hu).1
  rw [List.length_map] at hj
  rcases h with rfl | ⟨b, o, hab, _, _, hc⟩
  · simp at hj
  · rw [ha] at hab
    cases hab
    have e : (⟨b, o, none⟩ : Addr).add j = ⟨b, o + j, none⟩ := by unfold Addr.add; split <;> simp_all
    rw [e, hc j hj]
    rw [← hu]
    simp [byteV, hj]
set_option maxHeartbeats 400000 in
theorem clone_any (D : Nat → Prop) (ao : Option Addr) (bs : List UInt8) (cap : Nat) (w : World) (hV : View w D ao bs) (hbs : bs.length ≤ 1000000000) :
    Calls Tryz.prog 74 #[.slice ao bs.length cap] w (CloneDone bs w) := by
  obtain ⟨i0, hi, hz0, hz1, hz2⟩ := info_parts Tryz.infoU8
  cases ao with
  | none =>
    have hb : bs = [] := by
      rcases hV with h | ⟨b, o, h, _⟩
      · exact h
      · cases h
    subst hb
    have heq := fun wx => Lib.run_eql_slice_nil (P := Tryz.prog) wx 37 5 none 0 cap 0 0 Tryz.underlying37
    show Calls Tryz.prog 74 #[.slice none 0 cap] w _
    go_enter Tryz.func74, Tryz.ntmps74
    go_wp2
    go_ret
    exact ⟨none, 0, _, rfl, Row.nil _ _ _, Step.refl _ _⟩
  | some a =>
    have hc := view_cells hV
    have HC := Lib.hid hc
    clear hc hV
    obtain ⟨n, hn⟩ : ∃ n, n = bs.length := ⟨_, rfl⟩
    rw [← hn] at hbs ⊢
    have heq := fun wx => Lib.run_eql_slice_nil (P := Tryz.prog) wx 37 5 (some a) n cap 0 0 Tryz.underlying37
    have HN := Lib.hid hn
    clear hn
    go_enter Tryz.func74, Tryz.ntmps74
    go_wp2_with (at_builtin; go_loud (refine wpList_append_row rfl (.tmp 5) (.tmp 6) 37 rfl 5 i0 (.int .u8 0) 1 1 Tryz.underlying37 hi hz0 hz1 hz2 rfl (by decide) (.slice (some ⟨w.heap.size, 0, none⟩) 0 0) 0 [] rfl (Row.made w #[] 5 1 0 (Nat.zero_le _) rfl) (some a) n cap (bs.map byteV) rfl (by intro h; cases h) ?hl ?hnews (byteV_one _) ?b1 ?b2 ?_))
    case hl => rw [List.length_map, Nat.mul_one]; exact HN.out.symm
    case hnews =>
      intro a' ha j u hu
      have := HC.out a' ha j u hu
      exact cell_alloc this _
    case b1 => unfold maxLen; omega
    case b2 => omega
    intro v' w' T' hr' hs'
    obtain ⟨ao', cap', rfl, -⟩ := hr'.form
    go_wp2
    go_ret
    simp only at hr' ⊢
    have e := HN.out
    subst e
    exact ⟨ao', cap', T', rfl, hr', (((Step.refl (fun _ => False) w).alloc _).to (fun k hk => Or.inr (Nat.le_of_eq hk.symm))).trans hs'⟩
end Cod
end Go.Proofs.YtmdphcebmgcdbaaGreat
end
section
namespace Go.Proofs.YtmdphcebmgcdbaaGreat
open Go.RowKit Go.Own
namespace Cod
def NewWDone (room : Int) (w : World) (e : Ending) (w' : World) : Prop :=
  ∃ p S, e = .returned (.pointer (some ⟨p, 0, none⟩)) ∧ Wr w' S p ⟨max room 0, [], 0⟩ ∧ Step (fun _ => False) S w w'
theorem newWriter_any (room : Int) (w : World) (h1 : room ≤ 9223372036854775807) :
    Calls Tryz.prog 62 #[.int .i64 room] w (NewWDone room w) := by
  have key : ∀ r : Int, max room 0 = r → 0 ≤ r → r ≤ 9223372036854775807 → NewWDone room w (.returned (.pointer (some ⟨w.heap.size, 0, none⟩))) (w.alloc (.cells #[.int .i64 r, .slice none 0 0, .int .i64 0] 162)) := by
    intro r hr h0 hm
    refine ⟨_, fun k => k = w.heap.size, rfl, ?_, ((Step.refl (fun _ => False) w).alloc _).to (fun k hk => Or.inr (Nat.le_of_eq hk.symm))⟩
    rw [hr]
    exact ⟨.slice none 0 0, fun _ => False, heap_alloc_new w _, Row.nil _ _ _, fun h => h, fun k => by simp, h0, hm⟩
  have K := Lib.hid key
  clear key
  go_enter Tryz.func62, Tryz.ntmps62
  go_wp2
  all_goals go_ret
  all_goals first
    | exact K.out 0 (by omega) (by omega) (by omega)
    | exact K.out room (by omega) (by omega) h1
    | (refine K.out _ ?_ ?_ ?_ <;> first | omega | (split <;> omega))
set_option maxHeartbeats 400000 in
theorem num_any (S : Nat → Prop) (p : Nat) (s : WS) (n : Nat) (many : Int) (w : World) (hW : Wr w S p s) (hxs : s.xs.length ≤ 100000000) :
    Calls Tryz.prog 63 #[.pointer (some ⟨p, 0, none⟩), .int .u64 n, .int .i64 many] w (WDone S p (s.num n many) w) := by
  have hW0 := Lib.hid hW
  obtain ⟨v, T, hb, hrow, hT, hS, hr0, hr1⟩ := hW
  have h2 := cell_of_block (i := 2) hb rfl
  have f2 := frozen_of_block (i := 2) hb
  obtain ⟨room, xs, err⟩ := s
  simp only at h2 hr0 hr1 hxs
  clear hb hrow hT hS
  by_cases he : err = 0
  · subst he
    by_cases h0 : many < 0
    · have hfin : Hid (WS.num ⟨room, xs, 0⟩ n many = ⟨room, xs, 1⟩) := by simp [Hid, WS.num, h0]
      go_enter Tryz.func63, Tryz.ntmps63
      go_wp2
      go_end0
      rw [hfin.out]
      exact ⟨rfl, hW0.out.fault 0 1⟩
    · by_cases h8 : 8 < many
      · have hfin : Hid (WS.num ⟨room, xs, 0⟩ n many = ⟨room, xs, 1⟩) := by simp [Hid, WS.num, h8]
        go_enter Tryz.func63, Tryz.ntmps63
        go_wp2
        go_end0
        rw [hfin.out]
        exact ⟨rfl, hW0.out.fault 0 1⟩
      · obtain ⟨k, rfl⟩ := Int.eq_ofNat_of_zero_le (show 0 ≤ many by omega)
        by_cases hf : (k : Int) ≤ room - xs.length
        · have hfin : Hid (WS.num ⟨room, xs, 0⟩ n k = ⟨room, xs ++ le n k, 0⟩) := by
            simp only [Hid, WS.num, WS.lay]
            rw [if_neg (by simp), if_neg (by omega), if_neg (by simp), if_neg (by rw [Int.toNat_natCast, le_len]; omega), Int.toNat_natCast]
          go_enter Tryz.func63, Tryz.ntmps63
          go_wp2_with (fail)
          refine (fits_yes S p ⟨room, xs, 0⟩ k w hW0.out (by simp; omega) (by omega) hf).mono ?_
          rintro e w1 ⟨rfl, S1, hW1, hs1⟩
          have HW1 := Lib.hid hW1
          clear hW1
          go_wp2_with (fail)
          refine (putNum_any S1 p ⟨room, xs, 0⟩ n k w1 HW1.out (by omega) hxs).mono ?_
          rintro e w2 ⟨rfl, S2, hW2, hs2⟩
          have HW2 := Lib.hid hW2
          clear hW2
          go_wp2_with (fail)
          go_end0
          rw [hfin.out]
          exact ⟨rfl, S2, HW2.out, hs1.trans hs2⟩
        · have hfin : Hid (WS.num ⟨room, xs, 0⟩ n k = ⟨room, xs, 4⟩) := by
            simp only [Hid, WS.num, WS.lay]
            rw [if_neg (by simp), if_neg (by omega), if_neg (by simp), if_pos (by rw [Int.toNat_natCast, le_len]; omega)]
          go_enter Tryz.func63, Tryz.ntmps63
          go_wp2_with (fail)
          refine (fits_no S p ⟨room, xs, 0⟩ k w hW0.out (by simp; omega) (by omega) (by show room - xs.length < _; omega)).mono ?_
          rintro e w1 ⟨rfl, S1, hW1, hs1⟩
          have HW1 := Lib.hid hW1
          clear hW1
          go_wp2_with (fail)
          go_end0
          rw [hfin.out]
          exact ⟨rfl, S1, HW1.out, hs1⟩
  · have hfin : Hid (WS.num ⟨room, xs, err⟩ n many = ⟨room, xs, err⟩) := by simp [Hid, WS.num, he]
    have he' : (err == 0) = false := by simp [he]
    go_enter Tryz.func63, Tryz.ntmps63
    go_wp2
    go_end0
    rw [hfin.out]
    exact ⟨rfl, hW0.out.drewN 0⟩
set_option maxHeartbeats 400000 in
theorem raw_any (S D : Nat → Prop) (p : Nat) (s : WS) (ao : Option Addr) (bs : List UInt8) (cap : Nat) (w : World) (hW : Wr w S p s) (hV : View w D ao bs) (hD : Dis D S) (hbs : bs.length ≤ 100000000) (hxs : s.xs.length ≤ 100000000) :
    Calls Tryz.prog 65 #[.pointer (some ⟨p, 0, none⟩), .slice ao bs.length cap] w (WDone S p (s.lay bs) w) := by
  have hW0 := Lib.hid hW
  have hV0 := Lib.hid hV
  obtain ⟨v, T, hb, hrow, hT, hS, hr0, hr1⟩ := hW
  have h2 := cell_of_block (i := 2) hb rfl
  obtain ⟨room, xs, err⟩ := s
  simp only at h2 hr0 hr1 hxs
  clear hb hrow hT hV
  by_cases he : err = 0
  · subst he
    by_cases hf : (bs.length : Int) ≤ room - xs.length
    · have hfin : Hid (WS.lay ⟨room, xs, 0⟩ bs = ⟨room, xs ++ bs, 0⟩) := by
        simp only [Hid, WS.lay]
        rw [if_neg (by simp), if_neg (by omega)]
      go_enter Tryz.func65, Tryz.ntmps65
      go_wp2_with (fail)
      refine (fits_yes S p ⟨room, xs, 0⟩ bs.length w hW0.out (by simp; omega) (by omega) hf).mono ?_
      rintro e w1 ⟨rfl, S1, hW1, hs1⟩
      have HW1 := Lib.hid hW1
      clear hW1
      go_wp2_with (fail)
      refine (putBytes_any S1 _ p ⟨room, xs, 0⟩ ao bs cap w1 HW1.out (hV0.out.live.step hs1 (fun k hk => hD k hk.1)) (hD.step hs1) hbs hxs).mono ?_
      rintro e w2 ⟨rfl, S2, hW2, hs2⟩
      have HW2 := Lib.hid hW2
      clear hW2
      go_wp2_with (fail)
      go_end0
      rw [hfin.out]
      exact ⟨rfl, S2, HW2.out, hs1.trans hs2⟩
    · have hfin : Hid (WS.lay ⟨room, xs, 0⟩ bs = ⟨room, xs, 4⟩) := by
        simp only [Hid, WS.lay]
        rw [if_neg (by simp), if_pos (by omega)]
      go_enter Tryz.func65, Tryz.ntmps65
      go_wp2_with (fail)
      refine (fits_no S p ⟨room, xs, 0⟩ bs.length w hW0.out (by simp; omega) (by omega) (by show room - xs.length < _; omega)).mono ?_
      rintro e w1 ⟨rfl, S1, hW1, hs1⟩
      have HW1 := Lib.hid hW1
      clear hW1
      go_wp2_with (fail)
      go_end0
      rw [hfin.out]
      exact ⟨rfl, S1, HW1.out, hs1⟩
  · have hfin : Hid (WS.lay ⟨room, xs, err⟩ bs = ⟨room, xs, err⟩) := by simp [Hid, WS.lay, he]
    have he' : (err == 0) = false := by simp [he]
    go_enter Tryz.func65, Tryz.ntmps65
    go_wp2
    go_end0
    rw [hfin.out]
    exact ⟨rfl, hW0.out.drewN 0⟩
theorem WDone.seq {S S1 : Nat → Prop} {p : Nat} {s1 s2 : WS} {w w1 w2 : World} (h : Step S S1 w w1) (g : WrTo S1 p s2 w1 w2) : WrTo S p s2 w w2 := by
  obtain ⟨S2, h2, h3⟩ := g
  exact ⟨S2, h2, h.trans h3⟩
set_option maxHeartbeats 400000 in
theorem blob_any (S D : Nat → Prop) (p : Nat) (s : WS) (ao : Option Addr) (bs : List UInt8) (cap : Nat) (w : World) (hW : Wr w S p s) (hV : View w D ao bs) (hD : Dis D S) (hbs : bs.length ≤ 90000000) (hxs : s.xs.length ≤ 90000000) :
    Calls Tryz.prog 66 #[.pointer (some ⟨p, 0, none⟩), .slice ao bs.length cap] w (WDone S p (s.blob bs) w) := by
  have hW0 := Lib.hid hW
  have hV0 := Lib.hid hV
  obtain ⟨v, T, hb, hrow, hT, hS, hr0, hr1⟩ := hW
  have h2 := cell_of_block (i := 2) hb rfl
  have f2 := frozen_of_block (i := 2) hb
  obtain ⟨room, xs, err⟩ := s
  simp only at h2 hr0 hr1 hxs
  clear hb hrow hT hV
  by_cases he : err = 0
  · subst he
    by_cases hlong : 65535 < bs.length
    · have hfin : Hid (WS.blob ⟨room, xs, 0⟩ bs = ⟨room, xs, 4⟩) := by
        simp only [Hid, WS.blob]
        rw [if_neg (by simp), if_pos hlong]
      go_enter Tryz.func66, Tryz.ntmps66
      go_wp2
      go_end0
      rw [hfin.out]
      exact ⟨rfl, hW0.out.fault 0 4⟩
    · by_cases hf : (2 : Int) + bs.length ≤ room - xs.length
      · have hfin : Hid (WS.blob ⟨room, xs, 0⟩ bs = ⟨room, (xs ++ le bs.length 2) ++ bs, 0⟩) := by
          simp only [Hid, WS.blob, WS.lay]
          rw [if_neg (by simp), if_neg hlong, if_neg (by simp), if_neg (by rw [List.length_append, le_len]; omega), List.append_assoc]
        go_enter Tryz.func66, Tryz.ntmps66
        go_wp2_with (fail)
        refine (fits_yes S p ⟨room, xs, 0⟩ (2 + bs.length) w hW0.out (by simp; omega) (by omega) hf).mono ?_
        rintro e w1 ⟨rfl, S1, hW1, hs1⟩
        have HW1 := Lib.hid hW1
        clear hW1
        go_wp2_with (fail)
        refine (putNum_any S1 p ⟨room, xs, 0⟩ bs.length 2 w1 HW1.out (by omega) (by simp; omega)).mono ?_
        rintro e w2 ⟨rfl, S2, hW2, hs2⟩
        have HW2 := Lib.hid hW2
        clear hW2
        go_wp2_with (fail)
        refine (putBytes_any S2 _ p ⟨room, xs ++ le bs.length 2, 0⟩ ao bs cap w2 HW2.out (hV0.out.live.step (hs1.trans hs2) (fun k hk => hD k hk.1)) (hD.step (hs1.trans hs2)) (by omega) (by simp [le_len]; omega)).mono ?_
        rintro e w3 ⟨rfl, S3, hW3, hs3⟩
        have HW3 := Lib.hid hW3
        clear hW3
        go_wp2_with (fail)
        go_end0
        rw [hfin.out]
        exact ⟨rfl, S3, HW3.out, (hs1.trans hs2).trans hs3⟩
      · have hfin : Hid (WS.blob ⟨room, xs, 0⟩ bs = ⟨room, xs, 4⟩) := by
          simp only [Hid, WS.blob, WS.lay]
          rw [if_neg (by simp), if_neg hlong, if_neg (by simp), if_pos (by rw [List.length_append, le_len]; omega)]
        go_enter Tryz.func66, Tryz.ntmps66
        go_wp2_with (fail)
        refine (fits_no S p ⟨room, xs, 0⟩ (2 + bs.length) w hW0.out (by simp; omega) (by omega) (by show room - xs.length < _; omega)).mono ?_
        rintro e w1 ⟨rfl, S1, hW1, hs1⟩
        have HW1 := Lib.hid hW1
        clear hW1
        go_wp2_with (fail)
        go_end0
        rw [hfin.out]
        exact ⟨rfl, S1, HW1.out, hs1⟩
  · have hfin : Hid (WS.blob ⟨room, xs, err⟩ bs = ⟨room, xs, err⟩) := by simp [Hid, WS.blob, he]
    have he' : (err == 0) = false := by simp [he]
    go_enter Tryz.func66, Tryz.ntmps66
    go_wp2
    go_end0
    rw [hfin.out]
    exact ⟨rfl, hW0.out.drewN 0⟩
def OutDone (S : Nat → Prop) (p : Nat) (s : WS) (w : World) (e : Ending) (w' : World) : Prop :=
  ∃ ao cap T, e = .returned (.tuple #[.slice ao s.xs.length cap, .int .i64 s.err]) ∧ Row w' 5 1 T (.slice ao s.xs.length cap) s.xs.length (s.xs.map byteV) ∧ Wr w' S p s ∧ Step (fun _ => False) T w w'
set_option maxHeartbeats 400000 in
theorem out_any (S : Nat → Prop) (p : Nat) (s : WS) (w : World) (hW : Wr w S p s) (hxs : s.xs.length ≤ 1000000000) :
    Calls Tryz.prog 67 #[.pointer (some ⟨p, 0, none⟩)] w (OutDone S p s w) := by
  have hW0 := Lib.hid hW
  obtain ⟨v, T, hb, hrow, hT, hS, hr0, hr1⟩ := hW
  obtain ⟨ao, cap, rfl, hc1, hc2, -⟩ := hrow.form
  have h1 := cell_of_block (i := 1) hb rfl
  have h2 := cell_of_block (i := 2) hb rfl
  have hp := lt_of_block hb
  have HB := Lib.hid hb
  have HR := Lib.hid hrow
  clear hb hrow hS
  go_enter Tryz.func67, Tryz.ntmps67
  go_wp2
  go_region_law (go_simp; go_at_call 74; refine (clone_any T ao s.xs cap w.drew HR.out.drew.view hxs).mono ?_; rintro e w1 ⟨ao1, cap1, T1, rfl, hr1, hs1⟩; have h2' : w1.cell? ⟨p, 2, none⟩ = some (.int .i64 s.err) := (World.cell?_of_block (w := w) (hs1.block p hp (fun h => h))).trans h2)
  all_goals
    have hg : Step (fun _ => False) T1 w w1 := ((Step.refl (fun _ => False) w).drew).trans hs1
    have HG := Lib.hid hg
    clear hg
    go_wp2
    go_ret2
    exact ⟨ao1, cap1, T1, rfl, hr1, hW0.out.keep HG.out (fun _ _ h => h), HG.out⟩
end Cod
end Go.Proofs.YtmdphcebmgcdbaaGreat
end
section
namespace Go.Proofs.YtmdphcebmgcdbaaGreat
open Go.RowKit Go.Own
namespace Cod
structure RS where
  l : List UInt8
  err : Int
def Rd (w : World) (S : Nat → Prop) (p : Nat) (r : RS) : Prop :=
  ∃ ao cap D, w.heap[p]? = some (.cells #[.slice ao r.l.length cap, .int .i64 r.err] 159 (0, 0)) ∧ View w D ao r.l ∧ ¬ D p ∧ (∀ k, S k ↔ (k = p ∨ D k)) ∧ (∀ k, D k → k < w.heap.size) ∧
    r.l.length ≤ cap ∧ cap ≤ maxLen ∧ (ao = none → cap = 0) ∧ ∀ a, ao = some a → a.spot = none
theorem Rd.keep {w w' : World} {S T U : Nat → Prop} {p : Nat} {r : RS} (h : Rd w S p r) (g : Step T U w w') (hd : Dis S T) : Rd w' S p r := by
  obtain ⟨ao, cap, D, hb, hV, hD, hS, hl, rest⟩ := h
  exact ⟨ao, cap, D, (g.block p (lt_of_block hb) (hd p ((hS p).2 (.inl rfl)))).trans hb, hV.step g (fun k hk => hd k ((hS k).2 (.inr hk))), hD, hS, fun k hk => Nat.lt_of_lt_of_le (hl k hk) g.size, rest⟩
theorem Rd.lt {w : World} {S : Nat → Prop} {p : Nat} {r : RS} (h : Rd w S p r) : ∀ k, S k → k < w.heap.size := by
  obtain ⟨ao, cap, D, hb, hV, hD, hS, hl, rest⟩ := h
  intro k hk
  rcases (hS k).1 hk with rfl | h
  · exact lt_of_block hb
  · exact hl k h
def RdTo (S : Nat → Prop) (p : Nat) (r : RS) (w w' : World) : Prop := Rd w' S p r ∧ Step S S w w'
theorem Rd.fault {w : World} {S : Nat → Prop} {p : Nat} {r : RS} (h : Rd w S p r) (n : Nat) (x : Int) : RdTo S p ⟨r.l, x⟩ w ((w.drewN n).setCell ⟨p, 1, none⟩ (.int .i64 x)) := by
  obtain ⟨ao, cap, D, hb, hV, hD, hS, hl, rest⟩ := h
  have g : Step (fun k => k = p) (fun k => k = p) w ((w.drewN n).setCell ⟨p, 1, none⟩ (.int .i64 x)) := ((Step.refl (fun k => k = p) w).drewN n).setCell (a := ⟨p, 1, none⟩) (Or.inl rfl) _
  refine ⟨⟨ao, cap, D, ?_, hV.step g (fun k h e => hD (e ▸ h)), hD, hS, fun k hk => Nat.lt_of_lt_of_le (hl k hk) g.size, rest⟩, ((Step.refl S w).drewN n).setCell (a := ⟨p, 1, none⟩) (Or.inl ((hS p).2 (.inl rfl))) _⟩
  have e : (w.drewN n).heap[p]? = some (.cells #[.slice ao r.l.length cap, .int .i64 r.err] 159 (0, 0)) := hb
  rw [block_setCell e]
  rfl
theorem Rd.left {w : World} {S D : Nat → Prop} {p : Nat} {v : Value} {l : List UInt8} {err : Int} {ao : Option Addr} {cap : Nat}
    (hb : w.heap[p]? = some (.cells #[v, .int .i64 err] 159 (0, 0))) (hD : ¬ D p) (hS : ∀ k, S k ↔ (k = p ∨ D k)) (hl : ∀ k, D k → k < w.heap.size)
    (hV : View w D ao l) (h1 : l.length ≤ cap) (h2 : cap ≤ maxLen) (h3 : ao = none → cap = 0) (h4 : ∀ a, ao = some a → a.spot = none) :
    RdTo S p ⟨l, err⟩ w (w.setCell ⟨p, 0, none⟩ (.slice ao l.length cap)) := by
  have g : Step (fun k => k = p) (fun k => k = p) w (w.setCell ⟨p, 0, none⟩ (.slice ao l.length cap)) := (Step.refl (fun k => k = p) w).setCell (a := ⟨p, 0, none⟩) (Or.inl rfl) _
  refine ⟨⟨ao, cap, D, ?_, hV.step g (fun k h e => hD (e ▸ h)), hD, hS, fun k hk => Nat.lt_of_lt_of_le (hl k hk) g.size, h1, h2, h3, h4⟩, (Step.refl S w).setCell (a := ⟨p, 0, none⟩) (Or.inl ((hS p).2 (.inl rfl))) _⟩
  rw [block_setCell hb]
  rfl
theorem View.take {w : World} {D : Nat → Prop} {ao : Option Addr} {l : List UInt8} (h : View w D ao l) (n : Nat) : View w D ao (l.take n) := by
  rcases h with rfl | ⟨b, o, e, hS, hb, hc⟩
  · exact .inl (by simp)
  · refine .inr ⟨b, o, e, hS, hb, fun j hj => ?_⟩
    rw [List.length_take] at hj
    rw [hc j (by omega)]
    simp [List.getD, show j < n by omega]
theorem View.drop {w : World} {D : Nat → Prop} {b o : Nat} {l : List UInt8} (h : View w D (some ⟨b, o, none⟩) l) (n : Nat) : View w D (some ⟨b, o + n, none⟩) (l.drop n) := by
  rcases h with rfl | ⟨b', o', e, hS, hb, hc⟩
  · exact .inl (by simp)
  · cases e
    refine .inr ⟨b, o + n, rfl, hS, hb, fun j hj => ?_⟩
    rw [List.length_drop] at hj
    have := hc (n + j) (by omega)
    rw [Nat.add_assoc, this]
    simp [List.getD]
def TakeDone (S : Nat → Prop) (p : Nat) (r : RS) (n : Nat) (w : World) (e : Ending) (w' : World) : Prop :=
  ∃ ao cap D, e = .returned (.slice ao n cap) ∧ View w' D ao (r.l.take n) ∧ (∀ k, D k → S k) ∧ RdTo S p ⟨r.l.drop n, r.err⟩ w w'
set_option maxHeartbeats 400000 in
theorem take_any (S : Nat → Prop) (p : Nat) (r : RS) (n : Nat) (w : World) (hR : Rd w S p r) (hn : n ≤ r.l.length) :
    Calls Tryz.prog 91 #[.pointer (some ⟨p, 0, none⟩), .int .i64 n] w (TakeDone S p r n w) := by
  obtain ⟨ao, cap, D, hb, hV, hD, hS, hlt, hlc, hm, hnone, hspot⟩ := hR
  obtain ⟨l, err⟩ := r
  simp only at hb hV hn hlc
  have h0 := cell_of_block (i := 0) hb rfl
  have f0 := frozen_of_block (i := 0) hb
  unfold maxLen at hm
  cases ao with
  | none =>
    obtain rfl := hnone rfl
    obtain rfl : l = [] := List.eq_nil_of_length_eq_zero (by omega)
    obtain rfl : n = 0 := by simpa using hn
    have key : TakeDone S p ⟨[], err⟩ 0 w (.returned (.slice none 0 0)) (w.setCell ⟨p, 0, none⟩ (.slice none 0 0)) :=
      ⟨none, 0, D, rfl, .inl (by simp), fun k hk => (hS k).2 (.inr hk), Rd.left (ao := none) (l := []) hb hD hS hlt hV (by simp) (by simp [maxLen]) (fun _ => rfl) (fun a h => by cases h)⟩
    have K := Lib.hid key
    clear key hb hV hD hS hlt
    simp only [List.length_nil] at h0
    go_enter Tryz.func91, Tryz.ntmps91
    go_wp2
    go_ret
    exact K.out
  | some a =>
    obtain ⟨b, o, sp⟩ := a
    obtain rfl : sp = none := hspot _ rfl
    obtain ⟨len, hlen⟩ : ∃ len, len = l.length := ⟨_, rfl⟩
    have key1 : cap = n → TakeDone S p ⟨l, err⟩ n w (.returned (.slice (some ⟨b, o, none⟩) n n)) (w.setCell ⟨p, 0, none⟩ (.slice (some ⟨b, o, none⟩) (len - n) 0)) := by
      intro hc
      have e : l.drop n = [] := List.drop_eq_nil_of_le (by omega)
      have e2 : len - n = 0 := by omega
      refine ⟨some ⟨b, o, none⟩, n, D, rfl, (View.take hV n).step (T := fun k => k = p) (U := fun k => k = p) ((Step.refl (fun k => k = p) w).setCell (a := ⟨p, 0, none⟩) (Or.inl rfl) _) (fun k h e => hD (e ▸ h)), fun k hk => (hS k).2 (.inr hk), ?_⟩
      rw [e, e2]
      exact Rd.left (ao := some ⟨b, o, none⟩) (l := []) hb hD hS hlt (.inl rfl) (by simp) (by simp [maxLen]) (fun h => by cases h) (fun a h => by cases h; rfl)
    have key2 : TakeDone S p ⟨l, err⟩ n w (.returned (.slice (some ⟨b, o, none⟩) n cap)) (w.setCell ⟨p, 0, none⟩ (.slice (some ⟨b, o + n, none⟩) (len - n) (cap - n))) := by
      refine ⟨some ⟨b, o, none⟩, cap, D, rfl, (View.take hV n).step (T := fun k => k = p) (U := fun k => k = p) ((Step.refl (fun k => k = p) w).setCell (a := ⟨p, 0, none⟩) (Or.inl rfl) _) (fun k h e => hD (e ▸ h)), fun k hk => (hS k).2 (.inr hk), ?_⟩
      have e : len - n = (l.drop n).length := by rw [List.length_drop]; omega
      rw [e]
      exact Rd.left (ao := some ⟨b, o + n, none⟩) (l := l.drop n) hb hD hS hlt (View.drop hV n) (by rw [List.length_drop]; omega) (by unfold maxLen; omega) (fun h => by cases h) (fun a h => by cases h; rfl)
    have K1 := Lib.hid key1
    have K2 := Lib.hid key2
    rw [← hlen] at h0 hn hlc
    clear key1 key2 hb hV hD hS hlt hlen hnone hspot
    go_enter Tryz.func91, Tryz.ntmps91
    go_wp2
    all_goals go_ret
    · exact K1.out (by omega)
    · exact K2.out
def num : List UInt8 → Nat
  | [] => 0
  | c :: r => c.toNat + 256 * num r
theorem num_snoc (l : List UInt8) (c : UInt8) : num (l ++ [c]) = num l + 2 ^ (8 * l.length) * c.toNat := by
  induction l with
  | nil => simp [num]
  | cons d r ih =>
    have e : 2 ^ (8 * (r.length + 1)) = 256 * 2 ^ (8 * r.length) := by rw [Nat.mul_add, Nat.pow_add]; simp [Nat.mul_comm]
    rw [List.cons_append, num, ih, num, List.length_cons, e, Nat.mul_add, Nat.mul_assoc]
    omega
theorem or_shift (m k : Nat) (c : UInt8) (hk : k < 8) (hm : m < 2 ^ (8 * k)) :
    bits .or .u64 (m : Int) (IntKind.u64.wrap (IntKind.u64.wrap (c.toNat : Int) * 2 ^ (8 * k))) = ((m + 2 ^ (8 * k) * c.toNat : Nat) : Int) := by
  have hc := c.toNat_lt
  have hp : (2 : Nat) ^ (8 * k) ≤ 2 ^ 56 := Nat.pow_le_pow_right (by omega) (by omega)
  have hlt : 2 ^ (8 * k) * c.toNat < 2 ^ 64 := Nat.lt_of_le_of_lt (Nat.mul_le_mul hp (show c.toNat ≤ 255 by omega)) (by decide)
  have e1 : IntKind.u64.wrap (c.toNat : Int) = (c.toNat : Int) := IntWalk.u64_in _ (by omega)
  have e2 : (c.toNat : Int) * 2 ^ (8 * k) = ((2 ^ (8 * k) * c.toNat : Nat) : Int) := by simp [Int.mul_comm]
  have e3 : IntKind.u64.wrap ((2 ^ (8 * k) * c.toNat : Nat) : Int) = ((2 ^ (8 * k) * c.toNat : Nat) : Int) := IntWalk.u64_in _ (by omega)
  rw [e1, e2, e3, bits_or_u64_nat _ _ (by omega) (by omega), Nat.or_comm, ← Nat.two_pow_add_eq_or_of_lt hm]
  rw [Nat.add_comm]
theorem num_lt (l : List UInt8) : num l < 2 ^ (8 * l.length) := by
  induction l with
  | nil => simp [num]
  | cons d r ih =>
    have e : 2 ^ (8 * (r.length + 1)) = 256 * 2 ^ (8 * r.length) := by rw [Nat.mul_add, Nat.pow_add]; simp [Nat.mul_comm]
    have := d.toNat_lt
    simp only [num, List.length_cons, e]
    omega
set_option maxHeartbeats 400000 in
theorem number_any (D : Nat → Prop) (ao : Option Addr) (l : List UInt8) (cap : Nat) (w : World) (hV : View w D ao l) (hl : l.length ≤ 8) :
    Calls Tryz.prog 90 #[.slice ao l.length cap] w fun e w' => e = .returned (.int .u64 (num l)) ∧ w = w' := by
  obtain ⟨len, hlen⟩ : ∃ len, len = l.length := ⟨_, rfl⟩
  rw [← hlen]
  rw [← hlen] at hl
  have HL := Lib.hid hlen
  clear hlen
  go_enter Tryz.func90, Tryz.ntmps90
  go_wp2
  go_loop [3, 4, 7] (fun n _ i => ∃ k : Nat, k ≤ len ∧ i = .int .i64 k ∧ n = .int .u64 (num (l.take k))) (fun _ _ i => len - (intOf i).toNat)
  case atStart => exact ⟨0, Nat.zero_le _, rfl, rfl⟩
  case round =>
    obtain ⟨k, hk, rfl, rfl⟩ := hrel
    by_cases hlt : k < len
    · obtain ⟨b, o, rfl, hbD, hbw, hc⟩ : ∃ b o, ao = some ⟨b, o, none⟩ ∧ D b ∧ b < w.heap.size ∧ ∀ j, j < l.length → w.cell? ⟨b, o + j, none⟩ = some (.int .u8 ((l.getD j 0).toNat : Int)) := by
        rcases hV with h | h
        · have := HL.out; rw [h] at this; simp at this; omega
        · exact h
      obtain ⟨c, hcd⟩ : ∃ c, c = l.getD k 0 := ⟨_, rfl⟩
      have hcx : w.cell? ⟨b, o + k, none⟩ = some (.int .u8 (c.toNat : Int)) := by rw [hcd]; exact hc k (by rw [← HL.out]; exact hlt)
      have hsn : l.take (k + 1) = l.take k ++ [c] := by
        rw [List.take_succ_eq_append_getElem (by rw [← HL.out]; exact hlt), hcd]
        simp [show k < l.length by rw [← HL.out]; exact hlt]
      have HC := Lib.hid hsn
      have hk8 : IntKind.i64.wrap (8 * (k : Int)) = 8 * (k : Int) := IntWalk.i64_in _ (by omega)
      have hk0 : (0 : Int) ≤ 8 * (k : Int) := by omega
      clear hcd hsn hc hbD hbw hV
      obtain ⟨m, hm⟩ : ∃ m, m = num (l.take k) := ⟨_, rfl⟩
      rw [← hm]
      have HM := Lib.hid hm
      have hm2 : m < 2 ^ (8 * k) := by
        have := num_lt (l.take k)
        rw [List.length_take, Nat.min_eq_left (by rw [← HL.out]; omega), ← hm] at this
        exact this
      have hor := or_shift m k c (by omega) hm2
      clear hm hm2
      obtain ⟨q, hq⟩ : ∃ q : Nat, q = m + 2 ^ (8 * k) * c.toNat := ⟨_, rfl⟩
      rw [← hq] at hor
      have HQ := Lib.hid hq
      clear hq
      go_wp2
      go_round
      case rel =>
        refine ⟨k + 1, by omega, by go_num, ?_⟩
        rw [HC.out, num_snoc, ← HM.out, List.length_take, Nat.min_eq_left (by rw [← HL.out]; omega), ← HQ.out]
      case measure => simp [intOf]; omega
    · have hkl : l.take k = l := List.take_of_length_le (by rw [← HL.out]; omega)
      have HK := Lib.hid hkl
      clear hkl
      go_wp2
      go_ret
      exact ⟨by rw [HK.out]; rfl, rfl⟩
end Cod
end Go.Proofs.YtmdphcebmgcdbaaGreat
end
section
namespace Go.Proofs.YtmdphcebmgcdbaaGreat
open Go.RowKit Go.Own
namespace Cod
def RS.num (r : RS) (many : Int) : Nat × RS :=
  if r.err ≠ 0 then (0, r) else if many < 0 ∨ 8 < many then (0, ⟨r.l, 1⟩) else if (r.l.length : Int) < many then (0, ⟨r.l, 10⟩) else (Cod.num (r.l.take many.toNat), ⟨r.l.drop many.toNat, 0⟩)
def RS.raw (r : RS) (n : Int) : List UInt8 × RS :=
  if r.err ≠ 0 then ([], r) else if n < 0 then ([], ⟨r.l, 1⟩) else if (r.l.length : Int) < n then ([], ⟨r.l, 10⟩) else (r.l.take n.toNat, ⟨r.l.drop n.toNat, 0⟩)
def blobSz (l : List UInt8) (most : Int) : Nat × Int :=
  if l.length < 2 then (0, 10) else if max most 0 < (Cod.num (l.take 2) : Int) then (0, 4) else if l.length - 2 < Cod.num (l.take 2) then (0, 10) else (Cod.num (l.take 2), 0)
def RS.blob (r : RS) (most : Int) : List UInt8 × RS :=
  if r.err ≠ 0 then ([], r) else if (blobSz r.l most).2 ≠ 0 then ([], ⟨r.l, (blobSz r.l most).2⟩) else ((r.l.drop 2).take (blobSz r.l most).1, ⟨(r.l.drop 2).drop (blobSz r.l most).1, 0⟩)
def RS.fin (r : RS) : Int := if r.err = 0 ∧ r.l ≠ [] then 11 else r.err
def NewRDone (l : List UInt8) (w : World) (e : Ending) (w' : World) : Prop :=
  ∃ p S, e = .returned (.pointer (some ⟨p, 0, none⟩)) ∧ Rd w' S p ⟨l, 0⟩ ∧ Step (fun _ => False) S w w'
theorem newReader_any (D : Nat → Prop) (ao : Option Addr) (l : List UInt8) (cap : Nat) (w : World) (hV : View w D ao l) (hl : l.length ≤ 1000000000) :
    Calls Tryz.prog 55 #[.slice ao l.length cap] w (NewRDone l w) := by
  go_enter Tryz.func55, Tryz.ntmps55
  go_wp2_with (fail)
  refine (clone_any D ao l cap w hV hl).mono ?_
  rintro e w1 ⟨ao1, cap1, T, rfl, hr, hs⟩
  go_wp2
  go_ret
  obtain ⟨ao', cap', hv, h1, h2, h3, h4⟩ := hr.form
  simp only [Value.slice.injEq, true_and] at hv
  obtain ⟨rfl, rfl⟩ := hv
  have g : Step T (fun k => k = w1.heap.size ∨ T k) w1 (w1.alloc (.cells #[.slice ao1 l.length cap1, .int .i64 0] 159)) := ((Step.refl T w1).alloc _).to (fun k hk => hk.elim (fun e => .inr (Nat.le_of_eq e.symm)) .inl)
  refine ⟨w1.heap.size, fun k => k = w1.heap.size ∨ T k, rfl, ⟨ao1, cap1, T, heap_alloc_new w1 _, hr.view.step ((Step.refl (fun _ => False) w1).alloc _) (fun _ _ h => h), fun h => by have := hr.lt _ h; omega, fun k => Iff.rfl, fun k hk => by have := hr.lt k hk; simp; omega, h1, h2, fun h => (h3 h).2.1, fun a h => by obtain ⟨g, rfl, _⟩ := h4 a h; rfl⟩, hs.trans g⟩
theorem end_any (S : Nat → Prop) (p : Nat) (r : RS) (w : World) (hR : Rd w S p r) :
    Calls Tryz.prog 57 #[.pointer (some ⟨p, 0, none⟩)] w fun e w' => e = .returned (.int .i64 r.fin) ∧ w = w' := by
  obtain ⟨ao, cap, D, hb, hV, hD, hS, hlt, hlc, hm, hnone, hspot⟩ := hR
  obtain ⟨l, err⟩ := r
  have h0 := cell_of_block (i := 0) hb rfl
  have h1 := cell_of_block (i := 1) hb rfl
  clear hb hV hD hS hlt
  simp only at h0 h1
  obtain ⟨n, hn⟩ : ∃ n, n = l.length := ⟨_, rfl⟩
  rw [← hn] at h0
  by_cases he : err = 0
  · subst he
    by_cases hz : n = 0
    · have hfin : RS.fin ⟨l, 0⟩ = 0 := by
        have : l = [] := List.eq_nil_of_length_eq_zero (by omega)
        simp [RS.fin, this]
      rw [hfin]
      subst hz
      clear hn hfin
      go_enter Tryz.func57, Tryz.ntmps57
      go_wp2
      go_ret
      exact ⟨rfl, rfl⟩
    · have hfin : RS.fin ⟨l, 0⟩ = 11 := by
        have : l ≠ [] := by rintro rfl; simp at hn; omega
        simp [RS.fin, this]
      rw [hfin]
      have hz' : 0 < n := by omega
      clear hn hfin
      go_enter Tryz.func57, Tryz.ntmps57
      go_wp2
      go_ret
      exact ⟨rfl, rfl⟩
  · have hfin : RS.fin ⟨l, err⟩ = err := by simp [RS.fin, he]
    rw [hfin]
    have he' : (err == 0) = false := by simp [he]
    clear hn hfin
    go_enter Tryz.func57, Tryz.ntmps57
    go_wp2
    go_ret
    exact ⟨rfl, rfl⟩
def NumRDone (S : Nat → Prop) (p : Nat) (x : Nat × RS) (w : World) (e : Ending) (w' : World) : Prop := e = .returned (.int .u64 x.1) ∧ RdTo S p x.2 w w'
theorem Rd.same {w : World} {S : Nat → Prop} {p : Nat} {r : RS} (h : Rd w S p r) : RdTo S p r w w := ⟨h, Step.refl S w⟩
set_option maxHeartbeats 400000 in
theorem rnum_any (S : Nat → Prop) (p : Nat) (r : RS) (many : Int) (w : World) (hR : Rd w S p r) (hl : r.l.length ≤ 1000000000) :
    Calls Tryz.prog 56 #[.pointer (some ⟨p, 0, none⟩), .int .i64 many] w (NumRDone S p (r.num many) w) := by
  have hR0 := Lib.hid hR
  obtain ⟨ao, cap, D, hb, hV, hD, hS, hlt, hlc, hm, hnone, hspot⟩ := hR
  obtain ⟨l, err⟩ := r
  have h0 := cell_of_block (i := 0) hb rfl
  have h1 := cell_of_block (i := 1) hb rfl
  have f1 := frozen_of_block (i := 1) hb
  clear hb hV hD hS hlt hlc hm hnone hspot
  simp only at h0 h1 hl
  by_cases he : err = 0
  · subst he
    by_cases hbad : many < 0 ∨ 8 < many
    · have hfin : Hid (RS.num ⟨l, 0⟩ many = (0, ⟨l, 1⟩)) := by simp [Hid, RS.num, hbad]
      by_cases hneg : many < 0
      · go_enter Tryz.func56, Tryz.ntmps56
        go_wp2
        go_ret
        rw [hfin.out]
        exact ⟨rfl, hR0.out.fault 0 1⟩
      · have hbig : 8 < many := by omega
        go_enter Tryz.func56, Tryz.ntmps56
        go_wp2
        go_ret
        rw [hfin.out]
        exact ⟨rfl, hR0.out.fault 0 1⟩
    · obtain ⟨k, rfl⟩ := Int.eq_ofNat_of_zero_le (show 0 ≤ many by omega)
      have hk8 : k ≤ 8 := by omega
      by_cases hs : (l.length : Int) < k
      · have hfin : Hid (RS.num ⟨l, 0⟩ k = (0, ⟨l, 10⟩)) := by
          simp only [Hid, RS.num]
          rw [if_neg (by simp), if_neg hbad, if_pos hs]
        go_enter Tryz.func56, Tryz.ntmps56
        go_wp2
        go_ret
        rw [hfin.out]
        exact ⟨rfl, hR0.out.fault 0 10⟩
      · have hfin : Hid (RS.num ⟨l, 0⟩ k = (Cod.num (l.take k), ⟨l.drop k, 0⟩)) := by
          simp only [Hid, RS.num]
          rw [if_neg (by simp), if_neg hbad, if_neg hs, Int.toNat_natCast]
        go_enter Tryz.func56, Tryz.ntmps56
        go_wp2_with (fail)
        refine (take_any S p ⟨l, 0⟩ k w hR0.out (by simp; omega)).mono ?_
        rintro e w1 ⟨ao1, cap1, D1, rfl, hV1, hD1, hR1⟩
        have HV1 := Lib.hid hV1
        have HR1 := Lib.hid hR1
        clear hV1 hR1
        go_wp2_with (fail)
        have hlen : (l.take k).length = k := by rw [List.length_take]; omega
        have hnum := number_any D1 ao1 (l.take k) cap1 w1 HV1.out (by omega)
        rw [hlen] at hnum
        refine hnum.mono ?_
        rintro e w2 ⟨rfl, rfl⟩
        clear hnum hlen
        go_wp2
        go_ret
        rw [hfin.out]
        exact ⟨rfl, HR1.out⟩
  · have hfin : Hid (RS.num ⟨l, err⟩ many = (0, ⟨l, err⟩)) := by simp [Hid, RS.num, he]
    have he' : (err == 0) = false := by simp [he]
    go_enter Tryz.func56, Tryz.ntmps56
    go_wp2
    go_ret
    rw [hfin.out]
    exact ⟨rfl, hR0.out.same⟩
end Cod
end Go.Proofs.YtmdphcebmgcdbaaGreat
end
section
namespace Go.Proofs.YtmdphcebmgcdbaaGreat
open Go.RowKit Go.Own
namespace Cod
def RawDone (S : Nat → Prop) (p : Nat) (x : List UInt8 × RS) (w : World) (e : Ending) (w' : World) : Prop :=
  ∃ ao cap T, e = .returned (.slice ao x.1.length cap) ∧ Row w' 5 1 T (.slice ao x.1.length cap) x.1.length (x.1.map byteV) ∧ Rd w' S p x.2 ∧ Step S S w w' ∧ ∀ k, T k → w.heap.size ≤ k
theorem RawDone.empty {S : Nat → Prop} {p : Nat} {r : RS} {w w' : World} (h : RdTo S p r w w') : RawDone S p ([], r) w (.returned (.slice none 0 0)) w' :=
  ⟨none, 0, fun _ => False, rfl, Row.nil _ _ _, h.1, h.2, fun _ h => h.elim⟩
theorem RawDone.mk' {S T : Nat → Prop} {p : Nat} {r : RS} {l : List UInt8} {n : Nat} {w w1 w2 : World} {ao : Option Addr} {cap : Nat} (hn : l.length = n) (h : RdTo S p r w w1) (hr : Row w2 5 1 T (.slice ao n cap) n (l.map byteV)) (hs : Step (fun _ => False) T w1 w2) :
    RawDone S p (l, r) w (.returned (.slice ao n cap)) w2 := by
  subst hn
  refine ⟨ao, cap, T, rfl, hr, h.1.keep hs (fun _ _ h => h), ?_, fun k hk => (hs.new k hk).elim (fun h => h.elim) (fun g => Nat.le_trans h.2.size g)⟩
  have g := h.2
  exact ⟨hs.os.trans g.os, hs.tape.trans g.tape, hs.output.trans g.output, Nat.le_trans g.size hs.size, fun k hk hS => (hs.block k (by have := g.size; omega) (fun h => h)).trans (g.block k hk hS), fun k hk => .inl hk⟩
set_option maxHeartbeats 400000 in
theorem rraw_any (S : Nat → Prop) (p : Nat) (r : RS) (n : Int) (w : World) (hR : Rd w S p r) (hl : r.l.length ≤ 1000000000) :
    Calls Tryz.prog 75 #[.pointer (some ⟨p, 0, none⟩), .int .i64 n] w (RawDone S p (r.raw n) w) := by
  have hR0 := Lib.hid hR
  obtain ⟨ao, cap, D, hb, hV, hD, hS, hlt, hlc, hm, hnone, hspot⟩ := hR
  obtain ⟨l, err⟩ := r
  have h0 := cell_of_block (i := 0) hb rfl
  have h1 := cell_of_block (i := 1) hb rfl
  have f1 := frozen_of_block (i := 1) hb
  clear hb hV hD hS hlt hlc hm hnone hspot
  simp only at h0 h1 hl
  by_cases he : err = 0
  · subst he
    by_cases hneg : n < 0
    · have hfin : Hid (RS.raw ⟨l, 0⟩ n = ([], ⟨l, 1⟩)) := by simp [Hid, RS.raw, hneg]
      go_enter Tryz.func75, Tryz.ntmps75
      go_wp2
      go_ret
      rw [hfin.out]
      exact RawDone.empty (hR0.out.fault 0 1)
    · obtain ⟨k, rfl⟩ := Int.eq_ofNat_of_zero_le (show 0 ≤ n by omega)
      by_cases hs : (l.length : Int) < k
      · have hfin : Hid (RS.raw ⟨l, 0⟩ k = ([], ⟨l, 10⟩)) := by
          simp only [Hid, RS.raw]
          rw [if_neg (by simp), if_neg hneg, if_pos hs]
        go_enter Tryz.func75, Tryz.ntmps75
        go_wp2
        go_ret
        rw [hfin.out]
        exact RawDone.empty (hR0.out.fault 0 10)
      · have hfin : Hid (RS.raw ⟨l, 0⟩ k = (l.take k, ⟨l.drop k, 0⟩)) := by
          simp only [Hid, RS.raw]
          rw [if_neg (by simp), if_neg hneg, if_neg hs, Int.toNat_natCast]
        go_enter Tryz.func75, Tryz.ntmps75
        go_wp2_with (fail)
        refine (take_any S p ⟨l, 0⟩ k w hR0.out (by simp; omega)).mono ?_
        rintro e w1 ⟨ao1, cap1, D1, rfl, hV1, hD1, hR1⟩
        have HV1 := Lib.hid hV1
        have HR1 := Lib.hid hR1
        clear hV1 hR1
        go_wp2_with (fail)
        have hlen : (l.take k).length = k := by rw [List.length_take]; omega
        have hcl := clone_any D1 ao1 (l.take k) cap1 w1 HV1.out (by omega)
        unfold CloneDone at hcl
        rw [hlen] at hcl
        have HL := Lib.hid hlen
        refine hcl.mono ?_
        rintro e w2 ⟨ao2, cap2, T2, rfl, hr2, hs2⟩
        have HR2 := Lib.hid hr2
        clear hcl hr2 hlen
        go_wp2
        go_ret
        rw [hfin.out]
        exact RawDone.mk' HL.out HR1.out HR2.out hs2
  · have hfin : Hid (RS.raw ⟨l, err⟩ n = ([], ⟨l, err⟩)) := by simp [Hid, RS.raw, he]
    have he' : (err == 0) = false := by simp [he]
    go_enter Tryz.func75, Tryz.ntmps75
    go_wp2
    go_ret
    rw [hfin.out]
    exact RawDone.empty hR0.out.same
set_option maxHeartbeats 400000 in
theorem blobSize_any (D : Nat → Prop) (ao : Option Addr) (l : List UInt8) (cap : Nat) (most : Int) (w : World) (hV : View w D ao l) (hl : l.length ≤ 1000000000) (hc : l.length ≤ cap) (hm : cap ≤ maxLen) (hmost : most ≤ 9223372036854775807) :
    Calls Tryz.prog 100 #[.slice ao l.length cap, .int .i64 most] w fun e w' => e = .returned (.tuple #[.int .i64 (blobSz l most).1, .int .i64 (blobSz l most).2]) ∧ w = w' := by
  unfold maxLen at hm
  by_cases h2 : l.length < 2
  · have hfin : Hid (blobSz l most = (0, 10)) := by simp [Hid, blobSz, h2]
    go_enter Tryz.func100, Tryz.ntmps100
    go_wp2
    go_ret2
    rw [hfin.out]
    exact ⟨rfl, rfl⟩
  · obtain ⟨b, o, rfl⟩ : ∃ b o, ao = some ⟨b, o, none⟩ := by
      rcases hV with rfl | ⟨b, o, h, _⟩
      · simp at h2
      · exact ⟨b, o, h⟩
    obtain ⟨m, hm0⟩ : ∃ m, m = num (l.take 2) := ⟨_, rfl⟩
    have hm1 : m < 65536 := by have := num_lt (l.take 2); rw [List.length_take, Nat.min_eq_left (by omega), ← hm0] at this; exact this
    have hlen : (l.take 2).length = 2 := by rw [List.length_take]; omega
    have hnum : ∀ wx cx, View wx D (some ⟨b, o, none⟩) l → Calls Tryz.prog 90 #[.slice (some ⟨b, o, none⟩) 2 cx] wx fun e w' => e = .returned (.int .u64 m) ∧ wx = w' := by
      intro wx cx hv
      have := number_any D (some ⟨b, o, none⟩) (l.take 2) cx wx (View.take hv 2) (by omega)
      rw [hlen, ← hm0] at this
      exact this
    have HN := Lib.hid hnum
    have HV := Lib.hid hV
    have HM := Lib.hid hm0
    clear hnum hV hm0 hlen
    by_cases h3 : max most 0 < (m : Int)
    · have hfin : Hid (blobSz l most = (0, 4)) := by
        simp only [Hid, blobSz]
        rw [if_neg h2, ← HM.out, if_pos h3]
      go_enter Tryz.func100, Tryz.ntmps100
      go_wp2_with (fail)
      refine (HN.out _ _ HV.out).mono ?_
      rintro e w1 ⟨rfl, rfl⟩
      go_wp2
      all_goals go_ret2
      all_goals rw [hfin.out]
      all_goals exact ⟨rfl, rfl⟩
    · by_cases h4 : l.length - 2 < m
      · have hfin : Hid (blobSz l most = (0, 10)) := by
          simp only [Hid, blobSz]
          rw [if_neg h2, ← HM.out, if_neg h3, if_pos h4]
        go_enter Tryz.func100, Tryz.ntmps100
        go_wp2_with (fail)
        refine (HN.out _ _ HV.out).mono ?_
        rintro e w1 ⟨rfl, rfl⟩
        go_wp2
        all_goals go_ret2
        all_goals rw [hfin.out]
        all_goals exact ⟨rfl, rfl⟩
      · have hfin : Hid (blobSz l most = (m, 0)) := by
          simp only [Hid, blobSz]
          rw [if_neg h2, ← HM.out, if_neg h3, if_neg h4]
        go_enter Tryz.func100, Tryz.ntmps100
        go_wp2_with (fail)
        refine (HN.out _ _ HV.out).mono ?_
        rintro e w1 ⟨rfl, rfl⟩
        go_wp2
        all_goals go_ret2
        all_goals rw [hfin.out]
        all_goals exact ⟨rfl, rfl⟩
set_option maxHeartbeats 800000 in
theorem rblob_any (S : Nat → Prop) (p : Nat) (r : RS) (most : Int) (w : World) (hR : Rd w S p r) (hl : r.l.length ≤ 1000000000) (hmost : most ≤ 9223372036854775807) :
    Calls Tryz.prog 76 #[.pointer (some ⟨p, 0, none⟩), .int .i64 most] w (RawDone S p (r.blob most) w) := by
  have hR0 := Lib.hid hR
  obtain ⟨ao, cap, D, hb, hV, hD, hS, hlt, hlc, hm, hnone, hspot⟩ := hR
  obtain ⟨l, err⟩ := r
  have h0 := cell_of_block (i := 0) hb rfl
  have h1 := cell_of_block (i := 1) hb rfl
  have f1 := frozen_of_block (i := 1) hb
  simp only at h0 h1 hl hlc hV
  have hsz := Lib.hid (blobSize_any D ao l cap most w hV hl hlc hm hmost)
  clear hb hV hD hS hlt hlc hm hnone hspot
  by_cases he : err = 0
  · subst he
    obtain ⟨sz, er, hbs⟩ : ∃ sz er, blobSz l most = (sz, er) := ⟨_, _, rfl⟩
    by_cases hz : er = 0
    · subst hz
      have hfin : Hid (RS.blob ⟨l, 0⟩ most = ((l.drop 2).take sz, ⟨(l.drop 2).drop sz, 0⟩)) := by
        simp only [Hid, RS.blob, hbs]
        rw [if_neg (by simp), if_neg (by simp)]
      have hb2 : 2 ≤ l.length ∧ sz ≤ (l.drop 2).length := by
        rw [List.length_drop]
        unfold blobSz at hbs
        split at hbs
        · simp at hbs
        · split at hbs
          · simp at hbs
          · split at hbs
            · simp at hbs
            · simp at hbs; omega
      have HB := Lib.hid hbs
      have HB2 := Lib.hid hb2
      clear hbs hb2
      go_enter Tryz.func76, Tryz.ntmps76
      go_wp2_with (fail)
      refine hsz.out.mono ?_
      rintro e w1 ⟨rfl, rfl⟩
      rw [HB.out]
      go_wp2_with (fail)
      refine (take_any S p ⟨l, 0⟩ 2 w hR0.out (by have := HB2.out.1; simpa using this)).mono ?_
      rintro e w1 ⟨ao1, cap1, D1, rfl, hV1, hD1, hR1⟩
      have HR1 := Lib.hid hR1
      clear hV1 hR1
      go_wp2_with (fail)
      refine (take_any S p ⟨l.drop 2, 0⟩ sz w1 HR1.out.1 HB2.out.2).mono ?_
      rintro e w2 ⟨ao2, cap2, D2, rfl, hV2, hD2, hR2⟩
      have HV2 := Lib.hid hV2
      have HR2 := Lib.hid hR2
      clear hV2 hR2
      go_wp2_with (fail)
      have hlen : ((l.drop 2).take sz).length = sz := by rw [List.length_take]; have := HB2.out.2; omega
      have hcl := clone_any D2 ao2 ((l.drop 2).take sz) cap2 w2 HV2.out (by have := HB2.out.2; rw [List.length_drop] at this; omega)
      unfold CloneDone at hcl
      rw [hlen] at hcl
      have HL := Lib.hid hlen
      refine hcl.mono ?_
      rintro e w3 ⟨ao3, cap3, T3, rfl, hr3, hs3⟩
      have HR3 := Lib.hid hr3
      clear hcl hr3 hlen
      go_wp2
      go_ret
      rw [hfin.out]
      exact RawDone.mk' HL.out ⟨HR2.out.1, HR1.out.2.trans HR2.out.2⟩ HR3.out hs3
    · have hfin : Hid (RS.blob ⟨l, 0⟩ most = ([], ⟨l, er⟩)) := by
        simp only [Hid, RS.blob, hbs]
        rw [if_neg (by simp), if_pos hz]
      have HB := Lib.hid hbs
      clear hbs
      go_enter Tryz.func76, Tryz.ntmps76
      go_wp2_with (fail)
      refine hsz.out.mono ?_
      rintro e w1 ⟨rfl, rfl⟩
      rw [HB.out]
      go_wp2
      go_ret
      rw [hfin.out]
      exact RawDone.empty (hR0.out.fault 0 er)
  · have hfin : Hid (RS.blob ⟨l, err⟩ most = ([], ⟨l, err⟩)) := by simp [Hid, RS.blob, he]
    have he' : (err == 0) = false := by simp [he]
    go_enter Tryz.func76, Tryz.ntmps76
    go_wp2
    go_ret
    rw [hfin.out]
    exact RawDone.empty hR0.out.same
end Cod
end Go.Proofs.YtmdphcebmgcdbaaGreat
end
section
namespace Go.Proofs.YtmdphcebmgcdbaaGreat
open Go.RowKit Go.Own
namespace Cod
def AW (p : Nat) (s : WS) : Asn where
  holds S w := Wr w S p s
  keep h g hd := h.keep g hd
  lt h := h.lt
def AR (p : Nat) (r : RS) : Asn where
  holds S w := Rd w S p r
  keep h g hd := h.keep g hd
  lt h := h.lt
def AB (ao : Option Addr) (n cap : Nat) (l : List UInt8) : Asn := ARow 5 1 (.slice ao n cap) n (l.map byteV)
section
variable {B : Nat} {w0 w : World} {Ps : List Asn} {p : Nat} {s : WS} {r : RS}
theorem newWriter_st (H : St B w0 w Ps) (room : Int) (h1 : room ≤ 9223372036854775807) :
    Calls Tryz.prog 62 #[.int .i64 room] w fun e w' => ∃ p, e = .returned (.pointer (some ⟨p, 0, none⟩)) ∧ St B w0 w' (AW p ⟨max room 0, [], 0⟩ :: Ps) := by
  refine (newWriter_any room w h1).mono ?_
  rintro e w' ⟨p, S, he, hW, hs⟩
  exact ⟨p, he, H.new (AW p _) hW hs⟩
theorem num_st (H : St B w0 w Ps) (i : Nat) (hi : Ps[i]? = some (AW p s)) (n : Nat) (many : Int) (hxs : s.xs.length ≤ 100000000) :
    Calls Tryz.prog 63 #[.pointer (some ⟨p, 0, none⟩), .int .u64 n, .int .i64 many] w fun e w' => e = .returned (.tuple #[]) ∧ St B w0 w' (Ps.set i (AW p (s.num n many))) := by
  obtain ⟨S, hS, _, put⟩ := H.at i hi
  refine (num_any S p s n many w hS hxs).mono ?_
  rintro e w' ⟨he, S', hW, hs⟩
  exact ⟨he, put S' w' (AW p _) hW hs⟩
theorem raw_st (H : St B w0 w Ps) (i : Nat) (hi : Ps[i]? = some (AW p s)) {ao : Option Addr} {bs : List UInt8} (cap : Nat) (hV : View w (fun k => k < B) ao bs) (hbs : bs.length ≤ 100000000) (hxs : s.xs.length ≤ 100000000) :
    Calls Tryz.prog 65 #[.pointer (some ⟨p, 0, none⟩), .slice ao bs.length cap] w fun e w' => e = .returned (.tuple #[]) ∧ St B w0 w' (Ps.set i (AW p (s.lay bs))) := by
  obtain ⟨S, hS, hB, put⟩ := H.at i hi
  refine (raw_any S _ p s ao bs cap w hS hV (fun k hk h => by have := hB k h; omega) hbs hxs).mono ?_
  rintro e w' ⟨he, S', hW, hs⟩
  exact ⟨he, put S' w' (AW p _) hW hs⟩
theorem blob_st (H : St B w0 w Ps) (i : Nat) (hi : Ps[i]? = some (AW p s)) {ao : Option Addr} {bs : List UInt8} (cap : Nat) (hV : View w (fun k => k < B) ao bs) (hbs : bs.length ≤ 90000000) (hxs : s.xs.length ≤ 90000000) :
    Calls Tryz.prog 66 #[.pointer (some ⟨p, 0, none⟩), .slice ao bs.length cap] w fun e w' => e = .returned (.tuple #[]) ∧ St B w0 w' (Ps.set i (AW p (s.blob bs))) := by
  obtain ⟨S, hS, hB, put⟩ := H.at i hi
  refine (blob_any S _ p s ao bs cap w hS hV (fun k hk h => by have := hB k h; omega) hbs hxs).mono ?_
  rintro e w' ⟨he, S', hW, hs⟩
  exact ⟨he, put S' w' (AW p _) hW hs⟩
theorem out_st (H : St B w0 w Ps) (i : Nat) (hi : Ps[i]? = some (AW p s)) {n : Nat} (hn : s.xs.length = n) (hxs : n ≤ 1000000000) :
    Calls Tryz.prog 67 #[.pointer (some ⟨p, 0, none⟩)] w fun e w' => ∃ ao cap, e = .returned (.tuple #[.slice ao n cap, .int .i64 s.err]) ∧ St B w0 w' (AB ao n cap s.xs :: Ps) := by
  subst hn
  obtain ⟨S, hS, _, _⟩ := H.at i hi
  refine (out_any S p s w hS hxs).mono ?_
  rintro e w' ⟨ao, cap, T, he, hr, _, hs⟩
  exact ⟨ao, cap, he, H.new (AB ao _ cap s.xs) hr hs⟩
theorem newReader_old (H : St B w0 w Ps) {ao : Option Addr} {l : List UInt8} (cap : Nat) (hV : View w (fun k => k < B) ao l) (hl : l.length ≤ 1000000000) :
    Calls Tryz.prog 55 #[.slice ao l.length cap] w fun e w' => ∃ p, e = .returned (.pointer (some ⟨p, 0, none⟩)) ∧ St B w0 w' (AR p ⟨l, 0⟩ :: Ps) := by
  refine (newReader_any _ ao l cap w hV hl).mono ?_
  rintro e w' ⟨p, S, he, hR, hs⟩
  exact ⟨p, he, H.new (AR p _) hR hs⟩
theorem rnum_st (H : St B w0 w Ps) (i : Nat) (hi : Ps[i]? = some (AR p r)) (many : Int) {x : Nat × RS} (hx : r.num many = x) (hl : r.l.length ≤ 1000000000) :
    Calls Tryz.prog 56 #[.pointer (some ⟨p, 0, none⟩), .int .i64 many] w fun e w' => e = .returned (.int .u64 x.1) ∧ St B w0 w' (Ps.set i (AR p x.2)) := by
  subst hx
  obtain ⟨S, hS, _, put⟩ := H.at i hi
  refine (rnum_any S p r many w hS hl).mono ?_
  rintro e w' ⟨he, hR, hs⟩
  exact ⟨he, put S w' (AR p _) hR hs⟩
theorem rraw_st (H : St B w0 w Ps) (i : Nat) (hi : Ps[i]? = some (AR p r)) (n : Int) {x : List UInt8 × RS} (hx : r.raw n = x) {m : Nat} (hm : x.1.length = m) (hl : r.l.length ≤ 1000000000) :
    Calls Tryz.prog 75 #[.pointer (some ⟨p, 0, none⟩), .int .i64 n] w fun e w' => ∃ ao cap, e = .returned (.slice ao m cap) ∧ St B w0 w' (AB ao m cap x.1 :: Ps.set i (AR p x.2)) := by
  subst hx hm
  obtain ⟨S, hS, put⟩ := H.more i hi
  have hlt := (AR p r).lt hS
  refine (rraw_any S p r n w hS hl).mono ?_
  rintro e w' ⟨ao, cap, T, he, hr, hR, hs, hT⟩
  exact ⟨ao, cap, he, put S T w' (AR p _) (AB ao _ cap _) hR hr hs hT hlt⟩
theorem rblob_st (H : St B w0 w Ps) (i : Nat) (hi : Ps[i]? = some (AR p r)) (n : Int) (hn : n ≤ 9223372036854775807) {x : List UInt8 × RS} (hx : r.blob n = x) {m : Nat} (hm : x.1.length = m) (hl : r.l.length ≤ 1000000000) :
    Calls Tryz.prog 76 #[.pointer (some ⟨p, 0, none⟩), .int .i64 n] w fun e w' => ∃ ao cap, e = .returned (.slice ao m cap) ∧ St B w0 w' (AB ao m cap x.1 :: Ps.set i (AR p x.2)) := by
  subst hx hm
  obtain ⟨S, hS, put⟩ := H.more i hi
  have hlt := (AR p r).lt hS
  refine (rblob_any S p r n w hS hl hn).mono ?_
  rintro e w' ⟨ao, cap, T, he, hr, hR, hs, hT⟩
  exact ⟨ao, cap, he, put S T w' (AR p _) (AB ao _ cap _) hR hr hs hT hlt⟩
theorem end_st (H : St B w0 w Ps) (i : Nat) (hi : Ps[i]? = some (AR p r)) :
    Calls Tryz.prog 57 #[.pointer (some ⟨p, 0, none⟩)] w fun e w' => e = .returned (.int .i64 r.fin) ∧ w = w' := by
  obtain ⟨S, hS, _, _⟩ := H.at i hi
  exact end_any S p r w hS
end
end Cod
end Go.Proofs.YtmdphcebmgcdbaaGreat
end
section
namespace Go.Proofs.YtmdphcebmgcdbaaGreat
open Go.RowKit Go.Own
namespace Cod
theorem lay_fits (s : WS) (bs : List UInt8) (he : s.err = 0) (h : (bs.length : Int) ≤ s.room - s.xs.length) : s.lay bs = ⟨s.room, s.xs ++ bs, 0⟩ := by
  unfold WS.lay
  rw [if_neg (by simpa using he), if_neg (by omega), he]
theorem num_fits (s : WS) (n k : Nat) (he : s.err = 0) (hk : k ≤ 8) (h : (k : Int) ≤ s.room - s.xs.length) : s.num n k = ⟨s.room, s.xs ++ le n k, 0⟩ := by
  unfold WS.num
  rw [if_neg (by simpa using he), if_neg (by omega), Int.toNat_natCast, lay_fits s _ he (by rw [le_len]; exact h)]
theorem blob_fits (s : WS) (bs : List UInt8) (he : s.err = 0) (hb : bs.length ≤ 65535) (h : ((2 + bs.length : Nat) : Int) ≤ s.room - s.xs.length) : s.blob bs = ⟨s.room, s.xs ++ (le bs.length 2 ++ bs), 0⟩ := by
  unfold WS.blob
  rw [if_neg (by simpa using he), if_neg (by omega), lay_fits s _ he (by rw [List.length_append, le_len]; exact h)]
end Cod
end Go.Proofs.YtmdphcebmgcdbaaGreat
end
section
namespace Go.Own
open Go.RowKit
def RdRow (w : World) (v : Value) (n : Nat) (xs : List Value) : Prop := ∃ ao cap, v = .slice ao n cap ∧ (n = 0 ∨ ∃ g, ao = some ⟨g, 0, none⟩ ∧ ∀ j u, xs[j]? = some u → w.cell? ⟨g, j, none⟩ = some u)
theorem cellLater' {W w : World} {a : Addr} {v : Value} (h : W.cell? a = some v) (hb : Below W.heap.size W w) : w.cell? a = some v := by
  have hlt : a.block < W.heap.size := by
    unfold World.cell? at h
    rcases Nat.lt_or_ge a.block W.heap.size with h1 | h1
    · exact h1
    · rw [Array.getElem?_eq_none h1] at h; simp at h
  unfold World.cell? at h ⊢
  rw [hb.block a.block hlt]
  exact h
theorem RdRow.later {W w : World} {v : Value} {n : Nat} {xs : List Value} (h : RdRow W v n xs) (hb : Below W.heap.size W w) : RdRow w v n xs := by
  obtain ⟨ao, cap, rfl, h⟩ := h
  refine ⟨ao, cap, rfl, ?_⟩
  rcases h with h | ⟨g, e, h⟩
  · exact .inl h
  · exact .inr ⟨g, e, fun j u hu => cellLater' (h j u hu) hb⟩
def tyRow (n : Nat) (xs : List Value) : Ty where
  holds v w := RdRow w v n xs
  keep h g := h.later g
theorem rd_own {B : Nat} {w0 w : World} {Ps : List Asn} {e : TypeId} {size n : Nat} {v : Value} {xs : List Value} (H : St B w0 w Ps) (i : Nat) (hi : Ps[i]? = some (ARow e size v n xs)) : RdRow w v n xs := by
  obtain ⟨ao, cap, rfl⟩ := H.rowForm i hi
  refine ⟨ao, cap, rfl, ?_⟩
  cases ao with
  | none => exact .inl ((H.rowLen i hi).2.2.2 rfl).1
  | some a =>
    rcases Nat.eq_zero_or_pos n with h0 | hp
    · exact .inl h0
    · have hl := (H.rowLen i hi).1
      by_cases hs : size = 0
      · obtain ⟨S, hS, _⟩ := H.at i hi
        obtain ⟨ao', cap', hv, _, _, _, hg⟩ := Row.form hS
        simp only [Value.slice.injEq, true_and] at hv
        obtain ⟨rfl, rfl⟩ := hv
        obtain ⟨g, rfl, _⟩ := hg a rfl
        exact .inr ⟨g, rfl, fun j u hu => by have := (List.getElem?_eq_some_iff.1 hu).1; rw [hl, hs] at this; omega⟩
      · have hpos : 0 < n * size := Nat.mul_pos hp (Nat.pos_of_ne_zero hs)
        obtain ⟨g, hg, _⟩ := H.rowAt i hi 0 hpos
        cases hg
        refine .inr ⟨g, rfl, fun j u hu => ?_⟩
        have hj : j < n * size := by rw [← hl]; exact (List.getElem?_eq_some_iff.1 hu).1
        obtain ⟨g', hg', ⟨u', hu', hc⟩, _⟩ := H.rowAt i hi j hj
        cases hg'
        rw [hc, ← hu', hu]
end Go.Own
namespace Go.Proofs.YtmdphcebmgcdbaaGreat
open Go.RowKit Go.Own
namespace Tab
open Go.TabM
abbrev iV (k : Nat) : Value := .int .i64 (k : Int)
end Tab
end Go.Proofs.YtmdphcebmgcdbaaGreat
end
section
namespace Go.Own
open Go.RowKit
end Go.Own
namespace Go.Proofs.YtmdphcebmgcdbaaGreat
open Go.RowKit Go.Own
namespace Tab
open Go.TabM
theorem manyInt : Many Tryz.prog 42 3 1 8 := ⟨Tryz.underlying42, by kernel_rfl, by decide⟩
abbrev RowI (v : Value) (l : List Nat) (n : Nat) : Asn := ARow 3 1 v n (l.map iV)
theorem one_cellI (w : World) (i : Nat) : ∀ a, some (⟨w.heap.size, 0, none⟩ : Addr) = some a → ∀ j u, ([iV i] : List Value)[j]? = some u → (w.alloc (.cells #[.int .i64 (i : Int)] 3)).cell? (a.add j) = some u := by
  intro a ha j u hu
  cases ha
  cases j with
  | zero =>
    simp at hu
    subst hu
    rw [add_of]
    exact ((Own.St.start w).boxV 3 [iV i]).cellV 0 rfl 0 rfl |>.1
  | succ j => simp at hu
section
variable {B : Nat} {w0 w : World} {Ps : List Asn} {q : Nat} {v : Value} {t : T} {N : Nat}
end
end Tab
end Go.Proofs.YtmdphcebmgcdbaaGreat
end
section
namespace Go.Own
open Go.RowKit
section
variable {α : Type}
def inE (enc : α → List Value) (Fit : α → Prop) : InT α := fun a _ _ cs => cs = enc a ∧ Fit a
structure RoundE (P : Program) (ty : TypeId) (z : List Value) (B : Nat) (w0 wr : World) (Ps : List Asn) (b o : Nat) (vs : List Value) : Prop where
  range : wr.rangeAt b o vs
  there : (wr.alloc (.cells z.toArray ty)).there wr.heap.size 0 vs.toArray.size
  st : St B w0 ((wr.alloc (.cells z.toArray ty)).setCells wr.heap.size 0 vs.toArray.toList) (AVals wr.heap.size ty vs :: Ps)
  info : (P.info? ty).map (·.size) = some vs.length
  info2 : (P.info? ty).map (·.size) = some vs.toArray.size
  one : vs.toArray.all (·.oneCell') = true
  len : vs.length = z.length
theorem round_E {P : Program} {ty : TypeId} {z vs : List Value} {B : Nat} {w0 wr : World} {Ps : List Asn} {b o : Nat} (H : St B w0 wr Ps) (hr : wr.rangeAt b o vs) (hl : vs.length = z.length) (hi : (P.info? ty).map (·.size) = some z.length) (h1 : ∀ v ∈ vs, v.oneCell' = true) : RoundE P ty z B w0 wr Ps b o vs := by
  have hz := H.boxV ty z
  refine ⟨hr, ?_, ?_, by rw [hl]; exact hi, by rw [List.size_toArray, hl]; exact hi, all_oneCell_toArray h1, hl⟩
  · exact hz.thereV 0 rfl (by rw [List.size_toArray, hl]; exact Nat.le_refl _)
  · have := St.setAll 0 vs 0 _ _ z hz rfl (by rw [Nat.zero_add, hl])
    simpa using this
end
end Go.Own
end
section
namespace Go.Proofs.YtmdphcebmgcdbaaGreat
open Go.RowKit Go.Own
namespace Tab
open Go.TabM
abbrev i64T (x : Int) : Prop := -9223372036854775808 ≤ x ∧ x ≤ 9223372036854775807
abbrev actVs (a : ActD) : List Value := [.int .u8 (a.kind.toNat : Int), .int .i64 a.seg]
abbrev FitA (a : ActD) : Prop := i64T a.seg
abbrev inAct : InT ActD := inE actVs FitA
structure Kept (W : World) where
  A : Nat → T → Asn
  new : ∀ {B : Nat} {w0 w : World} {Ps : List Asn} (num : Int), Below W.heap.size W w → Own.St B w0 w Ps → i64T num →
    Calls Tryz.prog 16 #[.int .i64 num] w fun e w' => if mayBe num = true then ∃ p, e = .returned (.tuple #[ptr p, errT 0]) ∧ Own.St B w0 w' (A p (fresh num.toNat) :: Ps) else e = .returned (.tuple #[.pointer none, errT 1]) ∧ Own.St B w0 w' Ps
  open_ : ∀ {B : Nat} {w0 w : World} {Ps : List Asn} {p : Nat} {t : T} {N : Nat}, Below W.heap.size W w → Own.St B w0 w (A p t :: Ps) → Ok t N → N ≤ 10000 →
    Calls Tryz.prog 69 #[ptr p] w fun e w' => e = .returned (opV (openT t).2) ∧ Own.St B w0 w' (A p (openT t).1 :: Ps)
  seal_ : ∀ {B : Nat} {w0 w : World} {Ps : List Asn} {p : Nat} {t : T} {N : Nat}, Below W.heap.size W w → Own.St B w0 w (A p t :: Ps) → Ok t N → N ≤ 10000 →
    Calls Tryz.prog 24 #[ptr p] w fun e w' => e = .returned (errT (sealT t).2) ∧ Own.St B w0 w' (A p (sealT t).1 :: Ps)
  cur : ∀ {B : Nat} {w0 w : World} {Ps : List Asn} {p : Nat} {t : T} {N : Nat}, Below W.heap.size W w → Own.St B w0 w (A p t :: Ps) → Ok t N → N ≤ 10000 → Calls Tryz.prog 22 #[ptr p] w fun e w' => e = .returned (curV t) ∧ Below w.heap.size w w'
  sealed : ∀ {B : Nat} {w0 w : World} {Ps : List Asn} {p : Nat} {t : T} {N : Nat}, Below W.heap.size W w → Own.St B w0 w (A p t :: Ps) → Ok t N → N ≤ 10000 → Calls Tryz.prog 11 #[ptr p] w fun e w' => ∃ v, e = .returned v ∧ RdRow w' v (sealedL t).length ((sealedL t).map iV) ∧ Below w.heap.size w w'
  sealedOwn : ∀ {B : Nat} {w0 w : World} {Ps : List Asn} {p : Nat} {t : T} {N : Nat}, Below W.heap.size W w → Own.St B w0 w (A p t :: Ps) → Ok t N → N ≤ 10000 → Calls Tryz.prog 11 #[ptr p] w fun e w' => ∃ ao c, e = .returned (.slice ao (sealedL t).length c) ∧ Own.St B w0 w' (RowI (.slice ao (sealedL t).length c) (sealedL t) (sealedL t).length :: A p t :: Ps)
  rows : ∀ {B : Nat} {w0 w : World} {Ps : List Asn} {p : Nat} {t : T} {N : Nat}, Below W.heap.size W w → Own.St B w0 w (A p t :: Ps) → Ok t N → N ≤ 10000 → Calls Tryz.prog 38 #[ptr p] w fun e w' => ∃ ao c, e = .returned (.slice ao t.rows.length c) ∧ Own.St B w0 w' (ARow 106 3 (.slice ao t.rows.length c) t.rows.length (t.rows.flatMap sgC) :: A p t :: Ps) ∧ Below w.heap.size w w'
  next : ∀ {B : Nat} {w0 w : World} {Ps : List Asn} {p : Nat} {t : T} {N : Nat}, Below W.heap.size W w → Own.St B w0 w (A p t :: Ps) → Ok t N → N ≤ 10000 → Calls Tryz.prog 34 #[ptr p] w fun e w' => e = .returned (.int .u64 (t.next : Int)) ∧ Below w.heap.size w w'
  nilOpen : ∀ (w : World), Calls Tryz.prog 69 #[.pointer none] w fun e w' => e = .returned (opV (0, 0, 2)) ∧ Below w.heap.size w w'
  nilSeal : ∀ (w : World), Calls Tryz.prog 24 #[.pointer none] w fun e w' => e = .returned (errT 2) ∧ Below w.heap.size w w'
  nilCur : ∀ (w : World), Calls Tryz.prog 22 #[.pointer none] w fun e w' => e = .returned (.tuple #[.int .i64 0, .bool false]) ∧ Below w.heap.size w w'
  nilSealed : ∀ (w : World), Calls Tryz.prog 11 #[.pointer none] w fun e w' => ∃ ao cap, e = .returned (.slice ao 0 cap) ∧ Below w.heap.size w w'
  nilRows : ∀ (w : World), Calls Tryz.prog 38 #[.pointer none] w fun e w' => ∃ ao cap, e = .returned (.slice ao 0 cap) ∧ Below w.heap.size w w'
  nilNext : ∀ (w : World), Calls Tryz.prog 34 #[.pointer none] w fun e w' => e = .returned (.int .u64 0) ∧ Below w.heap.size w w'
section
variable {B : Nat} {w0 w : World} {Ps : List Asn} {p : Nat} {t : T} {N : Nat}
end
end Tab
end Go.Proofs.YtmdphcebmgcdbaaGreat
end
section
namespace Go.Proofs.YtmdphcebmgcdbaaGreat
namespace Rec
open Go.RecM
open Cod (RS)
theorem cod_num (l : RecM.Bs) : Cod.num l = RecM.num l := by
  induction l with
  | nil => rfl
  | cons c r ih => rw [Cod.num, RecM.num, ih]
theorem num_lt (l : RecM.Bs) : RecM.num l < 2 ^ (8 * l.length) := by
  induction l with
  | nil => simp [RecM.num]
  | cons c r ih =>
    have e : 2 ^ (8 * (r.length + 1)) = 256 * 2 ^ (8 * r.length) := by rw [Nat.mul_add, Nat.pow_add]; simp [Nat.mul_comm]
    have := c.toNat_lt
    rw [RecM.num, List.length_cons, e]
    omega
theorem le_cons (k n : Nat) : RecM.le n (k + 1) = UInt8.ofNat n :: RecM.le (n / 256) k := by
  induction k with
  | zero => simp [RecM.le]
  | succ k ih =>
    rw [RecM.le, ih, RecM.le, List.cons_append]
    congr 3
    have e : 2 ^ (8 * (k + 1)) = 256 * 2 ^ (8 * k) := by rw [Nat.mul_add, Nat.pow_add]; simp [Nat.mul_comm]
    rw [e, Nat.div_div_eq_div_mul]
theorem le_num (l : RecM.Bs) : RecM.le (RecM.num l) l.length = l := by
  induction l with
  | nil => rfl
  | cons c r ih =>
    have hc := c.toNat_lt
    rw [List.length_cons, le_cons, RecM.num, show (c.toNat + 256 * RecM.num r) / 256 = RecM.num r by omega, ih]
    congr 1
    apply UInt8.toNat_inj.1
    simp
theorem num_ok {r : RS} {k x : Nat} {l' : RecM.Bs} (hk : k ≤ 8) (h : r.num (k : Int) = (x, ⟨l', 0⟩)) : r.err = 0 ∧ r.l = RecM.le x k ++ l' ∧ x < 2 ^ (8 * k) := by
  obtain ⟨l, e⟩ := r
  unfold RS.num at h
  by_cases he : e = 0
  · subst he
    rw [if_neg (by simp), if_neg (by omega)] at h
    by_cases hs : (l.length : Int) < (k : Int)
    · simp only [hs, if_true, Prod.mk.injEq, RS.mk.injEq] at h
      exact absurd h.2.2 (by decide)
    · simp only [hs, if_false, Prod.mk.injEq, RS.mk.injEq, Int.toNat_natCast, and_true] at h
      obtain ⟨rfl, rfl⟩ := h
      have hl : (l.take k).length = k := by rw [List.length_take]; omega
      refine ⟨rfl, ?_, ?_⟩
      · rw [cod_num]
        have := le_num (l.take k)
        rw [hl] at this
        rw [this, List.take_append_drop]
      · rw [cod_num]
        have := num_lt (l.take k)
        rw [hl] at this
        exact this
  · rw [if_pos (by exact he)] at h
    simp only [Prod.mk.injEq, RS.mk.injEq] at h
    exact absurd h.2.2 he
theorem raw_ok {r : RS} {k : Nat} {x l' : RecM.Bs} (h : r.raw (k : Int) = (x, ⟨l', 0⟩)) : r.err = 0 ∧ r.l = x ++ l' ∧ x.length = k := by
  obtain ⟨l, e⟩ := r
  unfold RS.raw at h
  by_cases he : e = 0
  · subst he
    rw [if_neg (by simp), if_neg (by omega)] at h
    by_cases hs : (l.length : Int) < (k : Int)
    · simp only [hs, if_true, Prod.mk.injEq, RS.mk.injEq] at h
      exact absurd h.2.2 (by decide)
    · simp only [hs, if_false, Prod.mk.injEq, RS.mk.injEq, Int.toNat_natCast, and_true] at h
      obtain ⟨rfl, rfl⟩ := h
      exact ⟨rfl, (List.take_append_drop _ _).symm, by rw [List.length_take]; omega⟩
  · rw [if_pos (by exact he)] at h
    simp only [Prod.mk.injEq, RS.mk.injEq] at h
    exact absurd h.2.2 he
theorem blob_ok {r : RS} {x l' : RecM.Bs} (h : r.blob 300 = (x, ⟨l', 0⟩)) : r.err = 0 ∧ r.l = RecM.le x.length 2 ++ (x ++ l') ∧ x.length ≤ 300 := by
  obtain ⟨l, e⟩ := r
  unfold RS.blob at h
  by_cases he : e = 0
  · subst he
    rw [if_neg (by simp)] at h
    simp only at h
    by_cases h1 : (Cod.blobSz l 300).2 ≠ 0
    · rw [if_pos h1] at h
      simp only [Prod.mk.injEq, RS.mk.injEq] at h
      exact absurd h.2.2 h1
    · rw [if_neg h1] at h
      simp only [Prod.mk.injEq, RS.mk.injEq, and_true] at h
      obtain ⟨rfl, rfl⟩ := h
      unfold Cod.blobSz at h1 ⊢
      by_cases a1 : l.length < 2
      · rw [if_pos a1] at h1; exact absurd (by decide) h1
      rw [if_neg a1] at h1 ⊢
      by_cases a2 : max 300 0 < (Cod.num (l.take 2) : Int)
      · rw [if_pos a2] at h1; exact absurd (by decide) h1
      rw [if_neg a2] at h1 ⊢
      by_cases a3 : l.length - 2 < Cod.num (l.take 2)
      · rw [if_pos a3] at h1; exact absurd (by decide) h1
      rw [if_neg a3] at h1 ⊢
      simp only
      have hl : (l.take 2).length = 2 := by rw [List.length_take]; omega
      have hxl : ((l.drop 2).take (Cod.num (l.take 2))).length = Cod.num (l.take 2) := by rw [List.length_take, List.length_drop]; omega
      refine ⟨trivial, ?_, by rw [hxl]; omega⟩
      rw [hxl, List.take_append_drop, cod_num]
      have := le_num (l.take 2)
      rw [hl] at this
      rw [this, List.take_append_drop]
  · rw [if_pos (by exact he)] at h
    simp only [Prod.mk.injEq, RS.mk.injEq] at h
    exact absurd h.2.2 he
theorem num_run (x k : Nat) (l : RecM.Bs) (hk : k ≤ 8) (hx : x < 2 ^ (8 * k)) : RS.num ⟨RecM.le x k ++ l, 0⟩ (k : Int) = (x, ⟨l, 0⟩) := by
  unfold RS.num
  rw [if_neg (by simp), if_neg (by omega), if_neg (by simp [RecM.le_len]; omega)]
  simp only [Int.toNat_natCast]
  rw [cod_num, num_take x k l hx, drop_le]
theorem raw_run (s l : RecM.Bs) (k : Nat) (hk : s.length = k) : RS.raw ⟨s ++ l, 0⟩ (k : Int) = (s, ⟨l, 0⟩) := by
  subst hk
  unfold RS.raw
  rw [if_neg (by simp), if_neg (by omega), if_neg (by rw [List.length_append]; omega)]
  simp
theorem blob_run (d l : RecM.Bs) (hd : d.length ≤ 300) : RS.blob ⟨RecM.le d.length 2 ++ (d ++ l), 0⟩ 300 = (d, ⟨l, 0⟩) := by
  have hn : Cod.num ((RecM.le d.length 2 ++ (d ++ l)).take 2) = d.length := by rw [cod_num]; exact num_take _ 2 _ (by omega)
  have hs : Cod.blobSz (RecM.le d.length 2 ++ (d ++ l)) 300 = (d.length, 0) := by
    unfold Cod.blobSz
    rw [hn, if_neg (by rw [List.length_append, RecM.le_len]; omega), if_neg (by omega), if_neg (by rw [List.length_append, RecM.le_len, List.length_append]; omega)]
  unfold RS.blob
  rw [if_neg (by simp)]
  simp only [hs]
  rw [if_neg (by simp), drop_le]
  simp
def pad (s : RecM.Bs) : RecM.Bs := s ++ List.replicate (32 - s.length) 0
def parse (b : RecM.Bs) : Nte × RS :=
  let a := RS.num ⟨b, 0⟩ 1
  let c := UInt8.ofNat a.1
  let d := if c = 1 ∨ c = 2 then RS.num a.2 4 else (0, a.2)
  let s := if c = 4 then (0, d.2) else RS.num d.2 8
  if c = 1 ∨ c = 4 then
    let x := RS.raw s.2 32
    let k := RS.num x.2 4
    let y := RS.blob k.2 300
    (⟨c, d.1, s.1, pad x.1, k.1, y.1⟩, y.2)
  else (⟨c, d.1, s.1, zsum, 0, []⟩, s.2)
theorem fin_zero {r : RS} (h : r.fin = 0) : r = ⟨[], 0⟩ := by
  obtain ⟨l, e⟩ := r
  unfold RS.fin at h
  by_cases h1 : e = 0 ∧ l ≠ []
  · rw [if_pos h1] at h; exact absurd h (by decide)
  · rw [if_neg h1] at h
    simp only at h
    subst h
    have : l = [] := by
      cases l with
      | nil => rfl
      | cons a l => exact absurd ⟨rfl, by simp⟩ h1
    rw [this]
theorem parse_kind (b : RecM.Bs) : (parse b).1.kind = UInt8.ofNat (RS.num ⟨b, 0⟩ 1).1 := by
  unfold parse
  simp only
  split <;> rfl
theorem parse_1 {b : RecM.Bs} (h : UInt8.ofNat (RS.num ⟨b, 0⟩ 1).1 = 1) : parse b = (⟨1, (RS.num (RS.num ⟨b, 0⟩ 1).2 4).1, (RS.num (RS.num (RS.num ⟨b, 0⟩ 1).2 4).2 8).1, pad (RS.raw (RS.num (RS.num (RS.num ⟨b, 0⟩ 1).2 4).2 8).2 32).1, (RS.num (RS.raw (RS.num (RS.num (RS.num ⟨b, 0⟩ 1).2 4).2 8).2 32).2 4).1, (RS.blob (RS.num (RS.raw (RS.num (RS.num (RS.num ⟨b, 0⟩ 1).2 4).2 8).2 32).2 4).2 300).1⟩, (RS.blob (RS.num (RS.raw (RS.num (RS.num (RS.num ⟨b, 0⟩ 1).2 4).2 8).2 32).2 4).2 300).2) := by
  unfold parse
  have n12 : ¬ ((1 : UInt8) = 2) := by decide
  have n14 : ¬ ((1 : UInt8) = 4) := by decide
  have n21 : ¬ ((2 : UInt8) = 1) := by decide
  have n24 : ¬ ((2 : UInt8) = 4) := by decide
  have n31 : ¬ ((3 : UInt8) = 1) := by decide
  have n32 : ¬ ((3 : UInt8) = 2) := by decide
  have n34 : ¬ ((3 : UInt8) = 4) := by decide
  have n41 : ¬ ((4 : UInt8) = 1) := by decide
  have n42 : ¬ ((4 : UInt8) = 2) := by decide
  simp only [h, n12, n14, or_false, if_true, if_false]
theorem parse_2 {b : RecM.Bs} (h : UInt8.ofNat (RS.num ⟨b, 0⟩ 1).1 = 2) : parse b = (⟨2, (RS.num (RS.num ⟨b, 0⟩ 1).2 4).1, (RS.num (RS.num (RS.num ⟨b, 0⟩ 1).2 4).2 8).1, zsum, 0, []⟩, (RS.num (RS.num (RS.num ⟨b, 0⟩ 1).2 4).2 8).2) := by
  unfold parse
  have n12 : ¬ ((1 : UInt8) = 2) := by decide
  have n14 : ¬ ((1 : UInt8) = 4) := by decide
  have n21 : ¬ ((2 : UInt8) = 1) := by decide
  have n24 : ¬ ((2 : UInt8) = 4) := by decide
  have n31 : ¬ ((3 : UInt8) = 1) := by decide
  have n32 : ¬ ((3 : UInt8) = 2) := by decide
  have n34 : ¬ ((3 : UInt8) = 4) := by decide
  have n41 : ¬ ((4 : UInt8) = 1) := by decide
  have n42 : ¬ ((4 : UInt8) = 2) := by decide
  simp only [h, n21, n24, or_true, or_self, if_true, if_false]
theorem parse_3 {b : RecM.Bs} (h : UInt8.ofNat (RS.num ⟨b, 0⟩ 1).1 = 3) : parse b = (⟨3, 0, (RS.num (RS.num ⟨b, 0⟩ 1).2 8).1, zsum, 0, []⟩, (RS.num (RS.num ⟨b, 0⟩ 1).2 8).2) := by
  unfold parse
  have n12 : ¬ ((1 : UInt8) = 2) := by decide
  have n14 : ¬ ((1 : UInt8) = 4) := by decide
  have n21 : ¬ ((2 : UInt8) = 1) := by decide
  have n24 : ¬ ((2 : UInt8) = 4) := by decide
  have n31 : ¬ ((3 : UInt8) = 1) := by decide
  have n32 : ¬ ((3 : UInt8) = 2) := by decide
  have n34 : ¬ ((3 : UInt8) = 4) := by decide
  have n41 : ¬ ((4 : UInt8) = 1) := by decide
  have n42 : ¬ ((4 : UInt8) = 2) := by decide
  simp only [h, n31, n32, n34, or_self, if_false]
theorem parse_4 {b : RecM.Bs} (h : UInt8.ofNat (RS.num ⟨b, 0⟩ 1).1 = 4) : parse b = (⟨4, 0, 0, pad (RS.raw (RS.num ⟨b, 0⟩ 1).2 32).1, (RS.num (RS.raw (RS.num ⟨b, 0⟩ 1).2 32).2 4).1, (RS.blob (RS.num (RS.raw (RS.num ⟨b, 0⟩ 1).2 32).2 4).2 300).1⟩, (RS.blob (RS.num (RS.raw (RS.num ⟨b, 0⟩ 1).2 32).2 4).2 300).2) := by
  unfold parse
  have n12 : ¬ ((1 : UInt8) = 2) := by decide
  have n14 : ¬ ((1 : UInt8) = 4) := by decide
  have n21 : ¬ ((2 : UInt8) = 1) := by decide
  have n24 : ¬ ((2 : UInt8) = 4) := by decide
  have n31 : ¬ ((3 : UInt8) = 1) := by decide
  have n32 : ¬ ((3 : UInt8) = 2) := by decide
  have n34 : ¬ ((3 : UInt8) = 4) := by decide
  have n41 : ¬ ((4 : UInt8) = 1) := by decide
  have n42 : ¬ ((4 : UInt8) = 2) := by decide
  simp only [h, n41, n42, or_true, or_self, if_true, if_false]
theorem pad_id {s : RecM.Bs} (h : s.length = 32) : pad s = s := by unfold pad; rw [h]; simp
theorem one_le (c : UInt8) (l : RecM.Bs) : c :: l = RecM.le c.toNat 1 ++ l := by
  simp [RecM.le]
theorem zsum_len : zsum.length = 32 := by simp [zsum]
theorem first_a {b : RecM.Bs} {l : RecM.Bs} {e : Int} (he : e = 0) {x : Nat} (h : RS.num ⟨b, 0⟩ 1 = (x, ⟨l, e⟩)) : b = UInt8.ofNat x :: l := by
  subst he
  obtain ⟨_, h2, h3⟩ := num_ok (k := 1) (by omega) h
  rw [one_le, show (UInt8.ofNat x).toNat = x by simp; omega]
  exact h2
theorem pair_eta {α β : Type} (p : α × β) {x : β} (h : p.2 = x) : p = (p.1, x) := by rw [← h]
theorem parse_a {b : RecM.Bs} (hf : (parse b).2.fin = 0) (hr : right (parse b).1 = true) : Fits (parse b).1 ∧ laid (parse b).1 = b := by
  have h0 := fin_zero hf
  have hk := right_kind hr
  rw [parse_kind] at hk
  clear hf
  obtain ⟨a, ha⟩ : ∃ a, a = RS.num ⟨b, 0⟩ 1 := ⟨_, rfl⟩
  rw [← ha] at hk
  obtain ⟨a1, al, ae⟩ := a
  have ha' := ha.symm
  rcases hk with k | k | k | k
  · rw [parse_1 (by rw [ha']; exact k)] at h0 ⊢
    rw [ha'] at h0 ⊢
    simp only at h0 k ⊢
    obtain ⟨d, hd⟩ : ∃ d, d = RS.num ⟨al, ae⟩ 4 := ⟨_, rfl⟩
    rw [← hd] at h0 ⊢
    obtain ⟨s, hs⟩ : ∃ s, s = RS.num d.2 8 := ⟨_, rfl⟩
    rw [← hs] at h0 ⊢
    obtain ⟨x, hx⟩ : ∃ x, x = RS.raw s.2 32 := ⟨_, rfl⟩
    rw [← hx] at h0 ⊢
    obtain ⟨n, hn⟩ : ∃ n, n = RS.num x.2 4 := ⟨_, rfl⟩
    rw [← hn] at h0 ⊢
    obtain ⟨y1, hy1⟩ : ∃ y, y = (RS.blob n.2 300).1 := ⟨_, rfl⟩
    have hy : RS.blob n.2 300 = (y1, ⟨[], 0⟩) := by rw [hy1]; exact pair_eta _ h0
    rw [← hy1]
    obtain ⟨n1, nl, ne⟩ := n
    obtain ⟨q1, q2, q3⟩ := blob_ok hy
    simp only at q1 q2 ⊢
    subst q1
    obtain ⟨x1, xl, xe⟩ := x
    obtain ⟨p1, p2, p3⟩ := num_ok (k := 4) (by omega) hn.symm
    simp only at p1 p2 ⊢
    subst p1
    obtain ⟨s1, sl, se⟩ := s
    obtain ⟨r1, r2, r3⟩ := raw_ok (k := 32) hx.symm
    simp only at r1 r2 ⊢
    subst r1
    obtain ⟨d1, dl, de⟩ := d
    obtain ⟨t1, t2, t3⟩ := num_ok (k := 8) (by omega) hs.symm
    simp only at t1 t2 ⊢
    subst t1
    obtain ⟨u1, u2, u3⟩ := num_ok (k := 4) (by omega) hd.symm
    simp only at u1 u2 ⊢
    subst u1
    have hb := first_a rfl ha'
    rw [pad_id r3]
    refine ⟨⟨by simpa using u3, by simpa using t3, r3, by simpa using p3⟩, ?_⟩
    rw [hb, k, u2, t2, r2, p2, q2]
    simp [laid, RecM.tail]
  · rw [parse_2 (by rw [ha']; exact k)] at h0 ⊢
    rw [ha'] at h0 ⊢
    simp only at h0 k ⊢
    obtain ⟨d, hd⟩ : ∃ d, d = RS.num ⟨al, ae⟩ 4 := ⟨_, rfl⟩
    rw [← hd] at h0 ⊢
    obtain ⟨y1, hy1⟩ : ∃ y, y = (RS.num d.2 8).1 := ⟨_, rfl⟩
    have hy : RS.num d.2 8 = (y1, ⟨[], 0⟩) := by rw [hy1]; exact pair_eta _ h0
    rw [← hy1]
    obtain ⟨d1, dl, de⟩ := d
    obtain ⟨t1, t2, t3⟩ := num_ok (k := 8) (by omega) hy
    simp only at t1 t2 ⊢
    subst t1
    obtain ⟨u1, u2, u3⟩ := num_ok (k := 4) (by omega) hd.symm
    simp only at u1 u2 ⊢
    subst u1
    have hb := first_a rfl ha'
    refine ⟨⟨by simpa using u3, by simpa using t3, zsum_len, Nat.zero_lt_succ _⟩, ?_⟩
    rw [hb, k, u2, t2]
    simp [laid]
  · rw [parse_3 (by rw [ha']; exact k)] at h0 ⊢
    rw [ha'] at h0 ⊢
    simp only at h0 k ⊢
    obtain ⟨y1, hy1⟩ : ∃ y, y = (RS.num ⟨al, ae⟩ 8).1 := ⟨_, rfl⟩
    have hy : RS.num ⟨al, ae⟩ 8 = (y1, ⟨[], 0⟩) := by rw [hy1]; exact pair_eta _ h0
    rw [← hy1]
    obtain ⟨t1, t2, t3⟩ := num_ok (k := 8) (by omega) hy
    simp only at t1 t2 ⊢
    subst t1
    have hb := first_a rfl ha'
    refine ⟨⟨Nat.zero_lt_succ _, by simpa using t3, zsum_len, Nat.zero_lt_succ _⟩, ?_⟩
    rw [hb, k, t2]
    simp [laid]
  · rw [parse_4 (by rw [ha']; exact k)] at h0 ⊢
    rw [ha'] at h0 ⊢
    simp only at h0 k ⊢
    obtain ⟨x, hx⟩ : ∃ x, x = RS.raw ⟨al, ae⟩ 32 := ⟨_, rfl⟩
    rw [← hx] at h0 ⊢
    obtain ⟨n, hn⟩ : ∃ n, n = RS.num x.2 4 := ⟨_, rfl⟩
    rw [← hn] at h0 ⊢
    obtain ⟨y1, hy1⟩ : ∃ y, y = (RS.blob n.2 300).1 := ⟨_, rfl⟩
    have hy : RS.blob n.2 300 = (y1, ⟨[], 0⟩) := by rw [hy1]; exact pair_eta _ h0
    rw [← hy1]
    obtain ⟨n1, nl, ne⟩ := n
    obtain ⟨q1, q2, q3⟩ := blob_ok hy
    simp only at q1 q2 ⊢
    subst q1
    obtain ⟨x1, xl, xe⟩ := x
    obtain ⟨p1, p2, p3⟩ := num_ok (k := 4) (by omega) hn.symm
    simp only at p1 p2 ⊢
    subst p1
    obtain ⟨r1, r2, r3⟩ := raw_ok (k := 32) hx.symm
    simp only at r1 r2 ⊢
    subst r1
    have hb := first_a rfl ha'
    rw [pad_id r3]
    refine ⟨⟨Nat.zero_lt_succ _, Nat.zero_lt_succ _, r3, by simpa using p3⟩, ?_⟩
    rw [hb, k, r2, p2, q2]
    simp [laid, RecM.tail]
theorem parse_b {n : Nte} (f : Fits n) (hr : right n = true) : parse (laid n) = (n, ⟨[], 0⟩) := by
  have hk := right_kind hr
  have hd := right_data hr
  have b1 := f.addr
  have b2 := f.seq
  have b3 := f.kn
  have hfst : ∀ l, RS.num ⟨n.kind :: l, 0⟩ 1 = (n.kind.toNat, ⟨l, 0⟩) := by
    intro l
    have := num_run n.kind.toNat 1 l (by omega) (by have := n.kind.toNat_lt; omega)
    rw [← one_le] at this
    exact this
  obtain ⟨c, ad, sq, su, kn, da⟩ := n
  simp only at *
  rcases hk with k | k | k | k
  all_goals subst k
  · have e : laid ⟨1, ad, sq, su, kn, da⟩ = 1 :: (RecM.le ad 4 ++ (RecM.le sq 8 ++ (su ++ (RecM.le kn 4 ++ (RecM.le da.length 2 ++ (da ++ [])))))) := by simp [laid, RecM.tail]
    rw [e]
    have h1 := hfst (RecM.le ad 4 ++ (RecM.le sq 8 ++ (su ++ (RecM.le kn 4 ++ (RecM.le da.length 2 ++ (da ++ []))))))
    rw [parse_1 (by rw [h1]; rfl), h1]
    simp only [num_run ad 4 _ (by omega) (by omega), num_run sq 8 _ (by omega) (by omega), raw_run su _ 32 f.sum, num_run kn 4 _ (by omega) (by omega), blob_run da _ hd, pad_id f.sum, show (4 : Int) = ((4 : Nat) : Int) from rfl, show (8 : Int) = ((8 : Nat) : Int) from rfl, show (32 : Int) = ((32 : Nat) : Int) from rfl]
  · obtain ⟨z1, z2, z3⟩ := right_2 hr rfl
    simp only at z1 z2 z3
    subst z1 z2 z3
    have e : laid ⟨2, ad, sq, zsum, 0, []⟩ = 2 :: (RecM.le ad 4 ++ (RecM.le sq 8 ++ [])) := by simp [laid]
    rw [e]
    have h1 := hfst (RecM.le ad 4 ++ (RecM.le sq 8 ++ []))
    rw [parse_2 (by rw [h1]; rfl), h1]
    simp only [num_run ad 4 _ (by omega) (by omega), num_run sq 8 _ (by omega) (by omega), show (4 : Int) = ((4 : Nat) : Int) from rfl, show (8 : Int) = ((8 : Nat) : Int) from rfl]
  · obtain ⟨z0, z1, z2, z3⟩ := right_3 hr rfl
    simp only at z0 z1 z2 z3
    subst z0 z1 z2 z3
    have e : laid ⟨3, 0, sq, zsum, 0, []⟩ = 3 :: (RecM.le sq 8 ++ []) := by simp [laid]
    rw [e]
    have h1 := hfst (RecM.le sq 8 ++ [])
    rw [parse_3 (by rw [h1]; rfl), h1]
    simp only [num_run sq 8 _ (by omega) (by omega), show (8 : Int) = ((8 : Nat) : Int) from rfl]
  · obtain ⟨z0, z1, z2⟩ := right_4 hr rfl
    simp only at z0 z1 z2
    subst z0 z1
    have e : laid ⟨4, 0, 0, su, kn, da⟩ = 4 :: (su ++ (RecM.le kn 4 ++ (RecM.le da.length 2 ++ (da ++ [])))) := by simp [laid, RecM.tail]
    rw [e]
    have h1 := hfst (su ++ (RecM.le kn 4 ++ (RecM.le da.length 2 ++ (da ++ []))))
    rw [parse_4 (by rw [h1]; rfl), h1]
    simp only [raw_run su _ 32 f.sum, num_run kn 4 _ (by omega) (by omega), blob_run da _ hd, pad_id f.sum, show (4 : Int) = ((4 : Nat) : Int) from rfl, show (32 : Int) = ((32 : Nat) : Int) from rfl]
theorem take_parse (b : RecM.Bs) : RecM.take b = if (parse b).2.fin = 0 ∧ right (parse b).1 = true then ((parse b).1, 0) else (zeroN, 100) := by
  by_cases h : IsNote b
  · obtain ⟨n, f, hr, rfl⟩ := h
    have hp := parse_b f hr
    rw [take_laid f hr, hp, if_pos ⟨by unfold RS.fin; simp, hr⟩]
  · rw [take_none h, if_neg]
    rintro ⟨h1, h2⟩
    obtain ⟨f, e⟩ := parse_a h1 h2
    exact h ⟨_, f, h2, e⟩
end Rec
end Go.Proofs.YtmdphcebmgcdbaaGreat
end
section
namespace Go.Proofs.YtmdphcebmgcdbaaGreat
open Go.RowKit Go.Own
namespace Byt
abbrev strV (b : List UInt8) : Value := .string (strB b)
theorem eql_str {o : Oper} {x y : Tmp} (ho : o.op = .binOp .eql 9 (.tmp x) (.tmp y) 9) (a b : List UInt8) (v : Bool) (hv : decide (a = b) = v) (ρ : Operand → Value) (w : World) (h0 : ρ (.tmp x) = strV a) (h1 : ρ (.tmp y) = strV b) :
    (execOp ρ o).run Tryz.prog w = .ok (.value (.bool v)) w := by
  simp only [execOp, ho, h0, h1]
  cases v <;> simp at hv <;> simp [go_sem, strB_toList, hv]
end Byt
end Go.Proofs.YtmdphcebmgcdbaaGreat
end
section
namespace Go.Proofs.YtmdphcebmgcdbaaGreat
open Go.RowKit Go.Own
namespace Rec
open Go.RecM Byt
abbrev errN (n : Nat) : Value := .int .i64 (n : Int)
def keyC (s : RecM.Bs) (k : Nat) : List Value := s.map byteV ++ [.int .u32 (k : Int)]
def ntC (n : Nte) (v : Value) : List Value := .int .u8 (n.kind.toNat : Int) :: .int .u32 (n.addr : Int) :: .int .u64 (n.seq : Int) :: (keyC n.sum n.kn ++ [v])
theorem keyC_len (s : RecM.Bs) (k : Nat) (h : s.length = 32) : (keyC s k).length = 33 := by unfold keyC; simp [h]
theorem ntC_len (n : Nte) (v : Value) (h : n.sum.length = 32) : (ntC n v).length = 37 := by unfold ntC; simp [keyC_len _ _ h]
theorem ntC_data (n : Nte) (v : Value) (h : n.sum.length = 32) : (ntC n v)[36]? = some v := by
  unfold ntC
  show (keyC n.sum n.kn ++ [v])[33]? = some v
  rw [List.getElem?_append_right (by rw [keyC_len _ _ h]; omega), keyC_len _ _ h]
  rfl
theorem ntC_kn (n : Nte) (v : Value) (h : n.sum.length = 32) : (ntC n v)[35]? = some (.int .u32 (n.kn : Int)) := by
  unfold ntC keyC
  show ((n.sum.map byteV ++ [_]) ++ [v])[32]? = _
  rw [List.append_assoc, List.getElem?_append_right (by simp [h]), List.length_map, h]
  rfl
theorem ntC_key (n : Nte) (v : Value) (j : Nat) (u : Value) (h : (keyC n.sum n.kn)[j]? = some u) : (ntC n v)[3 + j]? = some u := by
  unfold ntC
  rw [Nat.add_comm]
  show (keyC n.sum n.kn ++ [v])[j]? = some u
  rw [List.getElem?_append_left (List.getElem?_eq_some_iff.1 h).1]
  exact h
theorem ntC_sum (n : Nte) (v : Value) (j : Nat) (u : Value) (h : (n.sum.map byteV)[j]? = some u) : (ntC n v)[3 + j]? = some u := by
  refine ntC_key n v j u ?_
  unfold keyC
  rw [List.getElem?_append_left (List.getElem?_eq_some_iff.1 h).1]
  exact h
theorem ntC_one {n : Nte} {v : Value} (hv : v.oneCell' = true) : ∀ u ∈ ntC n v, u.oneCell' = true := by
  intro u hu
  unfold ntC keyC at hu
  simp only [List.mem_cons, List.mem_append, List.not_mem_nil, or_false] at hu
  rcases hu with rfl | rfl | rfl | (h | rfl) | rfl
  · rfl
  · rfl
  · rfl
  · exact byteV_one _ u h
  · rfl
  · exact hv
theorem info_key (cs : List Value) (h : cs.length = 33) : (Tryz.prog.info? 36).map (·.size) = some cs.length := by
  have h0 : (Tryz.prog.info? 36).map (fun i => i.size) = some 33 := by kernel_rfl
  rw [h]; exact h0
theorem info_note (cs : List Value) (h : cs.length = 37) : (Tryz.prog.info? 39).map (·.size) = some cs.length := by
  have h0 : (Tryz.prog.info? 39).map (fun i => i.size) = some 37 := by kernel_rfl
  rw [h]; exact h0
theorem info_noteA (cs : List Value) (h : cs.length = 37) : (Tryz.prog.info? 39).map (·.size) = some cs.toArray.size := by rw [List.size_toArray]; exact info_note cs h
theorem load_key (cs : List Value) (hl : cs.length = 33) {o : Oper} {x : Tmp} (ho : o.op = .load 36 (.tmp x)) {b k : Nat} (ρ : Operand → Value) {w : World} (hr : w.rangeAt b k cs) (h0 : ρ (.tmp x) = .pointer (some ⟨b, k, none⟩)) : (execOp ρ o).run Tryz.prog w = .ok (.value (.agg cs.toArray)) w := by
  have := run_loadAt_mid (P := Tryz.prog) w b k 36 cs _ hr Tryz.underlying36 rfl (info_key cs hl)
  unfold execOp
  simp only [ho, h0, Sem.run_bind, this, Result.andThen_ok, Sem.run_pure]
theorem load_note (cs : List Value) (hl : cs.length = 37) {o : Oper} {x : Tmp} (ho : o.op = .load 39 (.tmp x)) {b k : Nat} (ρ : Operand → Value) {w : World} (hr : w.rangeAt b k cs) (h0 : ρ (.tmp x) = .pointer (some ⟨b, k, none⟩)) : (execOp ρ o).run Tryz.prog w = .ok (.value (.agg cs.toArray)) w := by
  have := run_loadAt_mid (P := Tryz.prog) w b k 39 cs _ hr Tryz.underlying39 rfl (info_note cs hl)
  unfold execOp
  simp only [ho, h0, Sem.run_bind, this, Result.andThen_ok, Sem.run_pure]
theorem built_key0 : Tryz.prog.built 36 [] = some (keyC zsum 0).toArray := by kernel_rfl
theorem zero_key {o : Oper} (ho : o.op = .build 36 #[]) (ρ : Operand → Value) (w : World) : (execOp ρ o).run Tryz.prog w = .ok (.value (.agg (keyC zsum 0).toArray)) w := by
  have := run_build w 36 (#[] : Array (Nat × Value)) _ built_key0
  unfold execOp
  simp only [ho, List.map_toArray, List.map_nil, Sem.run_bind, this, Result.andThen_ok, Sem.run_pure]
theorem bytes_ints (l : RecM.Bs) : (l.map (fun x => (x.toNat : Int))).map (Value.int .u8) = l.map byteV := by
  rw [List.map_map]; rfl
theorem bytes_eq (a b : RecM.Bs) : decide (a.map (fun x => (x.toNat : Int)) = b.map (fun x => (x.toNat : Int))) = decide (a = b) := by
  apply decide_eq_decide.2
  constructor
  · intro h
    exact (List.map_inj_right (fun x y h => UInt8.toNat_inj.1 (by omega))).1 h
  · rintro rfl; rfl
theorem run_eq_sum (d : Nat) (a b : RecM.Bs) (ha : a.length = 32) (hb : b.length = 32) (w : World) : (Op.equalIn (d + 2) 34 (.agg (a.map byteV).toArray) (.agg (b.map byteV).toArray)).run Tryz.prog w = .ok (decide (a = b)) w := by
  have h := run_equalIn_ints (P := Tryz.prog) d 34 5 .u8 (a.map (fun x => (x.toNat : Int))) (b.map (fun x => (x.toNat : Int))) (by simp [ha, hb]) (by rw [List.length_map, ha]; exact Tryz.underlying34) Tryz.underlying5 (fun w => by kernel_rfl) (fun w => by kernel_rfl) w
  rw [bytes_eq, bytes_ints, bytes_ints] at h
  exact h
theorem key_fields : (Tryz.prog.fieldsOf 36).toList.map (fun f => (f.name, f.type, f.offset)) = [("Sum", 34, 0), ("N", 31, 32)] := by kernel_rfl
theorem part_sum (a : RecM.Bs) (x : Nat) (ha : a.length = 32) (w : World) : (part 34 (keyC a x).toArray 0).run Tryz.prog w = .ok (.agg (a.map byteV).toArray) w := by
  have h1 : ∀ w, (isAgg 34).run Tryz.prog w = .ok true w := fun w => by kernel_rfl
  have h2 : ∀ w, (sizeOf 34).run Tryz.prog w = .ok 32 w := fun w => by kernel_rfl
  have e : (keyC a x).toArray.extract 0 (0 + 32) = (a.map byteV).toArray := by
    unfold keyC
    rw [List.extract_toArray]
    congr 1
    rw [List.extract_eq_take_drop, List.drop_zero, List.take_append_of_le_length (by simp [ha]), List.take_of_length_le (by simp [ha])]
  unfold part
  simp only [Sem.run_bind, h1, h2, Result.andThen_ok, if_true, Sem.run_pure, e]
theorem part_kn (a : RecM.Bs) (x : Nat) (ha : a.length = 32) (w : World) : (part 31 (keyC a x).toArray 32).run Tryz.prog w = .ok (.int .u32 (x : Int)) w := by
  have h1 : ∀ w, (isAgg 31).run Tryz.prog w = .ok false w := fun w => by kernel_rfl
  have e : (keyC a x).toArray[32]? = some (.int .u32 (x : Int)) := by
    unfold keyC
    rw [List.getElem?_toArray, List.getElem?_append_right (by simp [ha]), List.length_map, ha]
    rfl
  unfold part
  simp only [Sem.run_bind, h1, Result.andThen_ok, Bool.false_eq_true, if_false, e, Sem.run_pure]
theorem run_eq_key (a b : RecM.Bs) (x y : Nat) (ha : a.length = 32) (hb : b.length = 32) (w : World) : (Op.equalIn 10000 36 (.agg (keyC a x).toArray) (.agg (keyC b y).toArray)).run Tryz.prog w = .ok (decide (a = b) && decide (x = y)) w := by
  have ht : Tryz.prog.underlying 36 = some (.struct (Tryz.prog.fieldsOf 36)) := by kernel_rfl
  have hp : Tryz.prog.stoodInHeld 36 = false := by kernel_rfl
  have h := run_equalIn_struct (P := Tryz.prog) w 9999 36 (keyC a x).toArray (keyC b y).toArray ht hp
  rw [h]
  have hf := key_fields
  match hl : (Tryz.prog.fieldsOf 36).toList with
  | [] => rw [hl] at hf; simp at hf
  | [_] => rw [hl] at hf; simp at hf
  | _ :: _ :: _ :: _ => rw [hl] at hf; simp at hf
  | [f0, f1] =>
    rw [hl] at hf
    simp only [List.map_cons, List.map_nil, List.cons.injEq, Prod.mk.injEq, and_true] at hf
    obtain ⟨⟨n0, t0, o0⟩, n1, t1, o1⟩ := hf
    have hs := run_eq_sum 9997 a b ha hb w
    have hi := run_equalIn_int (P := Tryz.prog) w 9998 31 .u32 .u32 (x : Int) (y : Int) Tryz.underlying31
    simp only [Op.eqFields, n0, t0, o0, n1, t1, o1, ne_eq, String.reduceEq, not_false_eq_true, if_true, Sem.run_bind, part_sum a x ha, part_sum b y hb, Result.andThen_ok]
    rw [hs]
    by_cases hab : a = b
    · subst hab
      simp only [decide_true, Result.andThen_ok, Bool.not_true, Bool.false_eq_true, if_false, Sem.run_bind, part_kn a x ha, part_kn a y ha, Bool.true_and]
      rw [hi]
      by_cases hxy : x = y
      · simp [hxy]
      · have hxy' : ¬ (x : Int) = (y : Int) := by omega
        simp [hxy, hxy']
    · simp [hab]
theorem eql_key {o : Oper} {x y : Tmp} (ho : o.op = .binOp .eql 36 (.tmp x) (.tmp y) 36) {a b : RecM.Bs} {m n : Nat} (ha : a.length = 32) (hb : b.length = 32) {v : Bool} (hv : (decide (a = b) && decide (m = n)) = v) (ρ : Operand → Value) (w : World)
    (h0 : ρ (.tmp x) = .agg (keyC a m).toArray) (h1 : ρ (.tmp y) = .agg (keyC b n).toArray) : (execOp ρ o).run Tryz.prog w = .ok (.value (.bool v)) w := by
  have h' := run_eq_key a b m n ha hb w
  rw [hv] at h'
  have hm : Tryz.prog.eqGuardType Tryz.prog.depth 36 = false := by kernel_rfl
  have hg := run_eqGuard_agg (P := Tryz.prog) w .eql 36 (.tmp x) (.tmp y) (keyC a m).toArray (keyC b n).toArray hm
  have hb := run_eql_struct (P := Tryz.prog) w 36 (keyC a m).toArray (keyC b n).toArray
  rw [h'] at hb
  unfold execOp
  simp only [ho, h0, h1, Sem.run_bind, hg, Result.andThen_ok, hb, Sem.run_pure]
theorem kind_is (c : UInt8) : (c = 1 ↔ c.toNat = 1) ∧ (c = 2 ↔ c.toNat = 2) ∧ (c = 3 ↔ c.toNat = 3) ∧ (c = 4 ↔ c.toNat = 4) :=
  ⟨⟨fun h => by rw [h]; rfl, fun h => UInt8.toNat_inj.1 (by rw [h]; rfl)⟩, ⟨fun h => by rw [h]; rfl, fun h => UInt8.toNat_inj.1 (by rw [h]; rfl)⟩, ⟨fun h => by rw [h]; rfl, fun h => UInt8.toNat_inj.1 (by rw [h]; rfl)⟩, ⟨fun h => by rw [h]; rfl, fun h => UInt8.toNat_inj.1 (by rw [h]; rfl)⟩⟩
end Rec
end Go.Proofs.YtmdphcebmgcdbaaGreat
end
section
namespace Go.Proofs.YtmdphcebmgcdbaaGreat
open Go.RowKit Go.Own
namespace Rec
open Go.RecM Byt
open Cod (RS)
abbrev nilV : Value := .slice none 0 0
abbrev ntV (n : Nte) (v : Value) : Value := .agg (ntC n v).toArray
theorem built_note (k : Nat) : Tryz.prog.built 39 [(0, .int .u8 (k : Int))] = some (.int .u8 (k : Int) :: (ntC zeroN nilV).drop 1).toArray := by kernel_rfl
theorem built_note0 : Tryz.prog.built 39 [] = some (ntC zeroN nilV).toArray := by kernel_rfl
theorem zero_note : (Tryz.prog.info? 39).bind (·.zero) = some (.agg (ntC zeroN nilV).toArray) := by kernel_rfl
theorem ntC_setN (n : Nte) (v : Value) (h : n.sum.length = 32) (k : Nat) : (ntC n v).set 35 (.int .u32 (k : Int)) = ntC { n with kn := k } v := by
  unfold ntC keyC
  show _ :: _ :: _ :: ((((n.sum.map byteV) ++ [Value.int .u32 (n.kn : Int)]) ++ [v]).set 32 (.int .u32 (k : Int))) = _
  rw [List.append_assoc, List.set_append_right _ _ (by simp [h]), List.append_assoc, List.length_map, h]
  rfl
theorem ntC_setD (n : Nte) (v u : Value) (h : n.sum.length = 32) : (ntC n v).set 36 u = ntC n u := by
  unfold ntC
  show _ :: _ :: _ :: ((keyC n.sum n.kn ++ [v]).set 33 u) = _
  rw [List.set_append_right _ _ (by rw [keyC_len _ _ h]; omega), keyC_len _ _ h]
  rfl
theorem num_bound (r : RS) (k : Nat) (hk : k ≤ 8) : (r.num (k : Int)).1 < 2 ^ (8 * k) := by
  obtain ⟨l, e⟩ := r
  unfold RS.num
  split
  · exact Nat.two_pow_pos _
  split
  · exact Nat.two_pow_pos _
  simp only
  split
  · exact Nat.two_pow_pos _
  · simp only [Int.toNat_natCast]
    rw [cod_num]
    exact Nat.lt_of_lt_of_le (num_lt _) (Nat.pow_le_pow_right (by decide) (by rw [List.length_take]; omega))
theorem raw_size (r : RS) : (r.raw 32).1.length = 0 ∨ (r.raw 32).1.length = 32 := by
  obtain ⟨l, e⟩ := r
  unfold RS.raw
  split
  · exact .inl rfl
  split
  · exact .inl rfl
  simp only
  split
  · exact .inl rfl
  · rename_i h
    right
    rw [List.length_take]
    show min 32 l.length = 32
    omega
theorem blob_size (r : RS) : (r.blob 300).1.length ≤ 300 := by
  obtain ⟨l, e⟩ := r
  unfold RS.blob
  split
  · exact Nat.zero_le _
  simp only
  split
  · exact Nat.zero_le _
  · simp only
    rw [List.length_take]
    unfold Cod.blobSz
    split
    · exact Nat.zero_le _
    split
    · exact Nat.zero_le _
    split
    · exact Nat.zero_le _
    · simp only; omega
end Rec
end Go.Proofs.YtmdphcebmgcdbaaGreat
end
section
namespace Go.Proofs.YtmdphcebmgcdbaaGreat
open Go.RowKit Go.Own
namespace Rec
open Go.RecM Byt
theorem cod_le (n k : Nat) : Cod.le n k = RecM.le n k := by
  induction k with
  | zero => rfl
  | succ k ih => rw [Cod.le, RecM.le, ih]
theorem nt_cells {B : Nat} {w0 w : World} {Ps : List Asn} {b : Nat} {cs : List Value} (H : Own.St B w0 w Ps) (i : Nat) (hi : Ps[i]? = some (AVals b 39 cs)) {n : Nte} {v : Value} (hcs : cs = ntC n v) (hs : n.sum.length = 32) :
    w.cell? ⟨b, 0, none⟩ = some (.int .u8 (n.kind.toNat : Int)) ∧ w.cell? ⟨b, 1, none⟩ = some (.int .u32 (n.addr : Int)) ∧ w.cell? ⟨b, 2, none⟩ = some (.int .u64 (n.seq : Int)) ∧ w.cell? ⟨b, 35, none⟩ = some (.int .u32 (n.kn : Int)) ∧ w.cell? ⟨b, 36, none⟩ = some v ∧
      (∀ a, some (⟨b, 3, none⟩ : Addr) = some a → ∀ j u, (n.sum.map byteV)[j]? = some u → w.cell? (a.add j) = some u) := by
  have cc : ∀ j u, cs[j]? = some u → w.cell? ⟨b, j, none⟩ = some u := fun j u h => (H.cellV i hi j h).1
  refine ⟨cc 0 _ (by rw [hcs]; rfl), cc 1 _ (by rw [hcs]; rfl), cc 2 _ (by rw [hcs]; rfl), cc 35 _ (by rw [hcs]; exact ntC_kn n v hs), cc 36 _ (by rw [hcs]; exact ntC_data n v hs), ?_⟩
  intro a ha j u hu
  cases ha
  rw [add_of]
  exact cc (3 + j) u (by rw [hcs]; exact ntC_sum n v j u hu)
theorem own_news {B : Nat} {w0 w : World} {Ps : List Asn} {ao : Option Addr} {n cap : Nat} {l : List UInt8} (H : Own.St B w0 w Ps) (i : Nat) (hi : Ps[i]? = some (AB ao n cap l)) : (ao = none → n = 0 ∧ cap = 0) ∧ (∀ a, ao = some a → ∀ j u, (l.map byteV)[j]? = some u → w.cell? (a.add j) = some u) :=
  ⟨(ab_len H i hi).2.2.2, vcells (ab_view H i hi)⟩
theorem lay_of {n : Nte} (hr : right n = true) : lay n = (laid n, 0) := by unfold lay; rw [if_pos hr]
end Rec
end Go.Proofs.YtmdphcebmgcdbaaGreat
end
section
namespace Go.Proofs.YtmdphcebmgcdbaaGreat
open Go.RowKit Go.Own
namespace Rec
open Go.RecM Byt
def RetYes (w : World) (e : Ending) (w' : World) : Prop := e = .returned (.bool true) ∧ Below w.heap.size w w'
def LayDone (x : RecM.Bs × Nat) (w : World) (e : Ending) (w' : World) : Prop := ∃ ao cap, e = .returned (.tuple #[.slice ao x.1.length cap, errN x.2]) ∧ Given w' ao x.1.length cap x.1 ∧ Below w.heap.size w w'
def TakeNew (x : Nte × Nat) (w : World) (e : Ending) (w' : World) : Prop := ∃ ao cap, e = .returned (.tuple #[ntV x.1 (.slice ao x.1.data.length cap), errN x.2]) ∧ Given w' ao x.1.data.length cap x.1.data ∧ View w' (fun k => w.heap.size ≤ k) ao x.1.data ∧ Below w.heap.size w w'
structure Kept (W : World) where
  right : ∀ {w : World} (n : Nte) (ao : Option Addr) (len cap : Nat), Fits n → Below W.heap.size W w → Given w ao len cap n.data → len ≤ 1000000 →
    Calls Tryz.prog 61 #[ntV n (.slice ao len cap)] w fun e w' => e = .returned (.bool (right n)) ∧ Below w.heap.size w w'
  lay : ∀ {w : World} (n : Nte) (ao : Option Addr) (len cap : Nat), Fits n → Below W.heap.size W w → Given w ao len cap n.data → len ≤ 1000000 →
    Calls Tryz.prog 39 #[ntV n (.slice ao len cap)] w (LayDone (lay n) w)
  take : ∀ {w : World} (ao : Option Addr) (n cap : Nat) (p : RecM.Bs), Below W.heap.size W w → Given w ao n cap p → n ≤ 1000000 →
    Calls Tryz.prog 48 #[.slice ao n cap] w (TakeNew (RecM.take p) w)
set_option maxHeartbeats 1600000 in
theorem same_self (n : Nte) (hs : n.sum.length = 32) (a1 a2 : Option Addr) (len c1 c2 : Nat) (w : World) {D1 D2 : Nat → Prop} (h1 : View w D1 a1 n.data) (h2 : View w D2 a2 n.data) (hl : n.data.length = len) :
    Calls Tryz.prog 10 #[ntV n (.slice a1 len c1), ntV n (.slice a2 len c2)] w fun e w' => e = .returned (.bool true) ∧ Below w.heap.size w w' := by
  show Calls Tryz.prog _ #[.agg (ntC n (.slice a1 len c1)).toArray, .agg (ntC n (.slice a2 len c2)).toArray] w _
  obtain ⟨x, hx⟩ : ∃ cs, cs = ntC n (.slice a1 len c1) := ⟨_, rfl⟩
  obtain ⟨y, hy⟩ : ∃ cs, cs = ntC n (.slice a2 len c2) := ⟨_, rfl⟩
  rw [← hx, ← hy]
  have hbox := ((Own.St.start w).boxV 39 x).boxV 39 y
  obtain ⟨b, hbd⟩ : ∃ b, b = w.heap.size := ⟨_, rfl⟩
  obtain ⟨w1, hw1⟩ : ∃ w1, w1 = w.alloc (.cells x.toArray 39) := ⟨_, rfl⟩
  obtain ⟨c, hcd⟩ : ∃ b, b = w1.heap.size := ⟨_, rfl⟩
  obtain ⟨w2, hw2⟩ : ∃ w2, w2 = w1.alloc (.cells y.toArray 39) := ⟨_, rfl⟩
  have H : Hid (Own.St w.heap.size w w2 [AVals c 39 y, AVals b 39 x]) := by rw [hw2, hcd, hw1, hbd]; exact hbox
  have V1 : Hid (View w2 D1 a1 n.data) := vlater h1 H.out.below
  have V2 : Hid (View w2 D2 a2 n.data) := vlater h2 H.out.below
  have HL := Lib.hid hl
  have HS := Lib.hid hs
  have XL : Hid (x.length = 37) := by show _ = _; rw [hx]; exact ntC_len n _ hs
  have YL : Hid (y.length = 37) := by show _ = _; rw [hy]; exact ntC_len n _ hs
  have KL := Lib.hid (keyC_len n.sum n.kn hs)
  have RX : Hid (w2.rangeAt b 3 (keyC n.sum n.kn)) := fun j v hv => (H.out.cellV 1 rfl (3 + j) (by rw [hx]; exact ntC_key n _ j v hv)).1
  have RY : Hid (w2.rangeAt c 3 (keyC n.sum n.kn)) := fun j v hv => (H.out.cellV 0 rfl (3 + j) (by rw [hy]; exact ntC_key n _ j v hv)).1
  obtain ⟨k, hk⟩ : ∃ k, k = n.kind.toNat := ⟨_, rfl⟩
  obtain ⟨ad, had⟩ : ∃ a, a = n.addr := ⟨_, rfl⟩
  obtain ⟨sq, hsq⟩ : ∃ a, a = n.seq := ⟨_, rfl⟩
  have cx : ∀ j v, x[j]? = some v → w2.cell? ⟨b, j, none⟩ = some v := fun j v h => (H.out.cellV 1 rfl j h).1
  have cy : ∀ j v, y[j]? = some v → w2.cell? ⟨c, j, none⟩ = some v := fun j v h => (H.out.cellV 0 rfl j h).1
  have x0 := cx 0 (.int .u8 (k : Int)) (by rw [hx, hk]; rfl)
  have x1 := cx 1 (.int .u32 (ad : Int)) (by rw [hx, had]; rfl)
  have x2 := cx 2 (.int .u64 (sq : Int)) (by rw [hx, hsq]; rfl)
  have x36 := cx 36 (.slice a1 len c1) (by rw [hx]; exact ntC_data n _ hs)
  have y0 := cy 0 (.int .u8 (k : Int)) (by rw [hy, hk]; rfl)
  have y1 := cy 1 (.int .u32 (ad : Int)) (by rw [hy, had]; rfl)
  have y2 := cy 2 (.int .u64 (sq : Int)) (by rw [hy, hsq]; rfl)
  have y36 := cy 36 (.slice a2 len c2) (by rw [hy]; exact ntC_data n _ hs)
  rw [hw2, hw1] at x0 x1 x2 x36 y0 y1 y2 y36
  rw [hcd, hw1] at y0 y1 y2 y36
  rw [hbd] at x0 x1 x2 x36
  simp only [World.size_alloc] at y0 y1 y2 y36
  have E1 : Hid (w1 = w.alloc (.cells x.toArray 39)) := hw1
  have E2 : Hid (w2 = (w.alloc (.cells x.toArray 39)).alloc (.cells y.toArray 39)) := by show _ = _; rw [hw2, hw1]
  have EB : Hid (b = w.heap.size) := hbd
  have EC : Hid (c = w.heap.size + 1) := by show _ = _; rw [hcd, hw1]; simp
  have KE : Hid ((decide (n.sum = n.sum) && decide (n.kn = n.kn)) = true) := by show _ = _; simp
  have HDD : Hid (decide (n.data = n.data) = true) := decide_eq_true rfl
  have BB := Lib.hid H.out.below
  clear hx hy hbox hw1 hw2 hbd hcd H h1 h2 hl hs cx cy hk had hsq
  go_enter Tryz.func10, Tryz.ntmps10
  go_wp2_with (first
    | (refine wpList_val rfl (load_key _ KL.out rfl _ (by rw [← E2.out]; exact RX.out) (by rw [EB.out]; rfl)) ?_)
    | (refine wpList_val rfl (load_key _ KL.out rfl _ (by rw [← E2.out]; exact RY.out) (by rw [EC.out]; rfl)) ?_)
    | (refine wpList_val rfl (eql_key rfl HS.out HS.out KE.out _ _ rfl rfl) ?_)
    | (refine Byt.wpList_str8 rfl (.tmp 33) rfl a1 len c1 rfl _ _ (by rw [← E2.out]; exact V1.out) HL.out ?_)
    | (refine Byt.wpList_str8 rfl (.tmp 36) rfl a2 len c2 rfl _ _ (by rw [← E2.out]; exact V2.out) HL.out ?_)
    | (refine Byt.wpList_val rfl (eql_str rfl _ _ true HDD.out _ _ rfl rfl) ?_))
  rw [← E2.out]
  go_ret
  exact ⟨rfl, BB.out⟩
end Rec
end Go.Proofs.YtmdphcebmgcdbaaGreat
end
section
namespace Go.Own
open Go.RowKit
def AView (ao : Option Addr) (l : List UInt8) : Asn where
  holds S w := View w S ao l ∧ ∀ k, S k → k < w.heap.size
  keep h g hd := ⟨h.1.step g hd, fun k hk => Nat.lt_of_lt_of_le (h.2 k hk) g.size⟩
  lt h := h.2
theorem St.adoptView {B : Nat} {w0 w1 w2 : World} {Ps : List Asn} (H : St B w0 w1 Ps) (g : Below w1.heap.size w1 w2) {ao : Option Addr} {l : List UInt8} (h : View w2 (fun k => w1.heap.size ≤ k) ao l) : St B w0 w2 (AView ao l :: Ps) :=
  H.adopt g (T := fun k => w1.heap.size ≤ k ∧ k < w2.heap.size) (AView ao l) ⟨h.live, fun _ hk => hk.2⟩ (fun _ hk => hk.1)
theorem St.viewAt {B : Nat} {w0 w : World} {Ps : List Asn} (H : St B w0 w Ps) (i : Nat) {ao : Option Addr} {l : List UInt8} (hi : Ps[i]? = some (AView ao l)) : View w (fun k => k < w.heap.size) ao l := by
  obtain ⟨S, hS, _⟩ := H.at i hi
  exact hS.1.mono hS.2
end Go.Own
end
section
namespace Go.Own
open Go.RowKit
abbrev GSl := Option Addr × Nat × List UInt8
def GOk (w : World) (S : Nat → Prop) (g : GSl) : Prop := View w S g.1 g.2.2 ∧ g.2.2.length ≤ g.2.1 ∧ g.2.1 ≤ maxLen ∧ (g.1 = none → g.2.1 = 0)
def AGivens (gs : List GSl) : Asn where
  holds S w := (∀ g ∈ gs, GOk w S g) ∧ ∀ k, S k → k < w.heap.size
  keep h g hd := ⟨fun x hx => ⟨(h.1 x hx).1.step g hd, (h.1 x hx).2⟩, fun k hk => Nat.lt_of_lt_of_le (h.2 k hk) g.size⟩
  lt h := h.2
theorem St.givensNil {B : Nat} {w0 w : World} {Ps : List Asn} (H : St B w0 w Ps) : St B w0 w (AGivens [] :: Ps) :=
  H.new (S' := fun _ => False) (AGivens []) ⟨fun g hg => (by cases hg), fun _ h => h.elim⟩ (Step.refl (fun _ => False) w)
theorem St.givensJoin {B : Nat} {w0 w : World} {Ps : List Asn} {xs ys : List GSl} (H : St B w0 w (AGivens xs :: AGivens ys :: Ps)) : St B w0 w (AGivens (xs ++ ys) :: Ps) := by
  obtain ⟨hb, hs, S, ⟨S1, S2, h1, ⟨S3, S4, h3, h4, h5, h6⟩, h7, h8⟩, hB⟩ := H
  refine ⟨hb, hs, S, ⟨fun k => S1 k ∨ S3 k, S4, ⟨fun g hg => ?_, fun k hk => ?_⟩, h4, ?_, ?_⟩, hB⟩
  · rcases List.mem_append.1 hg with hg | hg
    · exact ⟨(h1.1 g hg).1.mono (fun _ hk => .inl hk), (h1.1 g hg).2⟩
    · exact ⟨(h3.1 g hg).1.mono (fun _ hk => .inr hk), (h3.1 g hg).2⟩
  · exact hk.elim (h1.2 k) (h3.2 k)
  · intro k hk hk4
    rcases hk with hk | hk
    · exact h7 k hk ((h6 k).2 (.inr hk4))
    · exact h5 k hk hk4
  · intro k
    rw [h8 k, h6 k]
    constructor
    · rintro (h | h | h)
      · exact .inl (.inl h)
      · exact .inl (.inr h)
      · exact .inr h
    · rintro ((h | h) | h)
      · exact .inl h
      · exact .inr (.inl h)
      · exact .inr (.inr h)
theorem St.givenAt {B : Nat} {w0 w : World} {Ps : List Asn} {gs : List GSl} (H : St B w0 w Ps) (i : Nat) (hi : Ps[i]? = some (AGivens gs)) (g : GSl) (hg : g ∈ gs) : View w (fun k => k < w.heap.size) g.1 g.2.2 ∧ g.2.2.length ≤ g.2.1 ∧ g.2.1 ≤ maxLen ∧ (g.1 = none → g.2.1 = 0) := by
  obtain ⟨S, hS, _⟩ := H.at i hi
  obtain ⟨h1, h2⟩ := hS.1 g hg
  exact ⟨h1.mono hS.2, h2⟩
end Go.Own
namespace Go.Proofs.YtmdphcebmgcdbaaGreat
open Go.RowKit Go.Own
namespace Lg
open Go.LogM Byt
abbrev errL (n : Nat) : Value := .int .i64 (n : Int)
abbrev i64L (n : Int) : Prop := -9223372036854775808 ≤ n ∧ n ≤ 9223372036854775807
abbrev ptr (p : Nat) : Value := .pointer (some ⟨p, 0, none⟩)
abbrev plcA (p : Plc) : Array Value := #[.int .i64 p.seg, .int .i64 p.page, .int .i64 p.pages]
def entC (e : Ent) (v : Value) : List Value := .int .i64 e.plc.seg :: .int .i64 e.plc.page :: .int .i64 e.plc.pages :: Rec.ntC e.note v
theorem entC_len (e : Ent) (v : Value) (h : e.note.sum.length = 32) : (entC e v).length = 40 := by unfold entC; simp [Rec.ntC_len _ _ h]
def gslV (g : GSl) : Value := .slice g.1 g.2.2.length g.2.1
def entsC (E : List Ent) (gs : List GSl) : List Value := (List.zipWith (fun e g => entC e (gslV g)) E gs).flatten
def mayL (fs : FlaM.FS) (tb : TabM.T) (fr : Int) : Bool := decide (0 ≤ fr) && decide (fr + (tb.rows.length : Int) ≤ (fs.safe.length : Int)) && decide (2 ≤ fs.pp)
structure Kept (W : World) (FK : Fla.Kept W) (TK : Tab.Kept W) where
  A : Nat → Nat → Nat → Nat → Nat → TabM.T → Nat → Asn
  new : ∀ {B : Nat} {w0 w : World} {Ps : List Asn} {pf pt : Nat} {fs : FlaM.FS} {tb : TabM.T} {N : Nat} (fr : Int), Below W.heap.size W w → Own.St B w0 w (FK.A pf fs :: TK.A pt tb :: Ps) → FlaM.Ok fs N → TabM.Ok tb N → N ≤ 9000 → i64L fr →
    Calls Tryz.prog 17 #[ptr pf, .int .i64 fr, ptr pt] w fun e w' => if mayL fs tb fr = true then ∃ p, e = .returned (.tuple #[ptr p, errL 0]) ∧ Own.St B w0 w' (A p pf pt fr.toNat fs.pp tb fs.pp :: FK.A pf fs :: TK.A pt tb :: Ps) else e = .returned (.tuple #[.pointer none, errL 1]) ∧ Own.St B w0 w' (FK.A pf fs :: TK.A pt tb :: Ps)
  newNilF : ∀ (fr : Int) (v : Value) (w : World), Calls Tryz.prog 17 #[.pointer none, .int .i64 fr, v] w fun e w' => e = .returned (.tuple #[.pointer none, errL 2]) ∧ Below w.heap.size w w'
  newNilT : ∀ (fr : Int) (p : Nat) (w : World), Calls Tryz.prog 17 #[ptr p, .int .i64 fr, .pointer none] w fun e w' => e = .returned (.tuple #[.pointer none, errL 2]) ∧ Below w.heap.size w w'
  append : ∀ {B : Nat} {w0 w : World} {Ps : List Asn} {p pf pt fr : Nat} {σ : LG} {N : Nat} (n : RecM.Nte) (ao : Option Addr) (len cap : Nat), Below W.heap.size W w → Own.St B w0 w (A p pf pt fr σ.fs.pp σ.tb σ.a :: FK.A pf σ.fs :: TK.A pt σ.tb :: Ps) → LgOk fr σ N → N ≤ 9000 → RecM.Fits n → Fla.Lies B w Ps ao len cap n.data → len ≤ 1000000 →
    Calls Tryz.prog 7 #[ptr p, Rec.ntV n (.slice ao len cap)] w fun e w' => e = .returned (.tuple #[.agg (plcA (appendL fr σ n).2.1), errL (appendL fr σ n).2.2]) ∧ Own.St B w0 w' (A p pf pt fr (appendL fr σ n).1.fs.pp (appendL fr σ n).1.tb (appendL fr σ n).1.a :: FK.A pf (appendL fr σ n).1.fs :: TK.A pt (appendL fr σ n).1.tb :: Ps)
  close : ∀ {B : Nat} {w0 w : World} {Ps : List Asn} {p pf pt fr : Nat} {σ : LG} {N : Nat}, Below W.heap.size W w → Own.St B w0 w (A p pf pt fr σ.fs.pp σ.tb σ.a :: FK.A pf σ.fs :: TK.A pt σ.tb :: Ps) → LgOk fr σ N → N ≤ 9000 →
    Calls Tryz.prog 8 #[ptr p] w fun e w' => e = .returned (errL (closeL σ).2) ∧ Own.St B w0 w' (A p pf pt fr (closeL σ).1.fs.pp (closeL σ).1.tb (closeL σ).1.a :: FK.A pf (closeL σ).1.fs :: TK.A pt (closeL σ).1.tb :: Ps)
  read : ∀ {B : Nat} {w0 w : World} {Ps : List Asn} {p pf pt fr : Nat} {σ : LG} {N : Nat} (x : Plc), Below W.heap.size W w → Own.St B w0 w (A p pf pt fr σ.fs.pp σ.tb σ.a :: FK.A pf σ.fs :: TK.A pt σ.tb :: Ps) → LgOk fr σ N → N ≤ 9000 → i64L x.seg → i64L x.page → i64L x.pages →
    Calls Tryz.prog 9 #[ptr p, .agg (plcA x)] w fun e w' => ∃ g : GSl, g.2.2 = (readL fr σ x).1.data ∧ e = .returned (.tuple #[Rec.ntV (readL fr σ x).1 (gslV g), errL (readL fr σ x).2]) ∧ Own.St B w0 w' (AGivens [g] :: A p pf pt fr σ.fs.pp σ.tb σ.a :: FK.A pf σ.fs :: TK.A pt σ.tb :: Ps)
  scan : ∀ {B : Nat} {w0 w : World} {Ps : List Asn} {p pf pt fr : Nat} {σ : LG} {N : Nat} (seg page : Int), Below W.heap.size W w → Own.St B w0 w (A p pf pt fr σ.fs.pp σ.tb σ.a :: FK.A pf σ.fs :: TK.A pt σ.tb :: Ps) → LgOk fr σ N → N ≤ 9000 → i64L seg → i64L page →
    Calls Tryz.prog 12 #[ptr p, .int .i64 seg, .int .i64 page] w fun e w' => ∃ (v : Value) (gs : List GSl), gs.map (fun g => g.2.2) = (scanL fr σ seg page).1.2.map (fun e => e.note.data) ∧ e = .returned (.tuple #[.int .u64 ((scanL fr σ seg page).1.1 : Int), v, errL (scanL fr σ seg page).2]) ∧
      Own.St B w0 w' (ARow 49 40 v (scanL fr σ seg page).1.2.length (entsC (scanL fr σ seg page).1.2 gs) :: AGivens gs :: A p pf pt fr σ.fs.pp σ.tb σ.a :: FK.A pf σ.fs :: TK.A pt σ.tb :: Ps)
  head : ∀ {B : Nat} {w0 w : World} {Ps : List Asn} {p pf pt fr : Nat} {σ : LG} {N : Nat}, Below W.heap.size W w → Own.St B w0 w (A p pf pt fr σ.fs.pp σ.tb σ.a :: FK.A pf σ.fs :: TK.A pt σ.tb :: Ps) → LgOk fr σ N → N ≤ 9000 →
    Calls Tryz.prog 14 #[ptr p] w fun e w' => e = .returned (.tuple #[.int .u64 ((headN σ).1 : Int), .int .i64 ((headN σ).2 : Int)]) ∧ Own.St B w0 w' (A p pf pt fr σ.fs.pp σ.tb σ.a :: FK.A pf σ.fs :: TK.A pt σ.tb :: Ps)
  nilAppend : ∀ (n : RecM.Nte) (ao : Option Addr) (len cap : Nat) (w : World), n.sum.length = 32 → Calls Tryz.prog 7 #[.pointer none, Rec.ntV n (.slice ao len cap)] w fun e w' => e = .returned (.tuple #[.agg (plcA zP), errL 2]) ∧ Below w.heap.size w w'
  nilClose : ∀ (w : World), Calls Tryz.prog 8 #[.pointer none] w fun e w' => e = .returned (errL 2) ∧ Below w.heap.size w w'
  nilRead : ∀ (x : Plc) (w : World), Calls Tryz.prog 9 #[.pointer none, .agg (plcA x)] w fun e w' => ∃ ao cap, e = .returned (.tuple #[Rec.ntV RecM.zeroN (.slice ao 0 cap), errL 2]) ∧ Below w.heap.size w w'
  nilScan : ∀ (seg page : Int) (w : World), Calls Tryz.prog 12 #[.pointer none, .int .i64 seg, .int .i64 page] w fun e w' => ∃ ao cap, e = .returned (.tuple #[.int .u64 0, .slice ao 0 cap, errL 2]) ∧ Below w.heap.size w w'
  nilHead : ∀ (w : World), Calls Tryz.prog 14 #[.pointer none] w fun e w' => e = .returned (.tuple #[.int .u64 0, .int .i64 0]) ∧ Below w.heap.size w w'
end Lg
end Go.Proofs.YtmdphcebmgcdbaaGreat
end
section
namespace Go.Own
open Go.RowKit
theorem St.wide {B : Nat} {W w0 w : World} {Ps : List Asn} (hW : Below W.heap.size W w0) (hB : W.heap.size ≤ B) (h : St B w0 w Ps) : Below W.heap.size W w := hW.trans (h.below.mono hB)
end Go.Own
namespace Go.Proofs.YtmdphcebmgcdbaaGreat
open Go.RowKit Go.Own
namespace Lg
open Go.LogM Byt
def RetYes (w : World) (e : Ending) (w' : World) : Prop := e = .returned (.bool true) ∧ Below w.heap.size w w'
theorem third {B : Nat} {w0 w : World} {x a b c : Asn} {Ps : List Asn} (h : Own.St B w0 w (x :: a :: b :: c :: Ps)) : Own.St B w0 w (a :: b :: c :: x :: Ps) := by
  refine h.perm ?_
  have h1 : (x :: a :: b :: c :: Ps).Perm (a :: x :: b :: c :: Ps) := List.Perm.swap _ _ _
  have h2 : (a :: x :: b :: c :: Ps).Perm (a :: b :: x :: c :: Ps) := (List.Perm.swap _ _ _).cons _
  have h3 : (a :: b :: x :: c :: Ps).Perm (a :: b :: c :: x :: Ps) := ((List.Perm.swap _ _ _).cons _).cons _
  exact (h1.trans h2).trans h3
abbrev LSt {W : World} {FK : Fla.Kept W} {TK : Tab.Kept W} (K : Kept W FK TK) (B : Nat) (w0 w : World) (p pf pt fr : Nat) (σ : LG) (Ps : List Asn) : Prop := Own.St B w0 w (K.A p pf pt fr σ.fs.pp σ.tb σ.a :: FK.A pf σ.fs :: TK.A pt σ.tb :: Ps)
def sNew (segs pages : Nat) : LG := ⟨FlaM.fresh (segs + 1) pages, TabM.fresh segs, pages⟩
set_option maxRecDepth 10000 in
set_option maxHeartbeats 4000000 in
theorem built_any {W : World} {FK : Fla.Kept W} {TK : Tab.Kept W} (K : Kept W FK TK) {B : Nat} {w0 w : World} {Ps : List Asn} (segs pages : Nat) (hs : segs ≤ 255) (hp : 2 ≤ pages ∧ pages ≤ 64) (hW : Below W.heap.size W w0) (hB : W.heap.size ≤ B) (H : Own.St B w0 w Ps) :
    Calls Tryz.prog 5 #[.int .i64 (segs : Int), .int .i64 (pages : Int)] w fun e w' => ∃ p pf pt, e = .returned (.tuple #[ptr p, ptr pf, ptr pt, .bool true]) ∧ LSt K B w0 w' p pf pt 1 (sNew segs pages) Ps := by
  have hm1 : FlaM.mayBe ((segs : Int) + 1) (pages : Int) = true := by unfold FlaM.mayBe; simp; omega
  have hm2 : TabM.mayBe (segs : Int) = true := by unfold TabM.mayBe; simp; omega
  have hm3 : mayL (FlaM.fresh (segs + 1) pages) (TabM.fresh segs) 1 = true := by
    unfold mayL FlaM.fresh TabM.fresh
    simp
    omega
  have ok1 : FlaM.Ok (FlaM.fresh (segs + 1) pages) 1 := (FlaM.ok_fresh (segs + 1) pages (by omega) (by omega)).more (by omega)
  have ok2 : TabM.Ok (TabM.fresh segs) 1 := (TabM.ok_fresh segs (by omega)).more (by omega)
  have c0 := FK.new ((segs : Int) + 1) (pages : Int) (H.wide hW hB) H (by unfold Fla.i64B; omega) (by unfold Fla.i64B; omega)
  rw [hm1] at c0
  simp only [if_true] at c0
  rw [show ((segs : Int) + 1).toNat = segs + 1 by omega, show ((pages : Int)).toNat = pages by omega] at c0
  have C0 := Lib.hid c0
  have C1 : Hid (∀ pf wx, Own.St B w0 wx (FK.A pf (FlaM.fresh (segs + 1) pages) :: Ps) → Calls Tryz.prog 16 #[.int .i64 (segs : Int)] wx fun e w' => ∃ p, e = .returned (.tuple #[ptr p, errL 0]) ∧ Own.St B w0 w' (FK.A pf (FlaM.fresh (segs + 1) pages) :: TK.A p (TabM.fresh segs) :: Ps)) := fun pf wx h => by
    have c := TK.new (segs : Int) (h.wide hW hB) h (by unfold Tab.i64T; omega)
    rw [hm2] at c
    simp only [if_true] at c
    rw [show ((segs : Int)).toNat = segs by omega] at c
    exact c.mono fun e w' ⟨p, h1, h2⟩ => ⟨p, h1, h2.swap2⟩
  have C2 : Hid (∀ pf pt wx, Own.St B w0 wx (FK.A pf (FlaM.fresh (segs + 1) pages) :: TK.A pt (TabM.fresh segs) :: Ps) → Calls Tryz.prog 17 #[ptr pf, .int .i64 1, ptr pt] wx fun e w' => ∃ p, e = .returned (.tuple #[ptr p, errL 0]) ∧ LSt K B w0 w' p pf pt 1 (sNew segs pages) Ps) := fun pf pt wx h => by
    have c := K.new 1 (h.wide hW hB) h ok1 ok2 (by decide) (by decide)
    rw [hm3] at c
    simp only [if_true] at c
    exact c
  clear c0 hm1 hm2 hm3 ok1 ok2 H hW hB
  go_enter Tryz.func5, Tryz.ntmps5
  go_wp2_with (fail)
  refine C0.out.mono ?_
  clear C0
  rintro e w1 ⟨pf, rfl, h1⟩
  have H1 := Lib.hid h1
  clear h1
  go_wp2_with (fail)
  refine (C1.out pf w1 H1.out).mono ?_
  clear C1 H1
  rintro e w2 ⟨pt, rfl, h2⟩
  have H2 := Lib.hid h2
  clear h2
  go_wp2_with (fail)
  refine (C2.out pf pt w2 H2.out).mono ?_
  clear C2 H2
  rintro e w3 ⟨p, rfl, h3⟩
  have H3 := Lib.hid h3
  clear h3
  go_wp2_with (fail)
  refine bodyPost_ret (results_four rfl _ _ rfl rfl rfl rfl) rfl ?_
  exact ⟨p, pf, pt, rfl, H3.out⟩
theorem plc_fields : (Tryz.prog.fieldsOf 41).toList.map (fun f => (f.name, f.type, f.offset)) = [("Seg", 3, 0), ("Page", 3, 1), ("Pages", 3, 2)] := by kernel_rfl
theorem part_plc (p : Plc) (w : World) : (part 3 (plcA p) 0).run Tryz.prog w = .ok (.int .i64 p.seg) w ∧ (part 3 (plcA p) 1).run Tryz.prog w = .ok (.int .i64 p.page) w ∧ (part 3 (plcA p) 2).run Tryz.prog w = .ok (.int .i64 p.pages) w := by
  have h1 : ∀ w, (isAgg 3).run Tryz.prog w = .ok false w := fun w => by kernel_rfl
  refine ⟨?_, ?_, ?_⟩ <;> (unfold part; simp only [Sem.run_bind, h1, Result.andThen_ok, Bool.false_eq_true, if_false]; rfl)
def eqP (a b : Plc) : Bool := decide (a.seg = b.seg) && decide (a.page = b.page) && decide (a.pages = b.pages)
theorem eqP_self (a : Plc) : eqP a a = true := by simp [eqP]
theorem run_eq_plc (a b : Plc) (w : World) : (Op.equalIn 10000 41 (.agg (plcA a)) (.agg (plcA b))).run Tryz.prog w = .ok (eqP a b) w := by
  have ht : Tryz.prog.underlying 41 = some (.struct (Tryz.prog.fieldsOf 41)) := by kernel_rfl
  have hp : Tryz.prog.stoodInHeld 41 = false := by kernel_rfl
  have h := run_equalIn_struct (P := Tryz.prog) w 9999 41 (plcA a) (plcA b) ht hp
  rw [h]
  have hf := plc_fields
  obtain ⟨a0, a1, a2⟩ := part_plc a w
  obtain ⟨b0, b1, b2⟩ := part_plc b w
  match hl : (Tryz.prog.fieldsOf 41).toList with
  | [] => rw [hl] at hf; simp at hf
  | [_] => rw [hl] at hf; simp at hf
  | [_, _] => rw [hl] at hf; simp at hf
  | _ :: _ :: _ :: _ :: _ => rw [hl] at hf; simp at hf
  | [f0, f1, f2] =>
    rw [hl] at hf
    simp only [List.map_cons, List.map_nil, List.cons.injEq, Prod.mk.injEq, and_true] at hf
    obtain ⟨⟨n0, t0, o0⟩, ⟨n1, t1, o1⟩, n2, t2, o2⟩ := hf
    have hi : ∀ (d : Nat) (x y : Int), (Op.equalIn (d + 1) 3 (.int .i64 x) (.int .i64 y)).run Tryz.prog w = .ok (decide (x = y)) w := fun d x y => run_equalIn_int (P := Tryz.prog) w d 3 .i64 .i64 x y Tryz.underlying3
    have i0 := hi 9998 a.seg b.seg
    have i1 := hi 9998 a.page b.page
    have i2 := hi 9998 a.pages b.pages
    simp only [Op.eqFields, n0, t0, o0, n1, t1, o1, n2, t2, o2, ne_eq, String.reduceEq, not_false_eq_true, if_true, Sem.run_bind, a0, b0, Result.andThen_ok]
    rw [i0]
    unfold eqP
    by_cases h0 : a.seg = b.seg
    · simp only [h0, decide_true, Result.andThen_ok, Bool.not_true, Bool.false_eq_true, if_false, Sem.run_bind, a1, b1, Bool.true_and]
      rw [i1]
      by_cases h1 : a.page = b.page
      · simp only [h1, decide_true, Result.andThen_ok, Bool.not_true, Bool.false_eq_true, if_false, Sem.run_bind, a2, b2, Bool.true_and]
        rw [i2]
        by_cases h2 : a.pages = b.pages
        · simp [h2]
        · simp [h2]
      · simp [h1]
    · simp [h0]
theorem eq_plc (a b : Plc) {v : Bool} (hv : eqP a b = v) (w : World) : (Op.equalIn 10000 41 (.agg (plcA a)) (.agg (plcA b))).run Tryz.prog w = .ok v w := by rw [run_eq_plc, hv]
theorem neq_plc (a b : Plc) {v : Bool} (hv : eqP a b = v) (w : World) : (binOp .neq 41 (.agg (plcA a)) (.agg (plcA b))).run Tryz.prog w = .ok (.bool (!v)) w := by
  have h' := run_eq_plc a b w
  rw [hv] at h'
  have hb := run_neq_struct (P := Tryz.prog) w 41 (plcA a) (plcA b)
  rw [h'] at hb
  exact hb
end Lg
end Go.Proofs.YtmdphcebmgcdbaaGreat
end
section
namespace Go.Proofs.YtmdphcebmgcdbaaGreat
open Go.RowKit Go.Own
namespace Lg
open Go.LogM Byt
theorem range_box {B : Nat} {w0 w : World} {Ps : List Asn} {b : Nat} {t : TypeId} {cs : List Value} (H : Own.St B w0 w Ps) (i : Nat) (hi : Ps[i]? = some (AVals b t cs)) : w.rangeAt b 0 cs := fun j v hv => by
  rw [Nat.zero_add]
  exact (H.cellV i hi j hv).1
theorem info_plc (cs : List Value) (h : cs.length = 3) : (Tryz.prog.info? 41).map (·.size) = some cs.length := by
  have h0 : (Tryz.prog.info? 41).map (fun i => i.size) = some 3 := by kernel_rfl
  rw [h]; exact h0
theorem built_nd (k : Int) : Tryz.prog.built 39 [(0, .int .u8 3), (2, .int .u64 k)] = some (.int .u8 3 :: .int .u32 0 :: .int .u64 k :: ((RecM.zsum.map byteV ++ [.int .u32 0]) ++ [.slice none 0 0])).toArray := by kernel_rfl
theorem built_ndi (i : Nat) : Tryz.prog.built 39 [(0, .int .u8 3), (2, .int .u64 (i : Int))] = some (Rec.ntC (nD i) (.slice none 0 0)).toArray := built_nd (i : Int)
def wants : List Value := (plcA (want 0)).toList ++ (plcA (want 1)).toList ++ (plcA (want 2)).toList ++ (plcA (want 3)).toList
theorem wants_at (i j : Nat) (hi : i < 4) (v : Value) (hv : (plcA (want i)).toList[j]? = some v) : wants[i * 3 + j]? = some v := by
  have hj : j < 3 := by have := (List.getElem?_eq_some_iff.1 hv).1; simpa using this
  rcases (show i = 0 ∨ i = 1 ∨ i = 2 ∨ i = 3 by omega) with rfl | rfl | rfl | rfl <;> rcases (show j = 0 ∨ j = 1 ∨ j = 2 by omega) with rfl | rfl | rfl <;> exact hv
set_option maxRecDepth 10000 in
set_option maxHeartbeats 4000000 in
theorem shown_any {W : World} {FK : Fla.Kept W} {TK : Tab.Kept W} (K : Kept W FK TK) {w : World} (hW : Below W.heap.size W w) :
    Calls Tryz.prog 4 #[] w (RetYes w) := by
  have CB := Lib.hid (built_any K 2 4 (by decide) (by decide) hW hW.size (Own.St.start w))
  obtain ⟨cw, hcw⟩ : ∃ c, c = wants := ⟨_, rfl⟩
  have CA : Hid (∀ (i p pf pt : Nat) (Ps : List Asn) (wx : World), i < 4 → LSt K w.heap.size w wx p pf pt 1 (xs i) Ps → Calls Tryz.prog 7 #[ptr p, .agg (Rec.ntC (nD i) (.slice none 0 0)).toArray] wx fun e w' => e = .returned (.tuple #[.agg (plcA (want i)), errL 0]) ∧ LSt K w.heap.size w w' p pf pt 1 (xs (i + 1)) Ps) := by
    intro i p pf pt Ps wx hi h
    have c := K.append (nD i) none 0 0 (h.wide hW hW.size) h (xs_ok i (by omega)) (by omega) (nD_good i (by omega)).fits ⟨⟨.inl rfl, rfl, ⟨Nat.le_refl _, Nat.zero_le _⟩, fun _ => rfl⟩, .inr (.inl rfl)⟩ (by decide)
    rw [ex_step i hi] at c
    exact c
  have CH : Hid (∀ (p pf pt bR : Nat) (wx : World), LSt K w.heap.size w wx p pf pt 1 (xs 4) [AVals bR 41 cw] → Calls Tryz.prog 14 #[ptr p] wx fun e w' => e = .returned (.tuple #[.int .u64 2, .int .i64 2]) ∧ LSt K w.heap.size w w' p pf pt 1 (xs 4) [AVals bR 41 cw]) := by
    intro p pf pt bR wx h
    have c := K.head (h.wide hW hW.size) h (xs_ok 4 (Nat.le_refl _)) (by decide)
    have e : headN (xs 4) = (2, 2) := ex4
    rw [e] at c
    exact c
  have HCW := Lib.hid hcw
  have WA : Hid (∀ i j v, i < 4 → (plcA (want i)).toList[j]? = some v → cw[i * 3 + j]? = some v) := fun i j v hi hv => by rw [hcw]; exact wants_at i j hi v hv
  clear hW hcw
  go_enter Tryz.func4, Tryz.ntmps4
  go_wp2_with (fail)
  refine CB.out.mono ?_
  clear CB
  rintro e w1 ⟨p, pf, pt, rfl, h1⟩
  have H1 := Lib.hid h1
  clear h1
  have hsw : Own.St w.heap.size w (w1.alloc (.cells cw.toArray 41)) (AVals w1.heap.size 41 cw :: K.A p pf pt 1 (xs 0).fs.pp (xs 0).tb (xs 0).a :: FK.A pf (xs 0).fs :: TK.A pt (xs 0).tb :: []) := H1.out.boxV 41 cw
  have H2 : Hid (LSt K w.heap.size w (w1.alloc (.cells #[.int .i64 0, .int .i64 1, .int .i64 1, .int .i64 0, .int .i64 2, .int .i64 1, .int .i64 0, .int .i64 3, .int .i64 1, .int .i64 1, .int .i64 1, .int .i64 1] 41)) p pf pt 1 (xs 0) [AVals w1.heap.size 41 cw]) := by
    have e : cw.toArray = #[.int .i64 0, .int .i64 1, .int .i64 1, .int .i64 0, .int .i64 2, .int .i64 1, .int .i64 0, .int .i64 3, .int .i64 1, .int .i64 1, .int .i64 1, .int .i64 1] := by rw [HCW.out]; rfl
    rw [e] at hsw
    exact third hsw
  obtain ⟨bR, hbR⟩ : ∃ b, b = w1.heap.size := ⟨_, rfl⟩
  have HBR := Lib.hid hbR
  rw [← hbR] at H2
  clear hsw H1 hbR HCW
  go_wp2_with (fail)
  rw [← HBR.out]
  go_loopw [25] (fun v25 wr => ∃ i : Nat, i ≤ 4 ∧ v25 = .int .i64 (i : Int) ∧ LSt K w.heap.size w wr p pf pt 1 (xs i) [AVals bR 41 cw]) (fun v _ => 4 - (intOf v).toNat)
  case atStart => exact ⟨0, Nat.zero_le _, rfl, H2.out⟩
  case round =>
    obtain ⟨i, hi4, rfl, hH⟩ := hrel
    have H := Lib.hid hH
    clear hH H2
    by_cases hi : (i : Int) < 4
    · have hin : i < 4 := by omega
      obtain ⟨pl, hpl⟩ : ∃ q, q = want i := ⟨_, rfl⟩
      have RG : Hid (wr.rangeAt bR (i * 3) (plcA pl).toList) := by
        intro j v hv
        rw [hpl] at hv
        exact (H.out.cellV 3 rfl _ (WA.out i j v hin hv)).1
      have hbx : Own.St w.heap.size w (wr.alloc (.cells (plcA pl) 41)) (AVals wr.heap.size 41 (plcA pl).toList :: K.A p pf pt 1 (xs i).fs.pp (xs i).tb (xs i).a :: FK.A pf (xs i).fs :: TK.A pt (xs i).tb :: [AVals bR 41 cw]) := H.out.boxV 41 (plcA pl).toList
      have ca := CA.out i p pf pt _ _ hin (third hbx)
      rw [← hpl] at ca
      obtain ⟨cn, hcn⟩ : ∃ c, c = (Rec.ntC (nD i) (.slice none 0 0)).toArray := ⟨_, rfl⟩
      rw [← hcn] at ca
      have BE : Hid (Tryz.prog.built 39 [(0, .int .u8 3), (2, .int .u64 (i : Int))] = some cn) := by rw [hcn]; exact built_ndi i
      have CA1 := Lib.hid ca
      obtain ⟨b6, hb6⟩ : ∃ b, b = wr.heap.size := ⟨_, rfl⟩
      have HB6 := Lib.hid hb6
      have heq : ∀ wx, (Op.equalIn 10000 41 (.agg (plcA pl)) (.agg (plcA pl))).run Tryz.prog wx = .ok true wx := fun wx => eq_plc pl pl (eqP_self pl) wx
      have IP := Lib.hid (info_plc (plcA pl).toList rfl)
      clear hpl hbx ca hcn hb6
      go_wp2_with (first
        | (refine wpList_load_mid rfl 41 (.tmp 28) rfl bR (i * 3) rfl (plcA pl).toList _ RG.out Tryz.underlying41 rfl IP.out ?_)
        | (refine Own.wpList_built rfl 39 #[(0, .const (.int .u8 3)), (2, .tmp 33)] rfl cn ?_ ?_; · (simp only [List.map_toArray, List.map_cons, List.map_nil, List.toList_toArray]; exact BE.out)))
      refine CA1.out.mono ?_
      clear CA1 RG BE IP
      rintro e w3 ⟨rfl, h3⟩
      rw [← HB6.out] at h3 ⊢
      have g3 := h3.alloc (.cells (plcA pl) 41)
      have q0 := (g3.cellV 3 rfl 0 rfl).1
      have q1 := (g3.cellV 3 rfl 1 rfl).1
      have q2 := (g3.cellV 3 rfl 2 rfl).1
      have H4 := Lib.hid g3
      clear h3 g3 H
      go_wp2_with (fail)
      go_roundw
      case rel =>
        refine ⟨i + 1, by omega, by go_num, ?_⟩
        exact (H4.out.front 3 rfl).drop 1
      case measure => simp [intOf]; omega
    · have hi4' : i = 4 := by omega
      subst hi4'
      have CH1 := Lib.hid (CH.out p pf pt bR wr H.out)
      clear CA CH WA H
      go_wp2_with (fail)
      refine CH1.out.mono ?_
      clear CH1
      rintro e w5 ⟨rfl, h5⟩
      have H5 := Lib.hid h5
      clear h5
      go_wp2
      go_ret
      exact ⟨rfl, H5.out.below⟩
end Lg
end Go.Proofs.YtmdphcebmgcdbaaGreat
end
section
namespace Go.Proofs.YtmdphcebmgcdbaaGreat
open Go.RowKit Go.Own
namespace Lg
open Go.LogM Byt
structure ActD where
  kind : UInt8
  n : RecM.Nte
  p : Plc
  at_ : Int
  c : UInt8
  fates : List Int
def actB (a : ActD) (fv : Value) : List Value := [.int .i64 a.p.seg, .int .i64 a.p.page, .int .i64 a.p.pages, .int .i64 a.at_, .int .u8 (a.c.toNat : Int), fv]
def actC (a : ActD) (dv fv : Value) : List Value := .int .u8 (a.kind.toNat : Int) :: (Rec.ntC a.n dv ++ actB a fv)
theorem actC_len (a : ActD) (dv fv : Value) (h : a.n.sum.length = 32) : (actC a dv fv).length = 44 := by unfold actC actB; simp [Rec.ntC_len _ _ h]
theorem actC_note (a : ActD) (dv fv : Value) (j : Nat) (v : Value) (h : (Rec.ntC a.n dv)[j]? = some v) : (actC a dv fv)[1 + j]? = some v := by
  unfold actC
  rw [Nat.add_comm, List.getElem?_cons_succ, List.getElem?_append_left (List.getElem?_eq_some_iff.1 h).1]
  exact h
end Lg
end Go.Proofs.YtmdphcebmgcdbaaGreat
end
section
namespace Go.Proofs.YtmdphcebmgcdbaaGreat
open Go.RowKit Go.Own
namespace Lg
open Go.LogM Byt
structure ActIn (B : Nat) (w : World) (a : ActD) (ad : Option Addr) (cd : Nat) : Prop where
  view : View w (fun k => k < B) ad a.n.data
  room : a.n.data.length ≤ cd ∧ cd ≤ maxLen
  nil : ad = none → cd = 0
  fits : RecM.Fits a.n
  p : i64L a.p.seg ∧ i64L a.p.page ∧ i64L a.p.pages
def inAct : InT ActD := fun a B w cs => ∃ ad cd af nf cf, cs = actC a (.slice ad a.n.data.length cd) (.slice af nf cf) ∧ ActIn B w a ad cd
theorem ActIn.below {B : Nat} {w w' : World} {a : ActD} {ad : Option Addr} {cd : Nat} (h : ActIn B w a ad cd) (g : ∀ k, k < B → w'.heap[k]? = w.heap[k]?) : ActIn B w' a ad cd :=
  ⟨h.view.same g, h.room, h.nil, h.fits, h.p⟩
theorem acts_in {l : List ActD} {B : Nat} {w : World} {ao : Option Addr} {n cap : Nat} (h : inSlice 44 inAct l B w [.slice ao n cap]) :
    n = l.length ∧ n ≤ cap ∧ cap ≤ maxLen ∧ (ao = none → cap = 0) ∧ (l ≠ [] → ∃ b o, ao = some ⟨b, o, none⟩ ∧ b < B ∧ ∀ w' : World, (∀ k, k < B → w'.heap[k]? = w.heap[k]?) → ∀ k (hk : k < l.length), ∃ ad cd af nf cf, w'.rangeAt b (o + k * 44) (actC l[k] (.slice ad l[k].n.data.length cd) (.slice af nf cf)) ∧ ActIn B w' l[k] ad cd) := by
  obtain ⟨ao', cap', h1, h2, h3, h4, h5⟩ := h
  simp only [List.cons.injEq, Value.slice.injEq, and_true] at h1
  obtain ⟨rfl, rfl, rfl⟩ := h1
  refine ⟨rfl, h2, h3, h4, fun hne => ?_⟩
  rcases h5 with rfl | ⟨b, o, e, hb, hs, hcc⟩
  · exact absurd rfl hne
  · refine ⟨b, o, e, hb, fun w' hw' k hk => ?_⟩
    obtain ⟨cs', g1, g2, ad, cd, af, nf, cf, rfl, g3⟩ := hcc k hk
    refine ⟨ad, cd, af, nf, cf, fun j v hv => ?_, g3.below hw'⟩
    have hj : j < 44 := by
      have := (List.getElem?_eq_some_iff.1 hv).1
      rwa [actC_len _ _ _ g3.fits.sum] at this
    have := (World.cell?_of_block (w := w) (hw' b hb)).trans (g2 j hj)
    rw [Nat.add_assoc, this, hv]
def fewF : Nat → List ActD → Nat
  | _, [] => 0
  | i, a :: l => if 60 ≤ i ∨ 1000 < a.n.data.length then 0 else fewF (i + 1) l + 1
def fewN (l : List ActD) : Nat := fewF 0 l
theorem fewF_le : ∀ (l : List ActD) (i : Nat), fewF i l ≤ l.length
  | [], _ => Nat.le_refl _
  | p :: l, i => by
    unfold fewF
    split
    · exact Nat.zero_le _
    · have := fewF_le l (i + 1); simp; omega
theorem fewF_most : ∀ (l : List ActD) (i : Nat), i ≤ 60 → fewF i l ≤ 60 - i
  | [], i, h => by unfold fewF; omega
  | p :: l, i, h => by
    unfold fewF
    split
    · omega
    · rename_i hc
      have hi : i < 60 := by omega
      have := fewF_most l (i + 1) (by omega)
      omega
theorem fewF_short : ∀ (l : List ActD) (i k : Nat) (hk : k < l.length), k < fewF i l → l[k].n.data.length ≤ 1000
  | [], _, _, hk, _ => absurd hk (Nat.not_lt_zero _)
  | p :: l, i, k, hk, h => by
    unfold fewF at h
    split at h
    · exact absurd h (Nat.not_lt_zero _)
    · rename_i hc
      cases k with
      | zero => show p.n.data.length ≤ 1000; omega
      | succ k => exact fewF_short l (i + 1) k (by simpa using hk) (by omega)
set_option maxRecDepth 10000 in
set_option maxHeartbeats 4000000 in
theorem few_any {l : List ActD} {B : Nat} {W : World} {ao : Option Addr} {n cap : Nat} (hin : inSlice 44 inAct l B W [.slice ao n cap]) (w : World) (hw : ∀ k, k < B → w.heap[k]? = W.heap[k]?) :
    Calls Tryz.prog 6 #[.slice ao n cap] w fun e w' => e = .returned (.slice ao (fewN l) cap) ∧ w' = w := by
  obtain ⟨hn, hcap, hmax, hno, hat⟩ := acts_in hin
  obtain ⟨R, hR⟩ : ∃ R, R = fewN l := ⟨_, rfl⟩
  rw [← hR]
  have HR := Lib.hid (show R = 0 + fewF 0 (l.drop 0) from by rw [Nat.zero_add]; exact hR)
  have HN := Lib.hid hn
  unfold maxLen at hmax
  have CELL : Hid (∀ i, i < n → ∃ b o ad cd d, ao = some ⟨b, o, none⟩ ∧ w.cell? ⟨b, o + i * 44 + 1 + 36, none⟩ = some (.slice ad d cd) ∧ fewF i (l.drop i) = if 60 ≤ i ∨ 1000 < d then 0 else fewF (i + 1) (l.drop (i + 1)) + 1) := by
    intro i hi
    have hil : i < l.length := by rw [← hn]; exact hi
    obtain ⟨b, o, rfl, _, hall⟩ := hat (by intro h; rw [h] at hil; simp at hil)
    obtain ⟨ad, cd, af, nf, cf, hr, hA⟩ := hall w hw i hil
    refine ⟨b, o, ad, cd, l[i].n.data.length, rfl, ?_, ?_⟩
    · exact hr (1 + 36) _ (actC_note _ _ _ _ _ (Rec.ntC_data _ _ hA.fits.sum))
    · rw [List.drop_eq_getElem_cons hil]; rfl
  have HNO := Lib.hid hno
  clear hat hin hR hn hw hno
  go_enter Tryz.func6, Tryz.ntmps6
  go_wp2
  go_loopw [6] (fun v wr => ∃ i : Nat, i ≤ n ∧ i ≤ 60 ∧ v = .int .i64 (i : Int) ∧ R = i + fewF i (l.drop i) ∧ wr = w) (fun v _ => n - (intOf v).toNat)
  case atStart => exact ⟨0, Nat.zero_le _, Nat.zero_le _, rfl, HR.out, rfl⟩
  case round =>
    obtain ⟨i, hin, hi60, rfl, hri, rfl⟩ := hrel
    have HRI := Lib.hid hri
    clear hri HR
    by_cases hlt : (i : Int) < (n : Int)
    · have hin2 : i < n := by omega
      obtain ⟨b, o, ad, cd, d, rfl, hc, hf⟩ := CELL.out i hin2
      have HST : Hid (R = i + (if 60 ≤ i ∨ 1000 < d then 0 else fewF (i + 1) (l.drop (i + 1)) + 1)) := by show _ = _; rw [HRI.out, hf]
      have hic : i ≤ cap := by omega
      clear hf HRI HNO
      by_cases h60 : 60 ≤ (i : Int)
      · have HRR : Hid (R = i) := by show R = i; rw [HST.out, if_pos (.inl (by omega))]; rfl
        go_wp2
        go_ret
        exact ⟨by rw [HRR.out]; rfl, rfl⟩
      by_cases h1000 : 1000 < (d : Int)
      · have HRR : Hid (R = i) := by show R = i; rw [HST.out, if_pos (.inr (by omega))]; rfl
        go_wp2
        go_ret
        exact ⟨by rw [HRR.out]; rfl, rfl⟩
      have HRR : Hid (R = (i + 1) + fewF (i + 1) (l.drop (i + 1))) := by show R = _; rw [HST.out, if_neg (by omega)]; omega
      clear HST
      go_wp2
      go_roundw
      case rel => exact ⟨i + 1, by omega, by omega, by go_num, HRR.out, by first | rfl | trivial⟩
      case measure => simp [intOf]; omega
    · have HRR : Hid (R = n) := by
        show R = n
        rw [HRI.out, List.drop_of_length_le (by rw [← HN.out]; omega)]
        show i + 0 = n
        omega
      go_wp2
      go_ret
      exact ⟨by rw [HRR.out]; rfl, rfl⟩
end Lg
end Go.Proofs.YtmdphcebmgcdbaaGreat
end
section
namespace Go.Proofs.YtmdphcebmgcdbaaGreat
open Go.RowKit Go.Own Go.Maps
namespace Lg
open Go.LogM Byt
def zAct : List Value := actC ⟨0, RecM.zeroN, zP, 0, 0, []⟩ Rec.nilV Rec.nilV
theorem zero_act : (Tryz.prog.info? 44).bind (·.zero) = some (.agg zAct.toArray) := by kernel_rfl
theorem zAct_len : zAct.length = 44 := actC_len _ _ _ rfl
theorem info_act : (Tryz.prog.info? 44).map (·.size) = some zAct.length := by
  have h0 : (Tryz.prog.info? 44).map (fun i => i.size) = some 44 := by kernel_rfl
  rw [zAct_len]; exact h0
theorem actC_one (a : ActD) {dv fv : Value} (h1 : dv.oneCell' = true) (h2 : fv.oneCell' = true) : ∀ u ∈ actC a dv fv, u.oneCell' = true := by
  intro u hu
  unfold actC actB at hu
  rcases List.mem_cons.1 hu with rfl | hu
  · rfl
  · rcases List.mem_append.1 hu with hu | hu
    · exact Rec.ntC_one h1 u hu
    · simp only [List.mem_cons, List.not_mem_nil, or_false] at hu
      rcases hu with rfl | rfl | rfl | rfl | rfl | rfl
      · rfl
      · rfl
      · rfl
      · rfl
      · rfl
      · exact h2
theorem act_round {B : Nat} {w0 wr : World} {Ps : List Asn} {a : ActD} {ad af : Option Addr} {cd nf cf b o : Nat} (H : Own.St B w0 wr Ps) (hs : a.n.sum.length = 32) (hr : wr.rangeAt b o (actC a (.slice ad a.n.data.length cd) (.slice af nf cf))) :
    RoundE Tryz.prog 44 zAct B w0 wr Ps b o (actC a (.slice ad a.n.data.length cd) (.slice af nf cf)) :=
  round_E H hr (by rw [actC_len _ _ _ hs, zAct_len]) info_act (actC_one a rfl rfl)
end Lg
end Go.Proofs.YtmdphcebmgcdbaaGreat
end
section
namespace Go.Proofs.YtmdphcebmgcdbaaGreat
open Go.RowKit Go.Own Go.Maps
namespace Lg
open Go.LogM Byt
theorem new_inv (m : Nat) (hm : 2 ≤ m ∧ m ≤ 64) : Inv 1 70 (sNew 70 m) 0 false true (fun _ => []) [] (fun _ => []) [] false ∧ FlaM.Ok (sNew 70 m).fs 1 ∧ Live (sNew 70 m).fs ∧ (sNew 70 m).fs.pp = m := by
  refine ⟨?_, (FlaM.ok_fresh 71 m (by decide) (by omega)).more (by omega), ⟨rfl, rfl⟩, rfl⟩
  have := inv_fresh 1 70 m hm.1
  rw [show 1 + 70 = 70 + 1 by omega] at this
  exact this
end Lg
end Go.Proofs.YtmdphcebmgcdbaaGreat
end
section
namespace Go.Proofs.YtmdphcebmgcdbaaGreat
open Go.RowKit Go.Own
namespace Fla
open Go.FlaM Byt
theorem nowR_cons (a : FlaM.Act) (r : List FlaM.Act) (i k : Nat) : nowR (a :: r) i k = if a.seg = i ∧ a.page = (k : Int) then some a.b else if a.seg = i ∧ a.page < 0 then some FlaM.blank else nowR r i k := rfl
theorem nowR_app (i k : Nat) (B : List FlaM.Act) : ∀ (A : List FlaM.Act), nowR (A ++ B) i k = (match nowR A i k with | some b => some b | none => nowR B i k)
  | [] => rfl
  | a :: A => by
    rw [List.cons_append, nowR_cons, nowR_cons]
    by_cases h1 : a.seg = i ∧ a.page = (k : Int)
    · rw [if_pos h1, if_pos h1]
    · rw [if_neg h1, if_neg h1]
      by_cases h2 : a.seg = i ∧ a.page < 0
      · rw [if_pos h2, if_pos h2]
      · rw [if_neg h2, if_neg h2, nowR_app i k B A]
def oneAt (a : FlaM.Act) (i k : Nat) (d : Bs) : Bs := if a.seg = i ∧ a.page = (k : Int) then a.b else if a.seg = i ∧ a.page < 0 then FlaM.blank else d
theorem nowR_one (a : FlaM.Act) (i k : Nat) (d : Bs) : (nowR [a] i k).getD d = oneAt a i k d := by
  unfold oneAt
  simp only [nowR]
  by_cases h1 : a.seg = i ∧ a.page = (k : Int)
  · rw [if_pos h1, if_pos h1]; rfl
  · rw [if_neg h1, if_neg h1]
    by_cases h2 : a.seg = i ∧ a.page < 0
    · rw [if_pos h2, if_pos h2]; rfl
    · rw [if_neg h2, if_neg h2]; rfl
theorem doOne_at {safe : List (List Bs)} {n pp : Nat} (h : Shape safe n pp) (hpp : pp ≤ 64) (a : FlaM.Act) (ha : a.seg < n ∧ ((0 ≤ a.page ∧ a.page < (pp : Int) ∧ a.b.length = 128) ∨ (a.page = -1 ∧ a.b = []))) (i k : Nat) (hi : i < n) (hk : k < pp) :
    pageAt (doOne pp safe a 128) i k = oneAt a i k (pageAt safe i k) := by
  unfold doOne oneAt
  rcases ha.2 with ⟨h1, h2, h3⟩ | ⟨h1, h3⟩
  · rw [if_pos h1]
    have hp : (pageAt safe a.seg a.page.toNat).length = 128 := h.pages _ _ ha.1 (by omega)
    have e : a.b.take (min (128 : Int).toNat 128) ++ (pageAt safe a.seg a.page.toNat).drop (min (128 : Int).toNat 128) = a.b := by
      rw [show min (128 : Int).toNat 128 = 128 from rfl, List.take_of_length_le (by omega), List.drop_of_length_le (by omega), List.append_nil]
    rw [e, setPage_at _ _ _ _ _ _ (by rw [h.len]; exact ha.1) (by rw [h.rows _ ha.1]; omega)]
    by_cases hc : a.seg = i ∧ a.page.toNat = k
    · rw [if_pos hc, if_pos ⟨hc.1, by have := hc.2; omega⟩]
    · rw [if_neg hc, if_neg (fun e => hc ⟨e.1, by have := e.2; omega⟩), if_neg (fun e => by have := e.2; omega)]
  · rw [if_neg (by omega), show min (128 : Int).toNat pp = pp from by show min 128 pp = pp; omega, clearTo_at _ _ _ _ _ (by rw [h.len]; exact ha.1) (by rw [h.rows _ ha.1]; exact Nat.le_refl _)]
    by_cases hc : a.seg = i
    · rw [if_pos ⟨hc, hk⟩, if_neg (fun e => by have := e.2; omega), if_pos ⟨hc, by omega⟩]
    · rw [if_neg (fun e => hc e.1), if_neg (fun e => hc e.1), if_neg (fun e => hc e.1)]
theorem doAll_at {n pp : Nat} (hpp : pp ≤ 64) (fates : List Int) (i k : Nat) (hi : i < n) (hk : k < pp) : ∀ (L : List FlaM.Act) (safe : List (List Bs)) (m : Nat), Shape safe n pp → (∀ a ∈ L, a.seg < n ∧ ((0 ≤ a.page ∧ a.page < (pp : Int) ∧ a.b.length = 128) ∨ (a.page = -1 ∧ a.b = []))) → (∀ j, j < L.length → fates.getD (m + j) 0 = 128) →
    pageAt (doAll pp fates safe m L) i k = (nowR L.reverse i k).getD (pageAt safe i k)
  | [], _, _, _, _, _ => rfl
  | a :: L, safe, m, h, ha, hf => by
    have h0 : fates.getD m 0 = 128 := hf 0 (Nat.zero_lt_succ _)
    show pageAt (doAll pp fates (doOne pp safe a (fates.getD m 0)) (m + 1) L) i k = _
    rw [h0, doAll_at hpp fates i k hi hk L _ (m + 1) (shape_one h a (ha a (List.mem_cons_self ..)) _) (fun x hx => ha x (List.mem_cons_of_mem _ hx)) (fun j hj => by have := hf (j + 1) (Nat.succ_lt_succ hj); rw [show m + 1 + j = m + (j + 1) from by omega]; exact this),
      doOne_at h hpp a (ha a (List.mem_cons_self ..)) i k hi hk, List.reverse_cons, nowR_app]
    cases hx : nowR L.reverse i k with
    | some b => rfl
    | none =>
      show oneAt a i k _ = (nowR [a] i k).getD _
      rw [nowR_one]
end Fla
end Go.Proofs.YtmdphcebmgcdbaaGreat
end
