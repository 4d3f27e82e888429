/- Merged: StbA StbB StbC StbG StbD LaxD StbE StbF -/
import Derived.Maps.RangeWalk
import Derived.DeepKeys4
import Derived.Lib.BytesEntry
import Derived.Sort.Grow
import Derived.Shelf.SlSortCmp.WholeK
import Derived.Shelf.SlSortCmp.NoneTotal
import Derived.Test.YtcfdjoohbicomaaQ1
import Derived.Test.YtcfdjoohbicomaaQ2
set_option linter.unusedVariables false
section
namespace Go.Proofs.Ytcfdjoohbicomaa
open Go.RowKit Go.Own Go.Maps
namespace Sto
open Go.StoM Byt
open Rec (keyC keyC_len)
theorem laidOut : laidOutB Try.prog = true := by kernel_rfl
theorem keyLaw : WideMaps.KeyLaw Try.prog 35 := deep_law_laid laidOut (m := 3) (by omega) (of_decide_eq_true (by kernel_rfl)) (by kernel_rfl) (by kernel_rfl)
theorem keyed : Keyed Try.prog 35 := Keyed.of_law keyLaw
theorem mapM_all {α β : Type} (f : α → Option β) (g : α → β) : ∀ l : List α, (∀ x ∈ l, f x = some (g x)) → l.mapM f = some (l.map g)
  | [], _ => rfl
  | x :: l, h => by
    rw [List.mapM_cons, h x (List.mem_cons_self ..), mapM_all f g l (fun y hy => h y (List.mem_cons_of_mem _ hy))]
    rfl
theorem wf_u8 (c : UInt8) : (Lit.int .u8 (c.toNat : Int)).wf = true := by
  have := c.toNat_lt
  simp [Lit.wf, IntKind.min, IntKind.max, IntKind.signed, IntKind.bits]
  omega
theorem wf_u32 {n : Nat} (h : n < 4294967296) : (Lit.int .u32 (n : Int)).wf = true := by
  simp [Lit.wf, IntKind.min, IntKind.max, IntKind.signed, IntKind.bits]
  omega
theorem lits_sum (d : Nat) (s : List UInt8) (h : s.length = 32) : ∃ ls, Try.prog.keyLits (d + 2) 32 (s.map byteV) = some ls := by
  have hc : Try.prog.cellsOf 32 = 32 := by kernel_rfl
  have hc1 : Try.prog.cellsOf 5 = 1 := by kernel_rfl
  refine ⟨((List.range 32).map fun i => [Lit.int .u8 ((s.getD i 0).toNat : Int)]).flatten, ?_⟩
  unfold Program.keyLits
  simp only [Try.underlying32]
  rw [if_pos (by simp [hc, h]), mapM_all (g := fun i => [Lit.int .u8 ((s.getD i 0).toNat : Int)])]
  · rfl
  · intro i hi
    have hi := List.mem_range.1 hi
    rw [hc1, Nat.mul_one]
    have e : ((s.map byteV).drop i).take 1 = [byteV (s.getD i 0)] := by
      have hil : i < (s.map byteV).length := by simp [h, hi]
      rw [List.drop_eq_getElem_cons hil]
      simp [List.getD, List.getElem?_eq_getElem (show i < s.length by omega)]
    rw [e]
    unfold Program.keyLits byteV
    simp only [Try.underlying5]
    rw [if_pos ⟨trivial, wf_u8 _⟩]
theorem key_some {k : Ky} (h : FitK k) : ∃ kl, keyOf Try.prog 35 (kV k) = some kl := by
  have hu : Try.prog.underlying 35 = some (.struct (Try.prog.fieldsOf 35)) := by kernel_rfl
  have hkt : Try.prog.keyType 35 = true := by kernel_rfl
  have hcells : Try.prog.cellsOf 35 = 33 := by kernel_rfl
  have hcs : Try.prog.cellsOf 32 = 32 := by kernel_rfl
  have hcn : Try.prog.cellsOf 33 = 1 := by kernel_rfl
  obtain ⟨m, hm⟩ : ∃ m, Try.prog.types.size + 1 = m + 4 := ⟨Try.prog.types.size - 3, by kernel_rfl⟩
  obtain ⟨ls, hls⟩ := lits_sum (m + 1) k.sum h.sum
  have hsz : (kC k).length = 33 := kC_len h
  obtain ⟨fs, hfs⟩ : ∃ fs, fs = Try.prog.fieldsOf 35 := ⟨_, rfl⟩
  have hf := Rec.key_fields
  have hall : (Try.prog.fieldsOf 35).all (·.name != "_") = true := by kernel_rfl
  rw [← hfs] at hu hf hall
  clear hfs
  obtain ⟨fl, hfl⟩ : ∃ fl, fl = fs.toList := ⟨_, rfl⟩
  rw [← hfl] at hf
  obtain ⟨f0, f1, hl, o0, t0, o1, t1⟩ : ∃ f0 f1 : Field, fl = [f0, f1] ∧ f0.offset = 0 ∧ f0.type = 32 ∧ f1.offset = 32 ∧ f1.type = 33 := by
    rcases fl with _ | ⟨f0, _ | ⟨f1, _ | ⟨f2, r⟩⟩⟩
    · simp at hf
    · simp at hf
    · simp only [List.map_cons, List.map_nil, List.cons.injEq, Prod.mk.injEq, and_true] at hf
      obtain ⟨⟨n0, t0, o0⟩, n1, t1, o1⟩ := hf
      exact ⟨f0, f1, rfl, o0, t0, o1, t1⟩
    · simp at hf
  have e0 : ((kV k).cells.toList.drop f0.offset).take (Try.prog.cellsOf f0.type) = k.sum.map byteV := by
    rw [o0, t0, hcs]
    show ((k.sum.map byteV ++ [_]).drop 0).take 32 = _
    rw [List.drop_zero, List.take_append_of_le_length (by simp [h.sum]), List.take_of_length_le (by simp [h.sum])]
  have e1 : ((kV k).cells.toList.drop f1.offset).take (Try.prog.cellsOf f1.type) = [.int .u32 (k.n : Int)] := by
    rw [o1, t1, hcn]
    show ((k.sum.map byteV ++ [_]).drop 32).take 1 = _
    rw [List.drop_append_of_le_length (by simp [h.sum]), List.drop_of_length_le (by simp [h.sum])]
    rfl
  have g1 : Try.prog.keyLits (m + 3) f1.type [.int .u32 (k.n : Int)] = some [.int .u32 (k.n : Int)] := by
    rw [t1]
    unfold Program.keyLits
    simp only [Try.underlying33]
    rw [if_pos ⟨trivial, wf_u32 h.n⟩]
  have g0 : Try.prog.keyLits (m + 3) f0.type (k.sum.map byteV) = some ls := by rw [t0]; exact hls
  have gk : Try.prog.keyLits (m + 4) 35 (kV k).cells.toList = some (ls ++ [.int .u32 (k.n : Int)]) := by
    unfold Program.keyLits
    simp only [hu]
    rw [if_pos ⟨by rw [hcells]; exact hsz, hall⟩, ← hfl, hl]
    simp [List.mapM_cons, e0, e1, g0, g1]
  refine ⟨.string (keyBytes (ls ++ [.int .u32 (k.n : Int)])), ?_⟩
  unfold keyOf
  simp only [hu]
  rw [if_pos (by simp [hkt, Value.formed, kV, hu, hcells, hsz]), hm, gk]
  rfl
open Classical in
noncomputable def kLit (k : Ky) : Lit := if h : ∃ kl, keyOf Try.prog 35 (kV k) = some kl then Classical.choose h else .bool true
theorem key_of {k : Ky} (h : FitK k) : keyOf Try.prog 35 (kV k) = some (kLit k) := by
  have h2 := key_some h
  unfold kLit
  rw [dif_pos h2]
  exact Classical.choose_spec h2
theorem isKey {k : Ky} (h : FitK k) : WideAt.IsKeyLit (kLit k) := by
  have h2 := key_of h
  generalize kLit k = kl at h2 ⊢
  exact keyed.key h2
theorem kLit_inj {a b : Ky} (ha : FitK a) (hb : FitK b) (h : kLit a = kLit b) : a = b := by
  have h1 := key_of ha
  rw [h] at h1
  have := keyed.inj h1 (key_of hb)
  unfold kV at this
  simp only [Value.agg.injEq] at this
  exact kC_inj ha hb (by simpa using this)
theorem mapT : Try.prog.underlying 69 = some (.map 35 51) := Try.underlying69
/-- a store's chunks, as they may be -/
structure Ok (l : List Ch) : Prop where
  sorted : Sorted l
  fit : ∀ c ∈ l, Fit c
/-- the map reads as the list -/
structure Reads (D : DataW Value) (l : List Ch) : Prop where
  has : ∀ kl, Maps.has D kl = true ↔ ∃ c ∈ l, kLit c.key = kl
  at_ : ∀ c ∈ l, ∀ zd, D.atKey (kLit c.key) zd = .held (chV c)
  size : Maps.size D = l.length
def ACh (b : Nat) (l : List Ch) : Asn where
  holds S w := (∃ D : DataW Value, w.ownsMap Try.prog 35 rawV b l.length D ∧ Reads D l) ∧ ∀ k, S k ↔ k = b
  keep h gs hd := by
    obtain ⟨⟨D, ⟨es, clock, hb, r⟩, h1⟩, h5⟩ := h
    exact ⟨⟨D, ⟨es, clock, (gs.block _ (lt_of_block hb) (hd _ ((h5 _).2 rfl))).trans hb, r⟩, h1⟩, h5⟩
  lt h k hk := by
    obtain ⟨⟨D, hm, h1⟩, h5⟩ := h
    rw [(h5 k).1 hk]
    exact hm.lt
theorem tight {w : World} {b n : Nat} {D : DataW Value} (h : w.ownsMap Try.prog 35 rawV b n D) {l : List Ch} (hr : Reads D l) : w.ownsMap Try.prog 35 rawV b l.length D := by
  obtain ⟨es, clock, hb, F, _, rfl⟩ := h
  refine ⟨es, clock, hb, F, ?_, rfl⟩
  rw [← hr.size]
  simp [Maps.size, length_sorted]
/-- the chunk with a key, or the zero one -/
noncomputable def getS (l : List Ch) (k : Ky) : Ch := if isAt l k = true then atS l k else zeroCh
theorem getS_fit {l : List Ch} (ok : Ok l) (k : Ky) : Fit (getS l k) := by
  unfold getS
  split
  · rename_i h; exact ok.fit _ (at_mem h).1
  · exact zero_fit
section
variable {B : Nat} {w0 w : World} {Ps : List Asn} {b : Nat} {l : List Ch}
theorem reads_nil : Reads (.map []) [] := ⟨fun kl => by simp [Maps.has], fun c hc => (by cases hc), rfl⟩
theorem mapMakeC (H : Own.St B w0 w Ps) : ∃ w' b, (Instr.makeMap 69 none).run Try.prog w = .ok (.map (some b)) w' ∧ Own.St B w0 w' (ACh b [] :: Ps) :=
  ⟨_, w.heap.size, run_makeMap 69 w, H.new (S' := fun k => k = w.heap.size) (ACh _ []) ⟨⟨.map [], World.ownsMap_made w _ _ _, reads_nil⟩, fun k => Iff.rfl⟩ (((Step.refl (fun _ => False) w).alloc (.map #[] 0)).to (fun k hk => .inr (Nat.le_of_eq hk.symm)))⟩
theorem has_is {D : DataW Value} (hr : Reads D l) (ok : Ok l) {k : Ky} (hk : FitK k) : Maps.has D (kLit k) = isAt l k := by
  cases h : isAt l k
  · cases hh : Maps.has D (kLit k)
    · rfl
    · obtain ⟨c, hc, e⟩ := (hr.has _).1 hh
      have := kLit_inj (ok.fit c hc).key hk e
      rw [(at_iff ok.sorted).2 ⟨c, hc, this⟩] at h
      cases h
  · obtain ⟨c, hc, e⟩ := (at_iff ok.sorted).1 h
    exact (hr.has _).2 ⟨c, hc, by rw [e]⟩
theorem mapLookC (H : Own.St B w0 w Ps) (i : Nat) (hi : Ps[i]? = some (ACh b l)) (ok : Ok l) {k : Ky} (hk : FitK k) :
    (Instr.lookup 69 (.map (some b)) (kV k) true).run Try.prog w = .ok (.tuple #[chV (getS l k), .bool (isAt l k)]) w := by
  obtain ⟨S, ⟨⟨D, hm, hr⟩, _⟩, _⟩ := H.at i hi
  obtain ⟨v, ps, hrun, hv⟩ := hm.look_ok keyed mapT (zeroValue_ch w) (zd := .held (chV zeroCh)) (zp := []) rfl (key_of hk)
  rw [has_is hr ok hk] at hrun
  rw [hrun]
  have e : v = chV (getS l k) := by
    unfold getS
    cases h : isAt l k
    · rw [atKey_of_not_has (by rw [has_is hr ok hk]; exact h)] at hv
      simp only [rawV, Option.some.injEq, Prod.mk.injEq, DataW.held.injEq] at hv
      rw [if_neg (by simp)]
      exact hv.1
    · have h2 := at_mem h
      have h3 := hr.at_ _ h2.1 (.held (chV zeroCh))
      rw [h2.2] at h3
      rw [h3] at hv
      simp only [rawV, Option.some.injEq, Prod.mk.injEq, DataW.held.injEq] at hv
      rw [if_pos rfl]
      exact hv.1
  rw [e]
theorem mapPutC (H : Own.St B w0 w Ps) (i : Nat) (hi : Ps[i]? = some (ACh b l)) (ok : Ok l) (hn : l.length ≤ 1000000) {c : Ch} (hc : Fit c) :
    ∃ w', (Instr.mapUpdate 69 (.map (some b)) (kV c.key) (chV c)).run Try.prog w = .ok () w' ∧ Own.St B w0 w' (Ps.set i (ACh b (putS l c))) := by
  obtain ⟨S, ⟨⟨D, hm, hr⟩, h5⟩, _, put⟩ := H.at i hi
  obtain ⟨w2, hrun2, hm2, g2⟩ := hm.update keyed mapT (by unfold maxLen; omega) (key_of hc.key) (val := chV c) (d := .held (chV c)) (ps := []) rfl
  have ht := hm.tidy keyed
  have hD := ht.isMap
  have hkey : WideAt.IsKeyLit (kLit c.key) := isKey hc.key
  have hr2 : Reads (D.put (kLit c.key) (.held (chV c))) (putS l c) := by
    refine ⟨fun kl => ?_, fun d hd zd => ?_, ?_⟩
    · by_cases hl : kl = kLit c.key
      · rw [hl, has_put_same hD hkey]
        exact ⟨fun _ => ⟨c, (mem_putS ok.sorted).2 (.inr rfl), rfl⟩, fun _ => rfl⟩
      · rw [has_put_other hl, hr.has]
        constructor
        · rintro ⟨d, hd, e⟩
          exact ⟨d, (mem_putS ok.sorted).2 (.inl ⟨hd, fun e2 => hl (by rw [← e, e2])⟩), e⟩
        · rintro ⟨d, hd, e⟩
          rcases (mem_putS ok.sorted).1 hd with h | h
          · exact ⟨d, h.1, e⟩
          · rw [h] at e
            exact absurd e.symm hl
    · rcases (mem_putS ok.sorted).1 hd with h | h
      · have hne : kLit d.key ≠ kLit c.key := fun e => h.2 (kLit_inj (ok.fit d h.1).key hc.key e)
        rw [atKey_put_other hne]
        exact hr.at_ d h.1 zd
      · rw [h]
        exact atKey_put_same hD hkey _ _
    · rw [size_put ht, has_is hr ok hc.key, putS_len, hr.size]
  refine ⟨w2, hrun2, put (fun k => k = b) w2 (ACh b (putS l c)) ⟨⟨_, tight hm2 hr2, hr2⟩, fun k => Iff.rfl⟩ ?_⟩
  exact ⟨g2.os, g2.tape, g2.output, g2.size, fun k hk hn => g2.block k hk (fun e => hn ((h5 k).2 (by cases e; rfl))), fun k hk => .inl ((h5 k).2 hk)⟩
theorem mapDelC (H : Own.St B w0 w Ps) (i : Nat) (hi : Ps[i]? = some (ACh b l)) (ok : Ok l) {k : Ky} (hk : FitK k) (hat : isAt l k = true) (ty : TypeId) :
    ∃ w', (Builtin.delete_ #[69, 35] ty #[.map (some b), kV k]).run Try.prog w = .ok (.tuple #[]) w' ∧ Own.St B w0 w' (Ps.set i (ACh b (l.eraseIdx (posK k l)))) := by
  obtain ⟨S, ⟨⟨D, hm, hr⟩, h5⟩, _, put⟩ := H.at i hi
  obtain ⟨w2, hrun2, hm2, turn⟩ := hm.drop keyed mapT (key_of hk) ty
  have g2 := turn.grown
  have ht := hm.tidy keyed
  have hlt := (at_some hat).1
  have hr2 : Reads (D.del (kLit k)) (l.eraseIdx (posK k l)) := by
    refine ⟨fun kl => ?_, fun d hd zd => ?_, ?_⟩
    · by_cases hl : kl = kLit k
      · rw [hl, has_del_same]
        refine ⟨fun h => (by cases h), ?_⟩
        rintro ⟨d, hd, e⟩
        have h := (mem_erase ok.sorted hat).1 hd
        exact absurd (kLit_inj (ok.fit d h.1).key hk e) h.2
      · rw [has_del_other hl, hr.has]
        constructor
        · rintro ⟨d, hd, e⟩
          exact ⟨d, (mem_erase ok.sorted hat).2 ⟨hd, fun e2 => hl (by rw [← e, e2])⟩, e⟩
        · rintro ⟨d, hd, e⟩
          exact ⟨d, ((mem_erase ok.sorted hat).1 hd).1, e⟩
    · have h := (mem_erase ok.sorted hat).1 hd
      have hne : kLit d.key ≠ kLit k := fun e => h.2 (kLit_inj (ok.fit d h.1).key hk e)
      rw [atKey_del_other hne]
      exact hr.at_ d h.1 zd
    · have h := size_del (k := kLit k) ht
      rw [has_is hr ok hk, hat, hr.size] at h
      rw [List.length_eraseIdx, if_pos hlt]
      simp at h
      omega
  refine ⟨w2, hrun2, put (fun k => k = b) w2 (ACh b (l.eraseIdx (posK k l))) ⟨⟨_, tight hm2 hr2, hr2⟩, fun k => Iff.rfl⟩ ?_⟩
  exact ⟨g2.os, g2.tape, g2.output, g2.size, fun k hk hn => g2.block k hk (fun e => hn ((h5 k).2 (by cases e; rfl))), fun k hk => .inl ((h5 k).2 hk)⟩
theorem mapNilC {k : Ky} (hk : FitK k) (w : World) : (Instr.lookup 69 (.map none) (kV k) true).run Try.prog w = .ok (.tuple #[chV zeroCh, .bool false]) w := by
  have := Maps.look_nil (w := w) true keyed mapT (zeroValue_ch w) (key_of hk)
  simpa using this
end
/-! ### the store -/
/-- the parts: the struct's cell, and the map, if there is one -/
def aParts (p : Nat) (l : List Ch) : Option Nat → List Asn
  | none => [AVals p 71 [.map none]]
  | some b => [AVals p 71 [.map (some b)], ACh b l]
def AS (p : Nat) (l : List Ch) : Asn := AEx (α := { m : Option Nat // m = none → l = [] }) fun m => AJoin (aParts p l m.1)
section
variable {B : Nat} {w0 w : World} {Ps : List Asn} {p : Nat} {l : List Ch}
theorem as_open (h : Own.St B w0 w (AS p l :: Ps)) : ∃ m : Option Nat, (m = none → l = []) ∧ Own.St B w0 w (aParts p l m ++ Ps) := by
  obtain ⟨⟨m, hm⟩, h⟩ := h.openE
  exact ⟨m, hm, h.openJ⟩
theorem as_close {m : Option Nat} (hm : m = none → l = []) (h : Own.St B w0 w (aParts p l m ++ Ps)) : Own.St B w0 w (AS p l :: Ps) :=
  Own.St.closeE (α := { m : Option Nat // m = none → l = [] }) (P := fun m => AJoin (aParts p l m.1)) ⟨m, hm⟩ h.closeJ
/-- what is in the cell, and what a look-up finds -/
theorem as_look (h : Own.St B w0 w (AS p l :: Ps)) (ok : Ok l) {k : Ky} (hk : FitK k) : ∃ m : Option Nat, w.cell? ⟨p, 0, none⟩ = some (.map m) ∧ (Instr.lookup 69 (.map m) (kV k) true).run Try.prog w = .ok (.tuple #[chV (getS l k), .bool (isAt l k)]) w := by
  obtain ⟨m, hm, h⟩ := as_open h
  cases m with
  | none =>
    have e := hm rfl
    subst e
    refine ⟨none, (h.cellV 0 rfl 0 rfl).1, ?_⟩
    have := mapNilC hk w
    simpa [getS, isAt] using this
  | some b => exact ⟨some b, (h.cellV 0 rfl 0 rfl).1, mapLookC h 1 rfl ok hk⟩
end
end Sto
end Go.Proofs.Ytcfdjoohbicomaa

end
section
namespace Go.Proofs.Ytcfdjoohbicomaa
open Go.RowKit Go.Own
namespace Sto
open Go.StoM Byt
abbrev zC : List Value := chC zeroCh
theorem new_run {o : Oper} (ho : o.op = .alloc 51) (ρ : Operand → Value) {z : List Value} (hz : (Try.prog.info? 51).bind (·.zero) = some (.agg z.toArray)) (w : World) : (execOp ρ o).run Try.prog w = .ok (.value (.pointer (some ⟨w.heap.size, 0, none⟩))) (w.alloc (.cells z.toArray 51)) := by
  obtain ⟨i, hi, hi2⟩ := Option.bind_eq_some_iff.1 hz
  simp [execOp, ho, Instr.alloc, newVar, zeroValue, typeInfo, hi, hi2, Result.andThen, go_sem]
theorem fld_m {o : Oper} {X : Operand} (ho : o.op = .fieldAddr 71 X 0) {p : Nat} (ρ : Operand → Value) (w : World) (h0 : ρ X = ptr p) : (execOp ρ o).run Try.prog w = .ok (.value (ptr p)) w := by
  simp [execOp, ho, h0, go_sem, add_of]
theorem ld_m {o : Oper} {X : Operand} (ho : o.op = .load 69 X) {a : Addr} {v : Value} (ρ : Operand → Value) {w : World} (hc : w.cell? a = some v) (h0 : ρ X = .pointer (some a)) : (execOp ρ o).run Try.prog w = .ok (.value v) w := by
  simp [execOp, ho, h0, go_sem, hc]
theorem look_ok_exec {o : Oper} {x y : Tmp} {mt : TypeId} (ho : o.op = .lookup mt (.tmp x) (.tmp y) true) {m kv v : Value} {w : World} (hrun : (Instr.lookup mt m kv true).run Try.prog w = .ok v w) (ρ : Operand → Value) (h0 : ρ (.tmp x) = m) (h1 : ρ (.tmp y) = kv) : (execOp ρ o).run Try.prog w = .ok (.value v) w := by
  simp [execOp, ho, h0, h1, hrun, go_sem]
section
variable {B : Nat} {w0 w : World} {Ps : List Asn} {p : Nat} {l : List Ch}
/-- a chunk is stored in a variable of one's own -/
theorem ch_store (H : Own.St B w0 w Ps) (i : Nat) {b : Nat} {vs : List Value} (hi : Ps[i]? = some (AVals b 51 vs)) (hv : vs.length = 37) (cs : List Value) (hc : cs.length = 37) :
    w.there b 0 cs.toArray.size ∧ Own.St B w0 (w.setCells b 0 cs.toArray.toList) (Ps.set i (AVals b 51 cs)) := by
  refine ⟨H.thereV i hi (by rw [List.size_toArray, hc, hv]; exact Nat.le_refl _), ?_⟩
  have h := Own.St.setAll i cs 0 w Ps vs H hi (by rw [hc, hv])
  simpa using h
/-- the map's value in the cell, and what a look-up finds, in every later world -/
theorem as_looks (H : Own.St B w0 w (AS p l :: Ps)) (ok : Ok l) {k : Ky} (hk : FitK k) : ∃ m : Option Nat, ∀ wx, Below w.heap.size w wx → wx.cell? ⟨p, 0, none⟩ = some (.map m) ∧ (Instr.lookup 69 (.map m) (kV k) true).run Try.prog wx = .ok (.tuple #[chV (getS l k), .bool (isAt l k)]) wx := by
  obtain ⟨m, h1, h2⟩ := as_look H ok hk
  refine ⟨m, fun wx hwx => ?_⟩
  have c := cellLater' h1 hwx
  obtain ⟨m', h3, h4⟩ := as_look (H.later hwx) ok hk
  rw [c] at h3
  cases h3
  exact ⟨c, h4⟩
theorem zC_len : zC.length = 37 := chC_len zero_fit.key
set_option maxRecDepth 10000 in
set_option maxHeartbeats 3200000 in
theorem get_any (H : Own.St B w0 w (AS p l :: Ps)) (ok : Ok l) {k : Ky} (hk : FitK k) : Calls Try.prog 18 #[ptr p, kV k] w fun e w' => e = .returned (.tuple #[chV (getS l k), .bool (isAt l k)]) ∧ Below w.heap.size w w' := by
  obtain ⟨m, hm⟩ := as_looks H ok hk
  obtain ⟨kc, hkc⟩ : ∃ c, c = kC k := ⟨_, rfl⟩
  obtain ⟨F, hF⟩ : ∃ c, c = chC (getS l k) := ⟨_, rfl⟩
  obtain ⟨is, his⟩ : ∃ c, c = isAt l k := ⟨_, rfl⟩
  have FL : Hid (F.length = 37) := by show _ = _; rw [hF]; exact chC_len (getS_fit ok k).key
  have FO : Hid (F.toArray.all (·.oneCell') = true) := by show _ = true; rw [hF]; exact all_oneCell_toArray (chC_one _)
  have KL : Hid (kc.length = 33) := by show _ = _; rw [hkc]; exact kC_len hk
  have HM : Hid (∀ wx, Below w.heap.size w wx → wx.cell? ⟨p, 0, none⟩ = some (.map m) ∧ (Instr.lookup 69 (.map m) (.agg kc.toArray) true).run Try.prog wx = .ok (.tuple #[.agg F.toArray, .bool is]) wx) := by rw [hkc, hF, his]; exact hm
  show Calls Try.prog _ #[_, .agg (kC k).toArray] w fun e w' => e = .returned (.tuple #[.agg (chC (getS l k)).toArray, .bool (isAt l k)]) ∧ _
  rw [← hkc, ← hF, ← his]
  obtain ⟨z, hz⟩ : ∃ z, z = zC := ⟨_, rfl⟩
  have ZL : Hid (z.length = 37) := by show z.length = 37; rw [hz]; exact zC_len
  have ZP : Hid ((Try.prog.info? 51).bind (·.zero) = some (.agg z.toArray)) := by rw [hz]; exact zero_ch
  have hb1 := (Own.St.start w).boxV 35 kc
  obtain ⟨bk, hbk⟩ : ∃ b, b = w.heap.size := ⟨_, rfl⟩
  obtain ⟨W1, hW1⟩ : ∃ W, W = w.alloc (.cells kc.toArray 35) := ⟨_, rfl⟩
  rw [← hW1] at hb1
  have hb2 := hb1.boxV 51 z
  obtain ⟨b4, hb4⟩ : ∃ b, b = W1.heap.size := ⟨_, rfl⟩
  obtain ⟨W2, hW2⟩ : ∃ W, W = W1.alloc (.cells z.toArray 51) := ⟨_, rfl⟩
  rw [← hb4, ← hW2] at hb2
  have H2 := Lib.hid hb2
  have E1 := hW1.symm
  have HB4 := Lib.hid hb4
  have HW2 := Lib.hid hW2
  have RK : Hid (∀ wx, Below W2.heap.size W2 wx → wx.rangeAt w.heap.size 0 kc) := fun wx h j v hv => by rw [Nat.zero_add]; exact ((H2.out.later h).cellV 1 rfl j hv).1
  have h3 := H2.out.drew.boxV 51 z
  obtain ⟨b6, hb6⟩ : ∃ b, b = W2.heap.size := ⟨_, rfl⟩
  have hb6' : W2.drew.heap.size = b6 := by rw [hb6]; rfl
  rw [hb6'] at h3
  obtain ⟨W3, hW3⟩ : ∃ W, W = W2.drew.alloc (.cells z.toArray 51) := ⟨_, rfl⟩
  rw [← hW3] at h3
  have hs := ch_store h3 0 rfl ZL.out F FL.out
  obtain ⟨W4, hW4⟩ : ∃ W, W = W3.setCells b6 0 F.toArray.toList := ⟨_, rfl⟩
  rw [← hW4] at hs
  have hr := hs.2.boxRange 0 rfl
  have hs2 := ch_store hs.2 1 rfl ZL.out F FL.out
  obtain ⟨W5, hW5⟩ : ∃ W, W = W4.setCells b4 0 F.toArray.toList := ⟨_, rfl⟩
  rw [← hW5] at hs2
  have IW := Lib.hid (info_chA F FL.out)
  have E3 : Hid (∀ o : Oper, o.op = .alloc 51 → ∀ ρ, (execOp ρ o).run Try.prog W2.drew = .ok (.value (.pointer (some ⟨b6, 0, none⟩))) W3) := fun o ho ρ => by rw [hW3, ← hb6']; exact new_run ho ρ ZP.out _
  have E4 : Hid ((Instr.storeAt 51 (.pointer (some ⟨b6, 0, none⟩)) (.agg F.toArray)).run Try.prog W3 = .ok () W4) := by
    rw [hW4]
    exact run_storeAt_mid W3 b6 0 51 F.toArray hs.1 IW.out FO.out
  have CF : Hid (∀ wx : World, (wx = W2.drew ∨ wx = W3 ∨ wx = W4) → Below w.heap.size w wx ∧ wx.rangeAt w.heap.size 0 kc) := by
    rintro wx (rfl | rfl | rfl)
    · exact ⟨H2.out.drew.below, H2.out.drew.boxRange 1 rfl⟩
    · exact ⟨h3.below, h3.boxRange 2 rfl⟩
    · exact ⟨hs.2.below, hs.2.boxRange 2 rfl⟩
  have T2 := Lib.hid hs2.1
  have RG := Lib.hid hr
  have H5 := Lib.hid hs2.2
  have HW5 := Lib.hid hW5
  have CJ : Hid (∀ (j : Nat) (wx : World), (wx = match j with | 0 => W2.drew | 1 => W3 | _ => W4) → Below w.heap.size w wx ∧ wx.rangeAt w.heap.size 0 kc) := by
    intro j wx h
    refine CF.out wx ?_
    match j, h with
    | 0, h => exact .inl h
    | 1, h => exact .inr (.inl h)
    | (j + 2), h => exact .inr (.inr h)
  clear hm hkc hF his hz hb1 hbk hW1 hb2 hb4 hW2 ok hk H hs hs2 hr hW4 hW5 h3 hW3 hb6 hb6'
  go_enter Try.func18, Try.ntmps18
  go_wp2_with (refine Own.wpList_allocZ rfl 51 rfl z.toArray ZP.out ?_; rw [← HB4.out, ← HW2.out])
  refine wp_chain_list [9, 10] (fun j wx => wx = match j with | 0 => W2.drew | 1 => W3 | _ => W4) (by kernel_rfl) (by kernel_rfl) (by kernel_rfl) (by kernel_rfl) rfl ?_
  refine wpG_move (ptr p) rfl (by kernel_rfl) (by kernel_rfl) (by kernel_rfl) ?_
  refine wpG_run1 (x := .tmp 12) (ptr p) (ptr p) (by kernel_rfl) (by kernel_rfl) (by kernel_rfl) (by kernel_rfl) (fun j wx ρ hC h0 hc => by simp [go_sem, h0]) ?_
  refine wpG_run1 (x := .tmp 13) (ptr p) (ptr p) (by kernel_rfl) (by kernel_rfl) (by kernel_rfl) (by kernel_rfl) (fun j wx ρ hC h0 hc => fld_m rfl ρ wx h0) ?_
  refine wpG_run1 (x := .tmp 14) (ptr p) (.map m) (by kernel_rfl) (by kernel_rfl) (by kernel_rfl) (by kernel_rfl) (fun j wx ρ hC h0 hc => ld_m rfl ρ (HM.out wx (CJ.out j wx hC).1).1 h0) ?_
  refine wpG_run1 (x := .tmp 3) (.pointer (some ⟨w.heap.size, 0, none⟩)) (.agg kc.toArray) (by kernel_rfl) (by kernel_rfl) (by kernel_rfl) (by kernel_rfl) (fun j wx ρ hC h0 hc => Rec.load_key kc KL.out rfl ρ (CJ.out j wx hC).2 h0) ?_
  refine wpG_run2 (x := .tmp 15) (y := .tmp 16) (.map m) (.agg kc.toArray) (.tuple #[.agg F.toArray, .bool is]) (by kernel_rfl) (by kernel_rfl) (by kernel_rfl) (by kernel_rfl) (by kernel_rfl) (fun j wx ρ hC h0 h1 hc => look_ok_exec rfl (HM.out wx (CJ.out j wx hC).1).2 ρ h0 h1) ?_
  refine wpG_move (.tuple #[.agg F.toArray, .bool is]) rfl (by kernel_rfl) (by kernel_rfl) (by kernel_rfl) ?_
  refine wpG_run1 (x := .tmp 11) (.tuple #[.agg F.toArray, .bool is]) (.agg F.toArray) (by kernel_rfl) (by kernel_rfl) (by kernel_rfl) (by kernel_rfl) (fun j wx ρ hC h0 hc => by simp [go_sem, h0]) ?_
  refine wpG_run1 (x := .tmp 11) (.tuple #[.agg F.toArray, .bool is]) (.bool is) (by kernel_rfl) (by kernel_rfl) (by kernel_rfl) (by kernel_rfl) (fun j wx ρ hC h0 hc => by simp [go_sem, h0]) ?_
  refine wpG_op 0 (.pointer (some ⟨b6, 0, none⟩)) _ (.inl rfl) (by kernel_rfl) (by kernel_rfl) (by kernel_rfl) (by kernel_rfl) (by kernel_rfl) (fun wx hC => ⟨W3, by subst hC; exact E3.out _ rfl _, rfl⟩) ?_
  refine wpG_op 1 undef _ (.inr ⟨rfl, rfl⟩) (by kernel_rfl) (by kernel_rfl) (by kernel_rfl) (by kernel_rfl) (by kernel_rfl) (fun wx hC => ⟨W4, by subst hC; exact storeAt_E (a := .pointer (some ⟨b6, 0, none⟩)) (v := .agg F.toArray) rfl (by kernel_rfl) (by kernel_rfl) E4.out, rfl⟩) ?_
  refine wpG_assign (.bool is) rfl (by kernel_rfl) (by kernel_rfl) (by kernel_rfl) ?_
  refine wpG_end (fun w9 hw9 => ?_)
  obtain rfl : w9 = W4 := hw9
  simp only [setL, List.set_cons_zero, List.set_cons_succ]
  clear E3 E4 CF CJ HM HW2 HB4 ZP ZL KL E1 RK H2
  go_wp2_with (first
    | (refine wpList_val rfl (load_ch F FL.out rfl _ (b := b6) (k := 0) RG.out rfl) ?_)
    | (refine wpList_store_mid rfl 51 (.tmp 4) (.tmp 20) rfl b4 0 F.toArray rfl rfl T2.out IW.out FO.out ?_; rw [← HW5.out]))
  refine bodyPost_ret (results_cell_two rfl _ _ b4 51 _ (0, 0) _ _ rfl rfl (H5.out.rowV 1 rfl) Try.underlying51 rfl (info_ch F FL.out)) rfl ?_
  exact ⟨rfl, H5.out.below⟩
end
end Sto
end Go.Proofs.Ytcfdjoohbicomaa

end
section
namespace Go.Proofs.Ytcfdjoohbicomaa
open Go.RowKit Go.Own Go.Maps
namespace Sto
open Go.StoM Byt
theorem boxy_key : Boxy Try.prog 35 33 := boxy_of (kC zeroCh.key).toArray (by kernel_rfl) (by kernel_rfl) (by kernel_rfl)
theorem fld_k0 {o : Oper} {X : Operand} (ho : o.op = .fieldAddr 51 X 0) {p : Nat} (ρ : Operand → Value) (w : World) (h0 : ρ X = ptr p) : (execOp ρ o).run Try.prog w = .ok (.value (ptr p)) w := by
  simp [execOp, ho, h0, go_sem, add_of]
theorem ok_put {l : List Ch} (ok : Ok l) {c : Ch} (hc : Fit c) : Ok (putS l c) :=
  ⟨sorted_putS ok.sorted c, fun d hd => by
    rcases (mem_putS ok.sorted).1 hd with h | h
    · exact ok.fit d h.1
    · rw [h]; exact hc⟩
theorem eqlMapIn {P : Program} (w : World) (d : Nat) (t k e : TypeId) (m : Option Nat) (h : P.underlying t = some (.map k e)) : (Op.equalIn (d + 1) t (.map m) (.map none)).run P w = .ok m.isNone w := by
  cases m <;> simp [Op.equalIn, run_underlying h]
theorem eqlMap {P : Program} (w : World) (t k e : TypeId) (m : Option Nat) (h : P.underlying t = some (.map k e)) : (binOp .eql t (.map m) (.map none)).run P w = .ok (.bool m.isNone) w := by
  have h2 : (Op.equal t (.map m) (.map none)).run P w = .ok m.isNone w := eqlMapIn w 9999 t k e m h
  simp [binOp, h2]
theorem ok_nil : Ok [] := ⟨List.Pairwise.nil, fun c hc => by cases hc⟩
section
variable {B : Nat} {w0 w : World} {Ps : List Asn} {p : Nat} {l : List Ch}
theorem new_any (H : Own.St B w0 w Ps) : Calls Try.prog 11 #[] w fun e w' => ∃ p, e = .returned (ptr p) ∧ Own.St B w0 w' (AS p [] :: Ps) := by
  have h := H.boxV 71 [.map none]
  have H1 : Hid (Own.St B w0 (w.alloc (.cells #[.map none] 71)) (AS w.heap.size [] :: Ps)) := as_close (m := none) (fun _ => rfl) h
  clear h H
  go_enter Try.func11, Try.ntmps11
  go_wp2
  go_ret
  exact ⟨_, rfl, H1.out⟩
set_option maxRecDepth 10000 in
set_option maxHeartbeats 3200000 in
theorem put_any (H : Own.St B w0 w (AS p l :: Ps)) (ok : Ok l) (hn : l.length ≤ 1000000) {c : Ch} (hc : Fit c) : Calls Try.prog 35 #[ptr p, chV c] w fun e w' => e = .returned (.tuple #[]) ∧ Own.St B w0 w' (AS p (putS l c) :: Ps) := by
  obtain ⟨cs, hcs⟩ : ∃ x, x = chC c := ⟨_, rfl⟩
  obtain ⟨kc, hkc⟩ : ∃ x, x = kC c.key := ⟨_, rfl⟩
  have CL : Hid (cs.length = 37) := by show _ = _; rw [hcs]; exact chC_len hc.key
  have KL : Hid (kc.length = 33) := by show _ = _; rw [hkc]; exact kC_len hc.key
  obtain ⟨bc, hbc⟩ : ∃ b, b = w.heap.size := ⟨_, rfl⟩
  have KR : Hid (∀ {Q1 : List Asn} (wx : World), Own.St B w0 wx (AVals bc 51 cs :: Q1) → wx.rangeAt bc 0 kc) := fun wx h j v hv => by
    rw [Nat.zero_add]
    exact (h.cellV 0 rfl j (by rw [hcs]; exact chC_key hc.key j v (by rw [← hkc]; exact hv))).1
  have MP : Hid (∀ {b : Nat} (wx : World), Own.St B w0 wx (AVals bc 51 cs :: AVals p 71 [.map (some b)] :: ACh b l :: Ps) → ∃ w', (Instr.mapUpdate 69 (.map (some b)) (.agg kc.toArray) (.agg cs.toArray)).run Try.prog wx = .ok () w' ∧ Own.St B w0 w' (AS p (putS l c) :: Ps)) := by
    intro b wx h
    obtain ⟨w', hr, h2⟩ := mapPutC h 2 rfl ok hn hc
    rw [hkc, hcs]
    refine ⟨w', hr, as_close (m := some b) (fun h => by cases h) ?_⟩
    simp only [List.set_cons_zero, List.set_cons_succ] at h2
    exact h2.drop 1
  show Calls Try.prog _ #[_, .agg (chC c).toArray] w _
  rw [← hcs]
  obtain ⟨m, hm, h⟩ := as_open H
  have hB := h.boxV 51 cs
  obtain ⟨W1, hW1⟩ : ∃ W, W = w.alloc (.cells cs.toArray 51) := ⟨_, rfl⟩
  rw [← hW1, ← hbc] at hB
  have E1 := hW1.symm
  have EB := hbc.symm
  clear hcs hkc hc ok hn H h hW1 hbc
  cases m with
  | some b =>
    have H3 : Hid (Own.St B w0 W1 (AVals bc 51 cs :: AVals p 71 [.map (some b)] :: ACh b l :: Ps)) := hB
    have c0 := (H3.out.cellV 1 rfl 0 rfl).1
    have EQ : (binOp .eql 69 (.map (some b)) (.map none)).run Try.prog W1 = .ok (.bool false) W1 := eqlMap W1 _ _ _ (some b) mapT
    clear hB hm
    go_enter Try.func35, Try.ntmps35
    go_wp2_with (fail)
    refine wp_laxT_list 7 (by kernel_rfl) (by kernel_rfl) (by kernel_rfl) (by kernel_rfl) (by kernel_rfl) ?_
    simp only [List.take_succ_cons, List.take_zero, List.drop_succ_cons, List.drop_zero]
    refine wpL_move (ptr p) rfl (by kernel_rfl) (by kernel_rfl) (by kernel_rfl) (by kernel_rfl) ?_
    refine wpL_run1 (x := .tmp 13) (ptr p) (ptr p) (by kernel_rfl) (by kernel_rfl) (by kernel_rfl) (by kernel_rfl) (by kernel_rfl) (fun wx ρ hwx h0 hc => by simp [go_sem, h0]) ?_
    refine wpL_run1 (x := .tmp 14) (ptr p) (ptr p) (by kernel_rfl) (by kernel_rfl) (by kernel_rfl) (by kernel_rfl) (by kernel_rfl) (fun wx ρ hwx h0 hc => fld_m rfl ρ wx h0) ?_
    refine wpL_run1 (x := .tmp 15) (ptr p) (.map (some b)) (by kernel_rfl) (by kernel_rfl) (by kernel_rfl) (by kernel_rfl) (by kernel_rfl) (fun wx ρ hwx h0 hc => ld_m rfl ρ ((H3.out.later hwx).cellV 1 rfl 0 rfl).1 h0) ?_
    refine wpL_run1 (x := .tmp 3) (ptr bc) (ptr bc) (by kernel_rfl) (by kernel_rfl) (by kernel_rfl) (by kernel_rfl) (by kernel_rfl) (fun wx ρ hwx h0 hc => fld_k0 rfl ρ wx h0) ?_
    refine wpL_run1 (x := .tmp 17) (ptr bc) (.agg kc.toArray) (by kernel_rfl) (by kernel_rfl) (by kernel_rfl) (by kernel_rfl) (by kernel_rfl) (fun wx ρ hwx h0 hc => Rec.load_key kc KL.out rfl ρ (KR.out wx (H3.out.later hwx)) h0) ?_
    refine wpL_run1 (x := .tmp 3) (ptr bc) (.agg cs.toArray) (by kernel_rfl) (by kernel_rfl) (by kernel_rfl) (by kernel_rfl) (by kernel_rfl) (fun wx ρ hwx h0 hc => load_ch cs CL.out rfl ρ ((H3.out.later hwx).boxRange 0 rfl) h0) ?_
    refine wpL_end (by kernel_rfl) (fun w4 hw4 => ?_)
    simp only [FinL, setL, List.set_cons_zero, List.set_cons_succ]
    obtain ⟨w5, e5, h5⟩ := MP.out w4 (H3.out.later hw4)
    have H5 := Lib.hid h5
    clear h5 hw4 H3 MP KR KL CL
    go_wp2
    go_end0
    exact ⟨rfl, H5.out⟩
  | none =>
    have hl := hm rfl
    subst hl
    have H2 : Hid (Own.St B w0 W1 (AVals bc 51 cs :: AVals p 71 [.map none] :: Ps)) := hB
    have c0 := (H2.out.cellV 1 rfl 0 rfl).1
    obtain ⟨w2, b, e2, h2⟩ := mapMakeC H2.out
    have c1 := h2.cellV 2 rfl 0 rfl
    obtain ⟨c1, c2⟩ := c1
    have h3 := h2.storeV 2 rfl 0 (.map (some b))
    simp only [List.set_cons_zero, List.set_cons_succ] at h3
    obtain ⟨W3, hW3⟩ : ∃ W, W = w2.setCell ⟨p, 0, none⟩ (.map (some b)) := ⟨_, rfl⟩
    rw [← hW3] at h3
    have E3 := hW3.symm
    have H3 : Hid (Own.St B w0 W3 (AVals bc 51 cs :: AVals p 71 [.map (some b)] :: ACh b [] :: Ps)) := h3.perm (by
      refine (List.Perm.swap _ _ _).trans ?_
      exact (List.Perm.swap _ _ _).cons _)
    have EQ : (binOp .eql 69 (.map none) (.map none)).run Try.prog W1 = .ok (.bool true) W1 := eqlMap W1 _ _ _ none mapT
    clear hB hm h2 h3 hW3 H2
    go_enter Try.func35, Try.ntmps35
    go_wp2_with (fail)
    refine wp_laxT_list 7 (by kernel_rfl) (by kernel_rfl) (by kernel_rfl) (by kernel_rfl) (by kernel_rfl) ?_
    simp only [List.take_succ_cons, List.take_zero, List.drop_succ_cons, List.drop_zero]
    refine wpL_move (ptr p) rfl (by kernel_rfl) (by kernel_rfl) (by kernel_rfl) (by kernel_rfl) ?_
    refine wpL_run1 (x := .tmp 13) (ptr p) (ptr p) (by kernel_rfl) (by kernel_rfl) (by kernel_rfl) (by kernel_rfl) (by kernel_rfl) (fun wx ρ hwx h0 hc => by simp [go_sem, h0]) ?_
    refine wpL_run1 (x := .tmp 14) (ptr p) (ptr p) (by kernel_rfl) (by kernel_rfl) (by kernel_rfl) (by kernel_rfl) (by kernel_rfl) (fun wx ρ hwx h0 hc => fld_m rfl ρ wx h0) ?_
    refine wpL_run1 (x := .tmp 15) (ptr p) (.map (some b)) (by kernel_rfl) (by kernel_rfl) (by kernel_rfl) (by kernel_rfl) (by kernel_rfl) (fun wx ρ hwx h0 hc => ld_m rfl ρ ((H3.out.later hwx).cellV 1 rfl 0 rfl).1 h0) ?_
    refine wpL_run1 (x := .tmp 3) (ptr bc) (ptr bc) (by kernel_rfl) (by kernel_rfl) (by kernel_rfl) (by kernel_rfl) (by kernel_rfl) (fun wx ρ hwx h0 hc => fld_k0 rfl ρ wx h0) ?_
    refine wpL_run1 (x := .tmp 17) (ptr bc) (.agg kc.toArray) (by kernel_rfl) (by kernel_rfl) (by kernel_rfl) (by kernel_rfl) (by kernel_rfl) (fun wx ρ hwx h0 hc => Rec.load_key kc KL.out rfl ρ (KR.out wx (H3.out.later hwx)) h0) ?_
    refine wpL_run1 (x := .tmp 3) (ptr bc) (.agg cs.toArray) (by kernel_rfl) (by kernel_rfl) (by kernel_rfl) (by kernel_rfl) (by kernel_rfl) (fun wx ρ hwx h0 hc => load_ch cs CL.out rfl ρ ((H3.out.later hwx).boxRange 0 rfl) h0) ?_
    refine wpL_end (by kernel_rfl) (fun w4 hw4 => ?_)
    simp only [FinL, setL, List.set_cons_zero, List.set_cons_succ]
    obtain ⟨w5, e5, h5⟩ := MP.out w4 (H3.out.later hw4)
    have H5 := Lib.hid h5
    clear h5 hw4 H3 MP KR KL CL
    go_wp2
    go_end0
    exact ⟨rfl, H5.out⟩
end
end Sto
end Go.Proofs.Ytcfdjoohbicomaa

end
section
namespace Go.Proofs.Ytcfdjoohbicomaa
open Go.RowKit Go.Own Go.Maps
namespace Sto
open Go.StoM Byt
theorem built_ch0 (f : Nat → Value) (a b c d : Int) : Try.prog.built 51 [(0, .agg ((List.range 33).map f).toArray), (1, .agg #[iS a, iS b, iS c]), (2, iS d)] = some ((List.range 33).map f ++ [iS a, iS b, iS c, iS d]).toArray := by kernel_rfl
theorem built_chk (kc : List Value) (h : kc.length = 33) (a b c d : Int) : Try.prog.built 51 [(0, .agg kc.toArray), (1, .agg #[iS a, iS b, iS c]), (2, iS d)] = some (kc ++ [iS a, iS b, iS c, iS d]).toArray := by
  have hrm : (List.range 33).map (fun i => kc.getD i undef) = kc := by
    apply List.ext_getElem
    · simp [h]
    · intro i h1 h2
      simp [List.getD, h2]
  have h := built_ch0 (fun i => kc.getD i undef) a b c d
  rw [hrm] at h
  exact h
def wR (c : Ch) (x : Int) : Ch := ⟨c.key, c.place, x⟩
def wP (c : Ch) (q : Pl) : Ch := ⟨c.key, q, c.refs⟩
theorem getS_at {l : List Ch} {k : Ky} (h : isAt l k = true) : getS l k = atS l k := by unfold getS; rw [if_pos h]
theorem chC_set_refs {c : Ch} (h : FitK c.key) (x : Int) : (chC c).set 36 (iS x) = chC (wR c x) := by
  unfold chC
  rw [List.set_append_right _ _ (by rw [kC_len h]; omega), kC_len h]
  rfl
theorem chC_set_place {c : Ch} (h : FitK c.key) (q : Pl) : (chC c).take 33 ++ pC q ++ (chC c).drop 36 = chC (wP c q) := by
  unfold chC
  rw [List.take_append_of_le_length (by rw [kC_len h]; omega), List.take_of_length_le (by rw [kC_len h]; omega), List.drop_append, kC_len h, List.drop_of_length_le (by rw [kC_len h]; omega)]
  simp [pC, wP]
theorem chC_set3 {c : Ch} (h : FitK c.key) (a b d : Int) : (((chC c).set 33 (.int .i64 a)).set 34 (.int .i64 b)).set 35 (.int .i64 d) = chC (wP c ⟨a, b, d⟩) := by
  unfold chC
  have hk := kC_len h
  rw [List.set_append_right _ _ (by omega), List.set_append_right _ _ (by omega), List.set_append_right _ _ (by omega), hk]
  rfl
theorem wpList_del {P : Program} {ops : Array Oper} {rest : List Oper} {o : Oper} {a : Go.Act} {w w' : World} {Q : Exit → Go.Act → World → Prop} {t k : TypeId} (hgd : o.guard = none) (m x : Operand) (ho : o.op = .call { callee := .builtin .delete, args := #[m, x], argTypes := #[t, k] }) {vm vx : Value} (hm : a.eval m = vm) (hx : a.eval x = vx)
    (hrun : (Builtin.delete_ #[t, k] o.type #[vm, vx]).run P w = .ok (.tuple #[]) w') (h : wpList P ops Q rest (a.put o.dst (.tuple #[])) w') : wpList P ops Q (o :: rest) a w := by
  refine wpList_plain hgd fun K hK => ?_
  unfold Oper.wp
  simp [execOp, ho, resolve, invoke, builtin, hm, hx, hrun, Result.andThen]
  exact hK _ _ h
theorem addS_fst (l : List Ch) (k : Ky) (q : Pl) : (addS l k q).1 = if isAt l k = true then l else putS l ⟨k, q, 1⟩ := by
  unfold addS
  cases h : isAt l k
  · rw [putS_new (c := ⟨k, q, 1⟩) h]; rfl
  · rfl
theorem addS_snd (l : List Ch) (k : Ky) (q : Pl) : (addS l k q).2 = if isAt l k = true then 3 else 0 := by
  unfold addS
  cases isAt l k <;> rfl
theorem refS_yes {l : List Ch} {k : Ky} (h : isAt l k = true) : refS l k = (putS l (wR (getS l k) ((getS l k).refs + 1)), 0) := by
  unfold refS
  have e := putS_act h (wR (atS l k) ((atS l k).refs + 1)) (at_mem h).2
  rw [if_pos h, getS_at h, e]
  rfl
theorem refS_no {l : List Ch} {k : Ky} (h : isAt l k = false) : refS l k = (l, 2) := by unfold refS; rw [h]; rfl
theorem moveS_yes {l : List Ch} {k : Ky} (h : isAt l k = true) (q : Pl) : moveS l k q = (putS l (wP (getS l k) q), 0) := by
  unfold moveS
  have e := putS_act h (wP (atS l k) q) (at_mem h).2
  rw [if_pos h, getS_at h, e]
  rfl
theorem moveS_no {l : List Ch} {k : Ky} (h : isAt l k = false) (q : Pl) : moveS l k q = (l, 2) := by unfold moveS; rw [h]; rfl
theorem unrefS_no {l : List Ch} {k : Ky} (h : isAt l k = false) : unrefS l k = (l, false, 2) := by unfold unrefS; rw [h]; rfl
theorem unrefS_more {l : List Ch} {k : Ky} (h : isAt l k = true) (h2 : (getS l k).refs - 1 > 0) : unrefS l k = (putS l (wR (getS l k) ((getS l k).refs - 1)), false, 0) := by
  unfold unrefS
  rw [if_pos h, getS_at h] at *
  have e := putS_act h (wR (atS l k) ((atS l k).refs - 1)) (at_mem h).2
  rw [if_pos h2, e]
  rfl
theorem unrefS_last {l : List Ch} {k : Ky} (h : isAt l k = true) (h2 : ¬ (getS l k).refs - 1 > 0) : unrefS l k = (l.eraseIdx (posK k l), true, 0) := by
  unfold unrefS
  rw [getS_at h] at h2
  rw [if_pos h, if_neg h2]
theorem rot2 (a b c : Asn) (Ps : List Asn) : (a :: b :: c :: Ps).Perm (c :: a :: b :: Ps) := ((List.Perm.swap c b Ps).cons a).trans (List.Perm.swap c a _)
theorem rot3 (a b c d : Asn) (Ps : List Asn) : (a :: b :: c :: d :: Ps).Perm (d :: a :: b :: c :: Ps) := ((rot2 b c d Ps).cons a).trans (List.Perm.swap d a _)
theorem tail2 {B : Nat} {w0 w : World} {a b c : Asn} {Ps : List Asn} (h : Own.St B w0 w (c :: a :: b :: Ps)) : Own.St B w0 w (c :: Ps) := (h.drop2).drop2
theorem tail3 {B : Nat} {w0 w : World} {a b c d : Asn} {Ps : List Asn} (h : Own.St B w0 w (d :: a :: b :: c :: Ps)) : Own.St B w0 w (d :: Ps) := (h.drop2).drop2.drop2
section
variable {B : Nat} {w0 w : World} {Ps : List Asn} {p : Nat} {l : List Ch}
set_option maxRecDepth 10000 in
set_option maxHeartbeats 3200000 in
theorem add_any (H : Own.St B w0 w (AS p l :: Ps)) (ok : Ok l) (hn : l.length ≤ 1000000) {k : Ky} (hk : FitK k) {q : Pl} (hq : FitP q) : Calls Try.prog 25 #[ptr p, kV k, pV q] w fun e w' => e = .returned (errS (addS l k q).2) ∧ Own.St B w0 w' (AS p (addS l k q).1 :: Ps) := by
  obtain ⟨kc, hkc⟩ : ∃ c, c = kC k := ⟨_, rfl⟩
  obtain ⟨F, hF⟩ : ∃ c, c = chC (getS l k) := ⟨_, rfl⟩
  have FL : Hid (F.length = 37) := by show _ = _; rw [hF]; exact chC_len (getS_fit ok k).key
  have FO : Hid (∀ u ∈ F, u.oneCell' = true) := by show ∀ u ∈ F, _; rw [hF]; exact chC_one _
  have KL : Hid (kc.length = 33) := by show _ = _; rw [hkc]; exact kC_len hk
  have CG : Hid (∀ wx, Below w.heap.size w wx → Calls Try.prog 18 #[ptr p, .agg kc.toArray] wx fun e w' => e = .returned (.tuple #[.agg F.toArray, .bool (isAt l k)]) ∧ Below wx.heap.size wx w') := by
    rw [hkc, hF]
    exact fun wx hwx => get_any (H.later hwx) ok hk
  have HF := Lib.hid hF
  have HK := Lib.hid hkc
  have OK := Lib.hid ok
  have FK := Lib.hid hk
  obtain ⟨qs, qg, qn⟩ := q
  have HQ := Lib.hid hq
  have hb0 := H.boxV 35 kc
  obtain ⟨bk, hbk⟩ : ∃ b, b = w.heap.size := ⟨_, rfl⟩
  obtain ⟨W0, hW0⟩ : ∃ W, W = w.alloc (.cells kc.toArray 35) := ⟨_, rfl⟩
  rw [← hW0, ← hbk] at hb0
  have hb1 := hb0.boxV 37 [iS qs, iS qg, iS qn]
  obtain ⟨bq, hbq⟩ : ∃ b, b = W0.heap.size := ⟨_, rfl⟩
  obtain ⟨W1, hW1⟩ : ∃ W, W = W0.alloc (.cells #[iS qs, iS qg, iS qn] 37) := ⟨_, rfl⟩
  have hW1' : W0.alloc (.cells [iS qs, iS qg, iS qn].toArray 37) = W1 := hW1.symm
  rw [hW1', ← hbq] at hb1
  have H1 := Lib.hid hb1
  have E0 := hW0.symm
  have E1 := hW1.symm
  have EK := hbk.symm
  have EB := hbq.symm
  have BW : Hid (Below w.heap.size w W1) := by rw [hW1, hW0]; exact (((Own.St.start w).alloc _).alloc _).below
  have hfit : Fit ⟨k, ⟨qs, qg, qn⟩, 1⟩ := ⟨hk, hq, ⟨by show (-9223372036854775808 : Int) ≤ 1; decide, by show (1 : Int) ≤ 9223372036854775807; decide⟩⟩
  have BC : Hid (Try.prog.built 51 [(0, .agg kc.toArray), (1, .agg #[iS qs, iS qg, iS qn]), (2, iS 1)] = some (kc ++ [iS qs, iS qg, iS qn, iS 1]).toArray) := built_chk kc KL.out _ _ _ _
  obtain ⟨N, hN⟩ : ∃ N, N = kc ++ [iS qs, iS qg, iS qn, iS 1] := ⟨_, rfl⟩
  rw [← hN] at BC
  have CP : Hid (∀ {Q : List Asn} (wx : World), Own.St B w0 wx (AS p l :: Q) → Calls Try.prog 35 #[ptr p, .agg N.toArray] wx fun e w' => e = .returned (.tuple #[]) ∧ Own.St B w0 w' (AS p (putS l ⟨k, ⟨qs, qg, qn⟩, 1⟩) :: Q)) := by
    have e : N = chC ⟨k, ⟨qs, qg, qn⟩, 1⟩ := by rw [hN, hkc]; rfl
    rw [e]
    exact fun {Q} wx h => put_any h ok hn hfit
  show Calls Try.prog _ #[_, .agg (kC k).toArray, .agg #[iS qs, iS qg, iS qn]] w _
  rw [addS_fst, addS_snd, ← hkc]
  clear hkc hF hb1 hbk hW1 hW1' ok hk H hq hW0 hbq hb0 hN hfit
  cases his : isAt l k
  · rw [his] at CG
    rw [if_neg (by simp), if_neg (by simp)]
    clear his
    go_enter Try.func25, Try.ntmps25
    go_wp2_with (refine wpList_val rfl (Rec.load_key kc KL.out rfl _ (b := bk) (k := 0) (H1.out.boxRange 1 rfl) rfl) ?_)
    refine (CG.out _ BW.out).mono ?_
    rintro e w2 ⟨rfl, h2⟩
    have H2 := Lib.hid (H1.out.later h2)
    clear h2 CG BW
    have d0 := (H2.out.cellV 0 rfl 0 rfl).1
    have d1 := (H2.out.cellV 0 rfl 1 rfl).1
    have d2 := (H2.out.cellV 0 rfl 2 rfl).1
    go_wp2_with (first
      | (refine wpList_box2 boxy_ch rfl rfl rfl (.tmp 7) (.tmp 15) rfl rfl F (fun _ => rfl) (fun _ => rfl) FL.out FO.out H2.out ?_; intro b7 w3 h; have H3 := Lib.hid h; clear h)
      | (refine wpList_val rfl (Rec.load_key kc KL.out rfl _ (b := bk) (k := 0) (H3.out.boxRange 2 rfl) rfl) ?_; have d3 := (H3.out.cellV 1 rfl 0 rfl).1; have d4 := (H3.out.cellV 1 rfl 1 rfl).1; have d5 := (H3.out.cellV 1 rfl 2 rfl).1)
      | (refine Own.wpList_built rfl 51 #[(0, .tmp 19), (1, .tmp 20), (2, .const (.int .i64 1))] rfl N.toArray ?_ ?_; · (simp only [List.map_toArray, List.map_cons, List.map_nil, List.toList_toArray]; exact BC.out)))
    refine (CP.out _ (H3.out.perm (rot3 _ _ _ _ _))).mono ?_
    rintro e w4 ⟨rfl, h4⟩
    have H4 := Lib.hid h4
    clear h4 CP
    go_wp2
    go_ret
    exact ⟨rfl, tail3 H4.out⟩
  · rw [his] at CG
    rw [if_pos rfl, if_pos rfl]
    clear his
    go_enter Try.func25, Try.ntmps25
    go_wp2_with (refine wpList_val rfl (Rec.load_key kc KL.out rfl _ (b := bk) (k := 0) (H1.out.boxRange 1 rfl) rfl) ?_)
    refine (CG.out _ BW.out).mono ?_
    rintro e w2 ⟨rfl, h2⟩
    have H2 := Lib.hid (H1.out.later h2)
    clear h2 CG BW
    go_wp2_with (refine wpList_box2 boxy_ch rfl rfl rfl (.tmp 7) (.tmp 15) rfl rfl F (fun _ => rfl) (fun _ => rfl) FL.out FO.out H2.out ?_; intro b7 w3 h; have H3 := Lib.hid h; clear h)
    go_ret
    exact ⟨rfl, H3.out.drop 3⟩
set_option maxRecDepth 10000 in
set_option maxHeartbeats 3200000 in
theorem ref_any (H : Own.St B w0 w (AS p l :: Ps)) (ok : Ok l) (hn : l.length ≤ 1000000) {k : Ky} (hk : FitK k) (hr : isAt l k = true → (getS l k).refs < 9223372036854775807) : Calls Try.prog 26 #[ptr p, kV k] w fun e w' => e = .returned (errS (refS l k).2) ∧ Own.St B w0 w' (AS p (refS l k).1 :: Ps) := by
  obtain ⟨kc, hkc⟩ : ∃ c, c = kC k := ⟨_, rfl⟩
  obtain ⟨F, hF⟩ : ∃ c, c = chC (getS l k) := ⟨_, rfl⟩
  have FL : Hid (F.length = 37) := by show _ = _; rw [hF]; exact chC_len (getS_fit ok k).key
  have FO : Hid (∀ u ∈ F, u.oneCell' = true) := by show ∀ u ∈ F, _; rw [hF]; exact chC_one _
  have KL : Hid (kc.length = 33) := by show _ = _; rw [hkc]; exact kC_len hk
  have CG : Hid (∀ wx, Below w.heap.size w wx → Calls Try.prog 18 #[ptr p, .agg kc.toArray] wx fun e w' => e = .returned (.tuple #[.agg F.toArray, .bool (isAt l k)]) ∧ Below wx.heap.size wx w') := by
    rw [hkc, hF]
    exact fun wx hwx => get_any (H.later hwx) ok hk
  have HF := Lib.hid hF
  have HK := Lib.hid hkc
  have OK := Lib.hid ok
  have FK := Lib.hid hk
  have hb1 := H.boxV 35 kc
  obtain ⟨bk, hbk⟩ : ∃ b, b = w.heap.size := ⟨_, rfl⟩
  obtain ⟨W1, hW1⟩ : ∃ W, W = w.alloc (.cells kc.toArray 35) := ⟨_, rfl⟩
  rw [← hW1, ← hbk] at hb1
  have H1 := Lib.hid hb1
  have E1 := hW1.symm
  have EK := hbk.symm
  have BW : Hid (Below w.heap.size w W1) := by rw [hW1]; exact ((Own.St.start w).alloc _).below
  show Calls Try.prog _ #[_, .agg (kC k).toArray] w _
  rw [← hkc]
  clear hkc hF hb1 hbk hW1
  cases his : isAt l k
  · rw [his] at CG
    rw [refS_no his]
    clear his ok hk H hr
    go_enter Try.func26, Try.ntmps26
    go_wp2_with (refine wpList_val rfl (Rec.load_key kc KL.out rfl _ (b := bk) (k := 0) (H1.out.boxRange 0 rfl) rfl) ?_)
    refine (CG.out _ BW.out).mono ?_
    rintro e w2 ⟨rfl, h2⟩
    have H2 := Lib.hid (H1.out.later h2)
    clear h2 CG BW
    go_wp2_with (refine wpList_box2 boxy_ch rfl rfl rfl (.tmp 5) (.tmp 11) rfl rfl F (fun _ => rfl) (fun _ => rfl) FL.out FO.out H2.out ?_; intro b7 w3 h; have H3 := Lib.hid h; clear h)
    go_ret
    exact ⟨rfl, H3.out.drop 2⟩
  · have hr1 := hr his
    have hf := getS_fit ok k
    have hr2 : -9223372036854775808 ≤ (getS l k).refs := hf.refs.1
    obtain ⟨r, hrr⟩ : ∃ r, r = (getS l k).refs := ⟨_, rfl⟩
    obtain ⟨G, hG⟩ : ∃ G, G = F.set 36 (iS (r + 1)) := ⟨_, rfl⟩
    have eG : G = chC (wR (getS l k) ((getS l k).refs + 1)) := by rw [hG, HF.out, hrr]; exact chC_set_refs hf.key _
    have hfit : Fit (wR (getS l k) ((getS l k).refs + 1)) := ⟨hf.key, hf.place, ⟨by show -9223372036854775808 ≤ (getS l k).refs + 1; omega, by show (getS l k).refs + 1 ≤ 9223372036854775807; omega⟩⟩
    have CP : Hid (∀ {Q : List Asn} (wx : World), Own.St B w0 wx (AS p l :: Q) → Calls Try.prog 35 #[ptr p, .agg G.toArray] wx fun e w' => e = .returned (.tuple #[]) ∧ Own.St B w0 w' (AS p (putS l (wR (getS l k) ((getS l k).refs + 1))) :: Q)) := by
      rw [eG]
      exact fun {Q} wx h => put_any h ok hn hfit
    have GL : Hid (G.length = 37) := by show _ = _; rw [hG, List.length_set]; exact FL.out
    have F36 : Hid (F[36]? = some (iS r)) := by show _ = _; rw [HF.out, hrr]; exact chC_rest hf.key 3
    have HG := Lib.hid hG
    rw [his] at CG
    rw [refS_yes his]
    rw [← hrr] at hr1 hr2
    have eW : IntKind.i64.wrap (r + 1) = r + 1 := by
      simp [IntKind.wrap, IntKind.bits, IntKind.signed]; omega
    clear his ok hk H hr hf hrr hG eG hfit
    go_enter Try.func26, Try.ntmps26
    go_wp2_with (refine wpList_val rfl (Rec.load_key kc KL.out rfl _ (b := bk) (k := 0) (H1.out.boxRange 0 rfl) rfl) ?_)
    refine (CG.out _ BW.out).mono ?_
    rintro e w2 ⟨rfl, h2⟩
    have H2 := Lib.hid (H1.out.later h2)
    clear h2 CG BW
    go_wp2_with (first
      | (refine wpList_box2 boxy_ch rfl rfl rfl (.tmp 5) (.tmp 11) rfl rfl F (fun _ => rfl) (fun _ => rfl) FL.out FO.out H2.out ?_; intro b7 w3 h; have q0 := (h.cellV 0 rfl 36 (v := .int .i64 r) F36.out).1; have q1 := (h.cellV 0 rfl 36 (v := .int .i64 r) F36.out).2; have SV := h.storeV 0 rfl 36 (.int .i64 (r + 1)); simp only [List.set_cons_zero] at SV; rw [← HG.out] at SV; have H4 := Lib.hid SV; clear h SV)
      | (refine wpList_val rfl (load_ch G GL.out rfl _ (b := b7) (k := 0) (H4.out.boxRange 0 rfl) rfl) ?_))
    refine (CP.out _ (H4.out.perm (rot2 _ _ _ _))).mono ?_
    rintro e w5 ⟨rfl, h5⟩
    have H5 := Lib.hid h5
    clear h5 CP
    go_wp2
    go_ret
    exact ⟨rfl, tail2 H5.out⟩
set_option maxRecDepth 10000 in
set_option maxHeartbeats 3200000 in
theorem move_any (H : Own.St B w0 w (AS p l :: Ps)) (ok : Ok l) (hn : l.length ≤ 1000000) {k : Ky} (hk : FitK k) {q : Pl} (hq : FitP q) : Calls Try.prog 24 #[ptr p, kV k, pV q] w fun e w' => e = .returned (errS (moveS l k q).2) ∧ Own.St B w0 w' (AS p (moveS l k q).1 :: Ps) := by
  obtain ⟨kc, hkc⟩ : ∃ c, c = kC k := ⟨_, rfl⟩
  obtain ⟨F, hF⟩ : ∃ c, c = chC (getS l k) := ⟨_, rfl⟩
  have FL : Hid (F.length = 37) := by show _ = _; rw [hF]; exact chC_len (getS_fit ok k).key
  have FO : Hid (∀ u ∈ F, u.oneCell' = true) := by show ∀ u ∈ F, _; rw [hF]; exact chC_one _
  have KL : Hid (kc.length = 33) := by show _ = _; rw [hkc]; exact kC_len hk
  have CG : Hid (∀ wx, Below w.heap.size w wx → Calls Try.prog 18 #[ptr p, .agg kc.toArray] wx fun e w' => e = .returned (.tuple #[.agg F.toArray, .bool (isAt l k)]) ∧ Below wx.heap.size wx w') := by
    rw [hkc, hF]
    exact fun wx hwx => get_any (H.later hwx) ok hk
  have HF := Lib.hid hF
  have HK := Lib.hid hkc
  have OK := Lib.hid ok
  have FK := Lib.hid hk
  obtain ⟨qs, qg, qn⟩ := q
  have HQ := Lib.hid hq
  have hb0 := H.boxV 35 kc
  obtain ⟨bk, hbk⟩ : ∃ b, b = w.heap.size := ⟨_, rfl⟩
  obtain ⟨W0, hW0⟩ : ∃ W, W = w.alloc (.cells kc.toArray 35) := ⟨_, rfl⟩
  rw [← hW0, ← hbk] at hb0
  have hb1 := hb0.boxV 37 [iS qs, iS qg, iS qn]
  obtain ⟨bq, hbq⟩ : ∃ b, b = W0.heap.size := ⟨_, rfl⟩
  obtain ⟨W1, hW1⟩ : ∃ W, W = W0.alloc (.cells #[iS qs, iS qg, iS qn] 37) := ⟨_, rfl⟩
  have hW1' : W0.alloc (.cells [iS qs, iS qg, iS qn].toArray 37) = W1 := hW1.symm
  rw [hW1', ← hbq] at hb1
  have H1 := Lib.hid hb1
  have E0 := hW0.symm
  have E1 := hW1.symm
  have EK := hbk.symm
  have EB := hbq.symm
  have BW : Hid (Below w.heap.size w W1) := by rw [hW1, hW0]; exact (((Own.St.start w).alloc _).alloc _).below
  show Calls Try.prog _ #[_, .agg (kC k).toArray, .agg #[iS qs, iS qg, iS qn]] w _
  rw [← hkc]
  clear hkc hF hb1 hbk hW1 hW1' hb0 hW0 hbq
  cases his : isAt l k
  · rw [his] at CG
    rw [moveS_no his]
    clear his ok hk H hq
    go_enter Try.func24, Try.ntmps24
    go_wp2_with (refine wpList_val rfl (Rec.load_key kc KL.out rfl _ (b := bk) (k := 0) (H1.out.boxRange 1 rfl) rfl) ?_)
    refine (CG.out _ BW.out).mono ?_
    rintro e w2 ⟨rfl, h2⟩
    have H2 := Lib.hid (H1.out.later h2)
    clear h2 CG BW
    go_wp2_with (refine wpList_box2 boxy_ch rfl rfl rfl (.tmp 7) (.tmp 13) rfl rfl F (fun _ => rfl) (fun _ => rfl) FL.out FO.out H2.out ?_; intro b7 w3 h; have H3 := Lib.hid h; clear h)
    go_ret
    exact ⟨rfl, H3.out.drop 3⟩
  · have hf := getS_fit ok k
    obtain ⟨G, hG⟩ : ∃ G, G = ((F.set 33 (.int .i64 qs)).set 34 (.int .i64 qg)).set 35 (.int .i64 qn) := ⟨_, rfl⟩
    have eG : G = chC (wP (getS l k) ⟨qs, qg, qn⟩) := by rw [hG, HF.out]; exact chC_set3 hf.key qs qg qn
    have hfit : Fit (wP (getS l k) ⟨qs, qg, qn⟩) := ⟨hf.key, hq, hf.refs⟩
    have CP : Hid (∀ {Q : List Asn} (wx : World), Own.St B w0 wx (AS p l :: Q) → Calls Try.prog 35 #[ptr p, .agg G.toArray] wx fun e w' => e = .returned (.tuple #[]) ∧ Own.St B w0 w' (AS p (putS l (wP (getS l k) ⟨qs, qg, qn⟩)) :: Q)) := by
      rw [eG]
      exact fun {Q} wx h => put_any h ok hn hfit
    have GL : Hid (G.length = 37) := by show _ = _; rw [hG, List.length_set, List.length_set, List.length_set]; exact FL.out
    obtain ⟨os, hos⟩ : ∃ x, x = (getS l k).place.seg := ⟨_, rfl⟩
    obtain ⟨og, hog⟩ : ∃ x, x = (getS l k).place.page := ⟨_, rfl⟩
    obtain ⟨on, hon⟩ : ∃ x, x = (getS l k).place.pages := ⟨_, rfl⟩
    have F33 : Hid (F[33]? = some (iS os)) := by show _ = _; rw [HF.out, hos]; exact chC_rest hf.key 0
    have F34 : Hid (F[34]? = some (iS og)) := by show _ = _; rw [HF.out, hog]; exact chC_rest hf.key 1
    have F35 : Hid (F[35]? = some (iS on)) := by show _ = _; rw [HF.out, hon]; exact chC_rest hf.key 2
    have HG := Lib.hid hG
    rw [his] at CG
    rw [moveS_yes his]
    clear his ok hk H hf hG eG hfit hq hos hog hon
    go_enter Try.func24, Try.ntmps24
    go_wp2_with (refine wpList_val rfl (Rec.load_key kc KL.out rfl _ (b := bk) (k := 0) (H1.out.boxRange 1 rfl) rfl) ?_)
    refine (CG.out _ BW.out).mono ?_
    rintro e w2 ⟨rfl, h2⟩
    have H2 := Lib.hid (H1.out.later h2)
    clear h2 CG BW
    go_wp2_with (first
      | (refine wpList_box2 boxy_ch rfl rfl rfl (.tmp 7) (.tmp 13) rfl rfl F (fun _ => rfl) (fun _ => rfl) FL.out FO.out H2.out ?_; intro b7 w3 h; have q0 := (h.cellV 0 rfl 33 (v := .int .i64 os) F33.out).1; have q1 := (h.cellV 0 rfl 33 (v := .int .i64 os) F33.out).2; have q2 := (h.cellV 0 rfl 34 (v := .int .i64 og) F34.out).1; have q3 := (h.cellV 0 rfl 34 (v := .int .i64 og) F34.out).2; have q4 := (h.cellV 0 rfl 35 (v := .int .i64 on) F35.out).1; have q5 := (h.cellV 0 rfl 35 (v := .int .i64 on) F35.out).2; have d0 := (h.cellV 1 rfl 0 rfl).1; have d1 := (h.cellV 1 rfl 1 rfl).1; have d2 := (h.cellV 1 rfl 2 rfl).1; have SV := ((h.storeV 0 rfl 33 (.int .i64 qs)).storeV 0 rfl 34 (.int .i64 qg)).storeV 0 rfl 35 (.int .i64 qn); simp only [List.set_cons_zero] at SV; rw [← HG.out] at SV; have H4 := Lib.hid SV; clear h SV)
      | (refine wpList_val rfl (load_ch G GL.out rfl _ (b := b7) (k := 0) (H4.out.boxRange 0 rfl) rfl) ?_))
    refine (CP.out _ (H4.out.perm (rot3 _ _ _ _ _))).mono ?_
    rintro e w5 ⟨rfl, h5⟩
    have H5 := Lib.hid h5
    clear h5 CP
    go_wp2
    go_ret
    exact ⟨rfl, tail3 H5.out⟩
set_option maxRecDepth 10000 in
set_option maxHeartbeats 3200000 in
theorem unref_any (H : Own.St B w0 w (AS p l :: Ps)) (ok : Ok l) (hn : l.length ≤ 1000000) {k : Ky} (hk : FitK k) (hr : isAt l k = true → 1 ≤ (getS l k).refs) : Calls Try.prog 27 #[ptr p, kV k] w fun e w' => e = .returned (.tuple #[.bool (unrefS l k).2.1, errS (unrefS l k).2.2]) ∧ Own.St B w0 w' (AS p (unrefS l k).1 :: Ps) := by
  obtain ⟨kc, hkc⟩ : ∃ c, c = kC k := ⟨_, rfl⟩
  obtain ⟨F, hF⟩ : ∃ c, c = chC (getS l k) := ⟨_, rfl⟩
  have FL : Hid (F.length = 37) := by show _ = _; rw [hF]; exact chC_len (getS_fit ok k).key
  have FO : Hid (∀ u ∈ F, u.oneCell' = true) := by show ∀ u ∈ F, _; rw [hF]; exact chC_one _
  have KL : Hid (kc.length = 33) := by show _ = _; rw [hkc]; exact kC_len hk
  have CG : Hid (∀ wx, Below w.heap.size w wx → Calls Try.prog 18 #[ptr p, .agg kc.toArray] wx fun e w' => e = .returned (.tuple #[.agg F.toArray, .bool (isAt l k)]) ∧ Below wx.heap.size wx w') := by
    rw [hkc, hF]
    exact fun wx hwx => get_any (H.later hwx) ok hk
  have HF := Lib.hid hF
  have HK := Lib.hid hkc
  have OK := Lib.hid ok
  have FK := Lib.hid hk
  have hb1 := H.boxV 35 kc
  obtain ⟨bk, hbk⟩ : ∃ b, b = w.heap.size := ⟨_, rfl⟩
  obtain ⟨W1, hW1⟩ : ∃ W, W = w.alloc (.cells kc.toArray 35) := ⟨_, rfl⟩
  rw [← hW1, ← hbk] at hb1
  have H1 := Lib.hid hb1
  have E1 := hW1.symm
  have EK := hbk.symm
  have BW : Hid (Below w.heap.size w W1) := by rw [hW1]; exact ((Own.St.start w).alloc _).below
  show Calls Try.prog _ #[_, .agg (kC k).toArray] w _
  rw [← hkc]
  clear hF hb1 hbk hW1
  cases his : isAt l k
  · rw [his] at CG
    rw [unrefS_no his]
    clear his ok hk H hr hkc
    go_enter Try.func27, Try.ntmps27
    go_wp2_with (refine wpList_val rfl (Rec.load_key kc KL.out rfl _ (b := bk) (k := 0) (H1.out.boxRange 0 rfl) rfl) ?_)
    refine (CG.out _ BW.out).mono ?_
    rintro e w2 ⟨rfl, h2⟩
    have H2 := Lib.hid (H1.out.later h2)
    clear h2 CG BW
    go_wp2_with (refine wpList_box2 boxy_ch rfl rfl rfl (.tmp 6) (.tmp 12) rfl rfl F (fun _ => rfl) (fun _ => rfl) FL.out FO.out H2.out ?_; intro b7 w3 h; have H3 := Lib.hid h; clear h)
    go_ret2
    exact ⟨rfl, H3.out.drop 2⟩
  · have hr1 := hr his
    have hf := getS_fit ok k
    have hr2 : (getS l k).refs ≤ 9223372036854775807 := hf.refs.2
    obtain ⟨r, hrr⟩ : ∃ r, r = (getS l k).refs := ⟨_, rfl⟩
    obtain ⟨G, hG⟩ : ∃ G, G = F.set 36 (iS (r - 1)) := ⟨_, rfl⟩
    have eG : G = chC (wR (getS l k) ((getS l k).refs - 1)) := by rw [hG, HF.out, hrr]; exact chC_set_refs hf.key _
    have hfit : Fit (wR (getS l k) ((getS l k).refs - 1)) := ⟨hf.key, hf.place, ⟨by show -9223372036854775808 ≤ (getS l k).refs - 1; omega, by show (getS l k).refs - 1 ≤ 9223372036854775807; omega⟩⟩
    have CP : Hid (∀ {Q : List Asn} (wx : World), Own.St B w0 wx (AS p l :: Q) → Calls Try.prog 35 #[ptr p, .agg G.toArray] wx fun e w' => e = .returned (.tuple #[]) ∧ Own.St B w0 w' (AS p (putS l (wR (getS l k) ((getS l k).refs - 1))) :: Q)) := by
      rw [eG]
      exact fun {Q} wx h => put_any h ok hn hfit
    have GL : Hid (G.length = 37) := by show _ = _; rw [hG, List.length_set]; exact FL.out
    have F36 : Hid (F[36]? = some (iS r)) := by show _ = _; rw [HF.out, hrr]; exact chC_rest hf.key 3
    have HG := Lib.hid hG
    have DEL : Hid (∀ {Q : List Asn} (wx : World), Own.St B w0 wx (AS p l :: Q) → ∃ b, wx.cell? ⟨p, 0, none⟩ = some (.map (some b)) ∧ ∀ wy, Below wx.heap.size wx wy → wy.cell? ⟨p, 0, none⟩ = some (.map (some b)) ∧ ∀ ty, ∃ w', (Builtin.delete_ #[69, 35] ty #[.map (some b), .agg kc.toArray]).run Try.prog wy = .ok (.tuple #[]) w' ∧ Own.St B w0 w' (AS p (l.eraseIdx (posK k l)) :: Q)) := by
      intro Q wx h
      obtain ⟨m, hm, h2⟩ := as_open h
      cases m with
      | none => rw [hm rfl] at his; cases his
      | some b =>
        refine ⟨b, (h2.cellV 0 rfl 0 rfl).1, fun wy hwy => ⟨((h2.later hwy).cellV 0 rfl 0 rfl).1, fun ty => ?_⟩⟩
        obtain ⟨w', hr, h3⟩ := mapDelC (h2.later hwy) 1 rfl ok hk his ty
        rw [hkc]
        exact ⟨w', hr, as_close (m := some b) (fun h => by cases h) h3⟩
    rw [his] at CG
    rw [← hrr] at hr1 hr2
    have eW : IntKind.i64.wrap (r - 1) = r - 1 := by
      simp [IntKind.wrap, IntKind.bits, IntKind.signed]; omega
    by_cases hz : r - 1 = 0
    · have hz0 : ¬ (getS l k).refs - 1 > 0 := by rw [← hrr]; omega
      rw [unrefS_last his hz0]
      have hr3 : r = 1 := by omega
      subst hr3
      clear hz0 his ok hk H hr hf hrr hG eG hfit hkc hz eW hr1 hr2
      go_enter Try.func27, Try.ntmps27
      go_wp2_with (refine wpList_val rfl (Rec.load_key kc KL.out rfl _ (b := bk) (k := 0) (H1.out.boxRange 0 rfl) rfl) ?_)
      refine (CG.out _ BW.out).mono ?_
      rintro e w2 ⟨rfl, h2⟩
      have H2 := Lib.hid (H1.out.later h2)
      clear h2 CG BW
      go_wp2_with (refine wpList_box2 boxy_ch rfl rfl rfl (.tmp 6) (.tmp 12) rfl rfl F (fun _ => rfl) (fun _ => rfl) FL.out FO.out H2.out ?_; intro b7 w3 h; have q0 := (h.cellV 0 rfl 36 (v := .int .i64 1) F36.out).1; have q1 := (h.cellV 0 rfl 36 (v := .int .i64 1) F36.out).2; have SV := h.storeV 0 rfl 36 (.int .i64 0); simp only [List.set_cons_zero] at SV; have H4 := Lib.hid SV; clear h SV)
      obtain ⟨W4, hW4⟩ : ∃ W, W = w3.setCell ⟨b7, 36, none⟩ (.int .i64 0) := ⟨_, rfl⟩
      rw [← hW4] at H4 ⊢
      clear hW4 q0 q1
      obtain ⟨b, c0, D⟩ := DEL.out W4 (H4.out.perm (rot2 _ _ _ _))
      have HD := Lib.hid D
      clear D c0 DEL
      refine wp_laxW_list 5 (by kernel_rfl) (by kernel_rfl) (by kernel_rfl) (by kernel_rfl) (by kernel_rfl) ?_
      simp only [List.take_succ_cons, List.take_zero, List.drop_succ_cons, List.drop_zero]
      refine wpL_move (ptr p) rfl (by kernel_rfl) (by kernel_rfl) (by kernel_rfl) (by kernel_rfl) ?_
      refine wpL_run1 (x := .tmp 23) (ptr p) (ptr p) (by kernel_rfl) (by kernel_rfl) (by kernel_rfl) (by kernel_rfl) (by kernel_rfl) (fun wx ρ hwx h0 hc => by simp [go_sem, h0]) ?_
      refine wpL_run1 (x := .tmp 24) (ptr p) (ptr p) (by kernel_rfl) (by kernel_rfl) (by kernel_rfl) (by kernel_rfl) (by kernel_rfl) (fun wx ρ hwx h0 hc => fld_m rfl ρ wx h0) ?_
      refine wpL_run1 (x := .tmp 25) (ptr p) (.map (some b)) (by kernel_rfl) (by kernel_rfl) (by kernel_rfl) (by kernel_rfl) (by kernel_rfl) (fun wx ρ hwx h0 hc => ld_m rfl ρ (HD.out wx hwx).1 h0) ?_
      refine wpL_run1 (x := .tmp 3) (ptr bk) (.agg kc.toArray) (by kernel_rfl) (by kernel_rfl) (by kernel_rfl) (by kernel_rfl) (by kernel_rfl) (fun wx ρ hwx h0 hc => Rec.load_key kc KL.out rfl ρ ((H4.out.later hwx).boxRange 1 rfl) h0) ?_
      refine wpL_end (by kernel_rfl) (fun w4 hw4 => ?_)
      simp only [FinL, setL, List.set_cons_zero, List.set_cons_succ]
      intro _
      obtain ⟨w5, e5, h5⟩ := (HD.out w4 hw4).2 0
      have E5 := Lib.hid e5
      have H5 := Lib.hid h5
      clear h5 hw4 e5 HD H4
      go_wp2_with (refine wpList_del rfl (.tmp 26) (.tmp 27) rfl rfl rfl E5.out ?_)
      go_ret2
      exact ⟨rfl, tail2 H5.out⟩
    · have hz0 : (getS l k).refs - 1 > 0 := by rw [← hrr]; omega
      rw [unrefS_more his hz0]
      have hzb : ((r - 1) == 0) = false := by simp; omega
      clear hz0 his ok hk H hr hf hrr hG eG hfit hkc DEL
      go_enter Try.func27, Try.ntmps27
      go_wp2_with (refine wpList_val rfl (Rec.load_key kc KL.out rfl _ (b := bk) (k := 0) (H1.out.boxRange 0 rfl) rfl) ?_)
      refine (CG.out _ BW.out).mono ?_
      rintro e w2 ⟨rfl, h2⟩
      have H2 := Lib.hid (H1.out.later h2)
      clear h2 CG BW
      go_wp2_with (first
        | (refine wpList_box2 boxy_ch rfl rfl rfl (.tmp 6) (.tmp 12) rfl rfl F (fun _ => rfl) (fun _ => rfl) FL.out FO.out H2.out ?_; intro b7 w3 h; have q0 := (h.cellV 0 rfl 36 (v := .int .i64 r) F36.out).1; have q1 := (h.cellV 0 rfl 36 (v := .int .i64 r) F36.out).2; have SV := h.storeV 0 rfl 36 (.int .i64 (r - 1)); simp only [List.set_cons_zero] at SV; rw [← HG.out] at SV; have H4 := Lib.hid SV; clear h SV)
        | (refine wpList_val rfl (load_ch G GL.out rfl _ (b := b7) (k := 0) (H4.out.boxRange 0 rfl) rfl) ?_))
      refine (CP.out _ (H4.out.perm (rot2 _ _ _ _))).mono ?_
      rintro e w5 ⟨rfl, h5⟩
      have H5 := Lib.hid h5
      clear h5 CP
      go_wp2
      go_ret2
      exact ⟨rfl, tail2 H5.out⟩
end
end Sto
end Go.Proofs.Ytcfdjoohbicomaa

end
section
namespace Go.Proofs.Ytcfdjoohbicomaa
open Go.RowKit Go.Own
namespace Sto
open Go.StoM Byt
/-- cmp.Compare of two numbers -/
def cmpZ (x y : Int) : Int := if x < y then -1 else if y < x then 1 else 0
def orZ (a b : Int) : Int := if a = 0 then b else a
def cmpB (a b : List UInt8) : Int := if ltB a b then -1 else if ltB b a then 1 else 0
theorem ltB_cons (x y : UInt8) (a b : List UInt8) : ltB (x :: a) (y :: b) = (decide (x.toNat < y.toNat) || (decide (x.toNat = y.toNat) && ltB a b)) := rfl
theorem cmpB_is : ∀ a b : List UInt8, Lib.compareBytes a b = cmpB a b
  | [], [] => rfl
  | [], _ :: _ => rfl
  | _ :: _, [] => rfl
  | x :: a, y :: b => by
    unfold Lib.compareBytes
    rw [cmpB_is a b]
    unfold cmpB
    rw [ltB_cons, ltB_cons]
    have e1 : (x < y) ↔ x.toNat < y.toNat := UInt8.lt_iff_toNat_lt
    have e2 : (y < x) ↔ y.toNat < x.toNat := UInt8.lt_iff_toNat_lt
    by_cases h1 : x.toNat < y.toNat
    · rw [if_pos (e1.2 h1)]
      simp [h1]
    · rw [if_neg (fun h => h1 (e1.1 h))]
      by_cases h2 : y.toNat < x.toNat
      · rw [if_pos (e2.2 h2)]
        have : ¬ x.toNat = y.toNat := by omega
        simp [h1, h2, this]
      · rw [if_neg (fun h => h2 (e2.1 h))]
        have e : x.toNat = y.toNat := by omega
        simp [e]
theorem cmp32 (x y : Nat) (w : World) : Calls Try.prog 48 #[.int .u32 (x : Int), .int .u32 (y : Int)] w fun e w' => e = .returned (.int .i64 (cmpZ x y)) ∧ w' = w := by
  unfold cmpZ
  by_cases h1 : (x : Int) < (y : Int)
  · rw [if_pos h1]
    go_enter Try.func48, Try.ntmps48
    go_wp2
    go_ret
    exact ⟨rfl, rfl⟩
  · rw [if_neg h1]
    by_cases h2 : (y : Int) < (x : Int)
    · rw [if_pos h2]
      go_enter Try.func48, Try.ntmps48
      go_wp2
      go_ret
      exact ⟨rfl, rfl⟩
    · rw [if_neg h2]
      go_enter Try.func48, Try.ntmps48
      go_wp2
      go_ret
      exact ⟨rfl, rfl⟩
set_option maxHeartbeats 1600000 in
/-- the first that is not 0 -/
theorem or_two (a b : Int) (w : World) (g : Nat) (c0 : w.cell? ⟨g, 0, none⟩ = some (.int .i64 a)) (c1 : w.cell? ⟨g, 1, none⟩ = some (.int .i64 b)) : Calls Try.prog 45 #[.slice (some ⟨g, 0, none⟩) 2 2] w fun e w' => e = .returned (.int .i64 (orZ a b)) ∧ w' = w := by
  have d0 : decide ((0 : Int) < 2) = true := rfl
  unfold orZ
  by_cases ha : a = 0
  · subst ha
    rw [if_pos rfl]
    by_cases hb : b = 0
    · subst hb
      go_enter Try.func45, Try.ntmps45
      go_wp2
      go_loopw [8] (fun v8 wr => ∃ i : Nat, i ≤ 2 ∧ v8 = .int .i64 (i : Int) ∧ wr = w) (fun v8 _ => 2 - (intOf v8).toNat)
      case atStart => exact ⟨0, by omega, rfl, rfl⟩
      case round =>
        obtain ⟨i, hi, rfl, rfl⟩ := hrel
        rcases (show i = 0 ∨ i = 1 ∨ i = 2 by omega) with rfl | rfl | rfl
        · go_wp2
          go_roundw
          case rel => exact ⟨1, by omega, by go_num, (by first | rfl | trivial)⟩
          case measure => simp [intOf]
        · go_wp2
          go_roundw
          case rel => exact ⟨2, by omega, by go_num, (by first | rfl | trivial)⟩
          case measure => simp [intOf]
        · go_wp2
          go_ret
          exact ⟨rfl, rfl⟩
    · have hbb : (b == 0) = false := by simp [hb]
      have hbn : (b != 0) = true := by simp [hb]
      go_enter Try.func45, Try.ntmps45
      go_wp2
      go_loopw [8] (fun v8 wr => ∃ i : Nat, i ≤ 1 ∧ v8 = .int .i64 (i : Int) ∧ wr = w) (fun v8 _ => 2 - (intOf v8).toNat)
      case atStart => exact ⟨0, by omega, rfl, rfl⟩
      case round =>
        obtain ⟨i, hi, rfl, rfl⟩ := hrel
        rcases (show i = 0 ∨ i = 1 by omega) with rfl | rfl
        · go_wp2
          go_roundw
          case rel => exact ⟨1, by omega, by go_num, (by first | rfl | trivial)⟩
          case measure => simp [intOf]
        · go_wp2
          go_ret
          exact ⟨rfl, rfl⟩
  · rw [if_neg ha]
    have haa : (a == 0) = false := by simp [ha]
    have han : (a != 0) = true := by simp [ha]
    go_enter Try.func45, Try.ntmps45
    go_wp2
    go_loopw [8] (fun v8 wr => v8 = .int .i64 0 ∧ wr = w) (fun v8 _ => 2 - (intOf v8).toNat)
    case atStart => exact ⟨rfl, rfl⟩
    case round =>
      obtain ⟨rfl, rfl⟩ := hrel
      go_wp2
      go_ret
      exact ⟨rfl, rfl⟩
/-- bytes in memory -/
theorem load_bytes {P : Program} {w : World} {b : Nat} {s : List UInt8} (h : ∀ j u, (s.map byteV)[j]? = some u → w.cell? ⟨b, j, none⟩ = some u) : (Extern.Bytes.bytesOf (.slice (some ⟨b, 0, none⟩) s.length s.length)).run P w = .ok (strB s) w := by
  have hl := Lib.run_loadBytesX (P := P) w (s.map fun x => (x.toNat : Int)) ⟨b, 0, none⟩ .empty (fun j x hj => by
    rw [List.getElem?_map] at hj
    obtain ⟨c, hc, rfl⟩ := Option.map_eq_some_iff.1 hj
    rw [add_of, Nat.zero_add]
    exact h j _ (by rw [List.getElem?_map, hc]; rfl))
  rw [List.length_map] at hl
  have e : (⟨ByteArray.empty.data ++ (Lib.bytesOf (s.map fun x => (x.toNat : Int))).toArray⟩ : ByteArray) = strB s := by
    apply ByteArray.ext
    show (#[] : Array UInt8) ++ _ = (strB s).data
    simp [Lib.bytesOf, strB, Function.comp_def]
  rw [e] at hl
  simp only [Extern.Bytes.bytesOf]
  exact hl
theorem run_compareS {P : Program} {w : World} {b1 b2 : Nat} {s1 s2 : List UInt8} (h1 : ∀ j u, (s1.map byteV)[j]? = some u → w.cell? ⟨b1, j, none⟩ = some u) (h2 : ∀ j u, (s2.map byteV)[j]? = some u → w.cell? ⟨b2, j, none⟩ = some u) (l1 : s1.length = 32) (l2 : s2.length = 32) :
    (Extern.BytealgCompare.compare #[.slice (some ⟨b1, 0, none⟩) 32 32, .slice (some ⟨b2, 0, none⟩) 32 32]).run P w = .ok (.int .i64 (cmpB s1 s2)) w := by
  have g1 := load_bytes (P := P) h1
  have g2 := load_bytes (P := P) h2
  rw [l1] at g1
  rw [l2] at g2
  change Sem.run P (do pure (goInt (Extern.BytealgCompare.cmp (← Extern.Bytes.bytesOf (.slice (some ⟨b1, 0, none⟩) 32 32)) (← Extern.Bytes.bytesOf (.slice (some ⟨b2, 0, none⟩) 32 32))))) w = _
  simp only [Sem.run_bind, g1, g2, Result.andThen, Sem.run_pure]
  rw [Lib.cmp_eq]
  show Result.ok (goInt (Lib.compareBytes s1 s2)) w = _
  rw [cmpB_is]
  rfl
set_option maxHeartbeats 1000000 in
theorem bytesCmp {w : World} {b1 b2 : Nat} {s1 s2 : List UInt8} (h1 : ∀ j u, (s1.map byteV)[j]? = some u → w.cell? ⟨b1, j, none⟩ = some u) (h2 : ∀ j u, (s2.map byteV)[j]? = some u → w.cell? ⟨b2, j, none⟩ = some u) (l1 : s1.length = 32) (l2 : s2.length = 32) :
    Calls Try.prog 47 #[.slice (some ⟨b1, 0, none⟩) 32 32, .slice (some ⟨b2, 0, none⟩) 32 32] w fun e w' => e = .returned (.int .i64 (cmpB s1 s2)) ∧ w' = w := by
  have R := Lib.hid (run_compareS (P := Try.prog) h1 h2 l1 l2)
  obtain ⟨x, hx⟩ : ∃ x, x = cmpB s1 s2 := ⟨_, rfl⟩
  rw [← hx] at R ⊢
  clear hx h1 h2
  go_enter Try.func47, Try.ntmps47
  go_wp2
  rw [run_callFunc_extern Try.func52 (by kernel_rfl) (by kernel_rfl) (by kernel_rfl) (e := Extern.BytealgCompare.compare) (by kernel_rfl), R.out]
  simp only [Result.andThen]
  rw [Oper.upon_value]
  go_wp2
  go_ret
  exact ⟨rfl, rfl⟩
def keyCmp (a b : Ky) : Int := orZ (cmpB a.sum b.sum) (cmpZ a.n b.n)
end Sto
end Go.Proofs.Ytcfdjoohbicomaa

end
section
namespace Go.Own.Grn
open Go.RowKit Go.Own Go.Sort
structure Grw (w w' : World) : Prop where
  below : Below w.heap.size w w'
  drawn : w.drawn ≤ w'.drawn
theorem Grw.refl (w : World) : Grw w w := ⟨Below.refl _ _, Nat.le_refl _⟩
theorem Grw.trans {a b c : World} (h : Grw a b) (g : Grw b c) : Grw a c := ⟨h.below.trans (g.below.mono h.below.size), Nat.le_trans h.drawn g.drawn⟩
theorem Grw.draw (w : World) : Grw w { w with drawn := w.drawn + 1 } := ⟨⟨rfl, rfl, rfl, Nat.le_refl _, fun _ _ => rfl⟩, Nat.le_succ _⟩
theorem Grw.is {w w' : World} (h : Grw w w') : ∃ q os, w' = grow (w.drewN q) os := by
  refine ⟨w'.drawn - w.drawn, w'.heap.extract w.heap.size w'.heap.size, ?_⟩
  have hd := h.drawn
  have hh : w'.heap = w.heap ++ w'.heap.extract w.heap.size w'.heap.size := by
    have hs := h.below.size
    apply Array.ext_getElem?
    intro i
    by_cases hi : i < w.heap.size
    · rw [Array.getElem?_append_left hi]; exact h.below.block i hi
    · rw [Array.getElem?_append_right (by omega), Array.getElem?_extract]
      by_cases h2 : i < w'.heap.size
      · rw [if_pos (by omega)]; congr 1; omega
      · rw [if_neg (by omega), Array.getElem?_eq_none (by omega)]
  obtain ⟨h1, h2, h3, h4, h5⟩ := w'
  simp only [grow, World.drewN, World.mk.injEq]
  refine ⟨hh, h.below.tape, ?_, h.below.os, h.below.output⟩
  simp only at hd ⊢
  omega
section
variable {P : Program} {ops : Array Oper} {C : World → Prop}

/-- an operation gives what R says, wherever it is carried out -/
def Gives (P : Program) (ops : Array Oper) (C : World → Prop) (o : Oper) (I : Lx) (a : Act) (R : Ty) : Prop :=
  ∀ a1 w, C w → (∀ t ∈ o.looksAt ops, slotIs I a t (a1.tmps.getD t undef) w) → ∀ (K : Act → World → Prop) (Q : Exit → Act → World → Prop),
    (∀ v w', R.holds v w' → Grw w w' → K (a1.put o.dst v) w') → o.wp P a1 w K Q

inductive StepT (P : Program) (ops : Array Oper) (C : World → Prop) (o : Oper) : Lx → Act → Lx → Act → Prop
  | skip {I a} (hg : guardKnown ops o I = true) (hw : Region.wanted o (yielded ops a.tmps) = false) : StepT P ops C o I a I (a.put o.dst undef)
  | val {I a} (v : Value) (hg : guardKnown ops o I = true) (hw : Region.wanted o (yielded ops a.tmps) = true) (h : Gives P ops C o I a (Ty.is v)) : StepT P ops C o I a I (a.put o.dst v)
  | ty {I a} (d : Tmp) (R : Ty) (hd : o.dst = some d) (hg : guardKnown ops o I = true) (hw : Region.wanted o (yielded ops a.tmps) = true) (h : Gives P ops C o I a R) : StepT P ops C o I a ((d, R) :: I) a

/-- THE WALK, in the order of the text -/
def wpT (P : Program) (ops : Array Oper) (C : World → Prop) (Q : Act → World → Prop) : List Oper → Lx → Act → Prop
  | [], I, a => ∀ a1 w1, Rep C I a a1 w1 → Q a1 w1
  | o :: rest, I, a => ∃ I' a', StepT P ops C o I a I' a' ∧ wpT P ops C Q rest I' a'

theorem wpT_path {Q : Act → World → Prop} : ∀ (l : List Oper) (I : Lx) (a : Act), wpT P ops C Q l I a →
    ∃ S : Nat → Lx × Act, S 0 = (I, a) ∧ (∀ k o, l[k]? = some o → StepT P ops C o (S k).1 (S k).2 (S (k + 1)).1 (S (k + 1)).2) ∧ ∀ a1 w1, Rep C (S l.length).1 (S l.length).2 a1 w1 → Q a1 w1
  | [], I, a, h => ⟨fun _ => (I, a), rfl, fun k o hk => by simp at hk, h⟩
  | o :: rest, I, a, ⟨I', a', h1, h2⟩ => by
    obtain ⟨S, g0, g1, g2⟩ := wpT_path rest I' a' h2
    refine ⟨fun k => match k with | 0 => (I, a) | k + 1 => S k, rfl, fun k o' hk => ?_, fun a1 w1 hr => g2 a1 w1 (by simpa using hr)⟩
    cases k with
    | zero =>
      obtain rfl : o = o' := by simpa using hk
      show StepT P ops C o I a (S 0).1 (S 0).2
      rw [g0]; exact h1
    | succ k => exact g1 k o' (by simpa using hk)

theorem StepT.size {o : Oper} {I I' : Lx} {a a' : Act} (h : StepT P ops C o I a I' a') : a'.tmps.size = a.tmps.size ∧ a'.defers = a.defers := by
  cases h
  · exact ⟨put_size _ _ _, put_defers _ _ _⟩
  · exact ⟨put_size _ _ _, put_defers _ _ _⟩
  · exact ⟨rfl, rfl⟩

/-- a slot that the operation does not write stays -/
theorem StepT.other {o : Oper} {I I' : Lx} {a a' : Act} (h : StepT P ops C o I a I' a') {t : Tmp} (hin : ∀ d, o.dst = some d → d < a.tmps.size) (ht : o.dst ≠ some t) (v : Value) (w : World) : slotIs I' a' t v w ↔ slotIs I a t v w := by
  have hput : ∀ u, (a.put o.dst u).tmps.getD t undef = a.tmps.getD t undef := by
    intro u
    cases hd : o.dst with
    | none => rfl
    | some d => rw [put_getD a d t u (hin d hd), if_neg (fun e => ht (by rw [hd, e]))]
  cases h
  · unfold slotIs; rw [hput]
  · unfold slotIs; rw [hput]
  · rename_i d R hd hg hw h
    unfold slotIs
    rw [List.lookup_cons]
    have : (t == d) = false := by simp; intro e; exact ht (by rw [hd, e])
    simp only [this]

theorem path_sizes {a0 : Act} {S : Nat → Lx × Act} (hS0 : S 0 = ([], a0)) {n : Nat} (hn : n ≤ ops.size) (hst : ∀ (k : Nat) (o : Oper), k < n → ops[k]? = some o → StepT P ops C o (S k).1 (S k).2 (S (k + 1)).1 (S (k + 1)).2) :
    ∀ k, k ≤ n → (S k).2.tmps.size = a0.tmps.size ∧ (S k).2.defers = a0.defers
  | 0, _ => by rw [hS0]; exact ⟨rfl, rfl⟩
  | k + 1, hk => by
    have h := path_sizes hS0 hn hst k (by omega)
    have g := (hst k ops[k] (by omega) (Array.getElem?_eq_getElem (by omega))).size
    exact ⟨g.1.trans h.1, g.2.trans h.2⟩

theorem path_other {a0 : Act} {S : Nat → Lx × Act} (hS0 : S 0 = ([], a0)) {n : Nat} (hn : n ≤ ops.size) (hst : ∀ (k : Nat) (o : Oper), k < n → ops[k]? = some o → StepT P ops C o (S k).1 (S k).2 (S (k + 1)).1 (S (k + 1)).2)
    (hin : ∀ (k : Nat) (o : Oper) (d : Tmp), ops[k]? = some o → o.dst = some d → d < a0.tmps.size) {t : Tmp} (v : Value) (w : World) (m : Nat) :
    ∀ q, m + q ≤ n → (∀ j oj, m ≤ j → j < m + q → ops[j]? = some oj → oj.dst ≠ some t) → (slotIs (S (m + q)).1 (S (m + q)).2 t v w ↔ slotIs (S m).1 (S m).2 t v w)
  | 0, _, _ => Iff.rfl
  | q + 1, hq, hno => by
    have ih := path_other hS0 hn hst hin (t := t) v w m q (by omega) (fun j oj h1 h2 => hno j oj h1 (by omega))
    have hk : ops[m + q]? = some ops[m + q] := Array.getElem?_eq_getElem (by omega)
    have hs := path_sizes hS0 hn hst (m + q) (by omega)
    exact ((hst (m + q) _ (by omega) hk).other (fun d hd => by rw [hs.1]; exact hin _ _ d hk hd) (hno (m + q) _ (by omega) (by omega) hk) v w).trans ih

theorem path_keys {a0 : Act} {S : Nat → Lx × Act} (hS0 : S 0 = ([], a0)) {n : Nat} (hn : n ≤ ops.size) (hst : ∀ (k : Nat) (o : Oper), k < n → ops[k]? = some o → StepT P ops C o (S k).1 (S k).2 (S (k + 1)).1 (S (k + 1)).2) {t : Tmp} :
    ∀ k, k ≤ n → (∀ (j : Nat) (oj : Oper), j < k → ops[j]? = some oj → oj.dst ≠ some t) → (S k).1.lookup t = none
  | 0, _, _ => by rw [hS0]; rfl
  | k + 1, hk, hno => by
    have ih := path_keys hS0 hn hst k (by omega) (fun j oj h1 h2 => hno j oj (by omega) h2)
    have hs := hst k ops[k] (by omega) (Array.getElem?_eq_getElem (by omega))
    have hd := hno k ops[k] (by omega) (Array.getElem?_eq_getElem (by omega))
    generalize S k = si at *
    generalize S (k + 1) = sj at *
    obtain ⟨Ii, ai⟩ := si
    obtain ⟨Ij, aj⟩ := sj
    cases hs with
    | skip => exact ih
    | val => exact ih
    | ty d R hdd =>
      show List.lookup t ((d, R) :: Ii) = none
      rw [List.lookup_cons]
      have : (t == d) = false := by simp; intro e; exact hd (by rw [hdd, e])
      simp only [this]
      exact ih

/-- WHATEVER ORDER IS DRAWN -/
theorem wpAny_lax {md : Region.Mode} {Q' : Exit → Act → World → Prop} (hC : ∀ w w', C w → Grw w w' → C w') {a0 : Act} {S : Nat → Lx × Act} (hS0 : S 0 = ([], a0))
    {n : Nat} (hn : n ≤ ops.size) (hst : ∀ (k : Nat) (o : Oper), k < n → ops[k]? = some o → StepT P ops C o (S k).1 (S k).2 (S (k + 1)).1 (S (k + 1)).2)
    (hin : ∀ (k : Nat) (o : Oper) (d : Tmp), ops[k]? = some o → o.dst = some d → d < a0.tmps.size)
    (hone : ∀ (j k : Nat) (x y : Oper) (d : Tmp), ops[j]? = some x → ops[k]? = some y → x.dst = some d → y.dst = some d → j = k)
    (hlex : ∀ (i : Nat) (oi : Oper), ops[i]? = some oi → (∀ e ∈ oi.after, Region.binds md e = true → e.on < i) ∧ ∀ j oj, i < j → ops[j]? = some oj → (∃ e ∈ oj.after, Region.binds md e = true ∧ e.on = i) ∨ oi.apart ops oj = true)
    (hwait : ∀ (i : Nat) (oi : Oper), n ≤ i → ops[i]? = some oi → ∀ j, j < n → ∃ e ∈ oi.after, Region.binds md e = true ∧ e.on = j)
    (hfin : ∀ (fuel : Nat) (listed : Array Bool) (a1 : Act) (w1 : World), (∃ s, (List.range ops.size).filter (fun i => !listed.getD i true) = s ∧ s.length = fuel) → listed.size = ops.size → (∀ i, i < n → listed.getD i true = true) → (∀ j, n ≤ j → j < ops.size → listed.getD j true = false) → Rep C (S n).1 (S n).2 a1 w1 → wpAny P md ops Q' fuel listed a1 w1) :
    ∀ (fuel : Nat) (listed : Array Bool) (a1 : Act) (w1 : World), (∃ s, (List.range ops.size).filter (fun i => !listed.getD i true) = s ∧ s.length = fuel) → RunInv md n ops C a0 S listed a1 w1 → wpAny P md ops Q' fuel listed a1 w1 := by
  -- all that is not listed: none is ready only if none is left
  have hready : ∀ listed : Array Bool, listed.size = ops.size → Region.ready md ops listed = [] → ∀ i, i < ops.size → listed.getD i true = true := by
    intro listed hls hr i
    induction i using Nat.strongRecOn with
    | _ i ih =>
      intro hi
      rcases hb : listed.getD i true with _ | _
      · exfalso
        have : i ∈ Region.ready md ops listed := by
          refine mem_ready.2 ⟨hb, ops[i], Array.getElem?_eq_getElem hi, fun e he hbd => ?_⟩
          have h1 := (hlex i _ (Array.getElem?_eq_getElem hi)).1 e he hbd
          have h2 := ih e.on h1 (by omega)
          have h3 : e.on < listed.size := by omega
          simpa [h3] using h2
        rw [hr] at this
        cases this
      · rfl
  have hend : ∀ (fuel : Nat) (listed : Array Bool) (a1 : Act) (w1 : World), (∃ s, (List.range ops.size).filter (fun i => !listed.getD i true) = s ∧ s.length = fuel) → RunInv md n ops C a0 S listed a1 w1 → (∀ i, i < n → listed.getD i true = true) → wpAny P md ops Q' fuel listed a1 w1 := by
    intro fuel listed a1 w1 hcnt hI hall
    have hsz := path_sizes hS0 hn hst n (Nat.le_refl _)
    refine hfin fuel listed a1 w1 hcnt hI.lsize hall hI.tail ⟨hI.world, hI.defers.trans hsz.2.symm, hI.size.trans hsz.1.symm, fun t => ?_⟩
    by_cases hw : ∃ (j : Nat) (oj : Oper), j < n ∧ ops[j]? = some oj ∧ oj.dst = some t
    · obtain ⟨j, oj, hjn, hj, hd⟩ := hw
      have hjl := (Array.getElem?_eq_some_iff.1 hj).1
      have hl : listed.getD j false = true := by
        have h1 := hall j hjn
        have h2 : j < listed.size := by rw [hI.lsize]; exact hjl
        simpa [h2] using h1
      have h1 := hI.done j oj t hj hl hd
      have h2 := path_other hS0 hn hst hin (t := t) (a1.tmps.getD t undef) w1 (j + 1) (n - (j + 1)) (by omega) (fun i oi h1 h2 hi hdi => by
        have := hone i j oi oj t hi hj hdi hd; omega)
      rw [show j + 1 + (n - (j + 1)) = n by omega] at h2
      exact h2.2 h1
    · have h1 := hI.rest t (fun j oj hj hl hd => by
        by_cases hjn : j < n
        · exact hw ⟨j, oj, hjn, hj, hd⟩
        · have hjl := (Array.getElem?_eq_some_iff.1 hj).1
          have := hI.tail j (by omega) hjl
          have h2 : j < listed.size := by rw [hI.lsize]; exact hjl
          simp [h2] at this hl
          rw [this] at hl; cases hl)
      have h2 := path_other hS0 hn hst hin (t := t) (a1.tmps.getD t undef) w1 0 n (by omega) (fun j oj _ h2 hj hd => hw ⟨j, oj, by omega, hj, hd⟩)
      rw [Nat.zero_add] at h2
      exact h2.2 ((slot0 hS0 t _ w1).2 h1)
  intro fuel
  induction fuel with
  | zero =>
    rintro listed a1 w1 ⟨s, hs, hlen⟩ hI
    refine hend 0 listed a1 w1 ⟨s, hs, hlen⟩ hI (fun i hi => ?_)
    have hnil : s = [] := List.eq_nil_of_length_eq_zero hlen
    subst hnil
    have := List.filter_eq_nil_iff.1 hs i (List.mem_range.2 (by omega))
    simpa using this
  | succ fuel ih =>
    rintro listed a1 w1 ⟨s, hs, hlen⟩ hI
    by_cases hdone : ∀ i, i < n → listed.getD i true = true
    · exact hend (fuel + 1) listed a1 w1 ⟨s, hs, hlen⟩ hI hdone
    refine ⟨fun h0 => absurd (fun i hi => hready listed hI.lsize h0 i (by omega)) hdone, fun i hi => ?_⟩
    obtain ⟨hun, oi, hoi, hall⟩ := mem_ready.1 hi
    have hin' : i < n := by
      rcases Nat.lt_or_ge i n with h | h
      · exact h
      · exfalso
        refine hdone (fun j hj => ?_)
        obtain ⟨e, he, hb, heq⟩ := hwait i oi h hoi j hj
        have h1 := hall e he hb
        rw [heq] at h1
        have h2 : j < listed.size := by rw [hI.lsize]; omega
        simpa [h2] using h1
    have hil := (Array.getElem?_eq_some_iff.1 hoi).1
    have hill : i < listed.size := by rw [hI.lsize]; exact hil
    have hunf : listed.getD i false = false := by simpa [hill] using hun
    have hcount : ∃ s', (List.range ops.size).filter (fun j => !(listed.setIfInBounds i true).getD j true) = s' ∧ s'.length = fuel := by
      refine ⟨_, rfl, ?_⟩
      have hn : (List.range ops.size).Nodup := List.nodup_range
      have e : (List.range ops.size).filter (fun j => !(listed.setIfInBounds i true).getD j true) = ((List.range ops.size).filter fun j => !listed.getD j true).erase i := by
        rw [List.Nodup.erase_eq_filter (List.Pairwise.filter _ hn), List.filter_filter]
        apply List.filter_congr
        intro j hj
        by_cases hji : j = i
        · subst hji; simp [hill]
        · rw [getD_set_ne true (Ne.symm hji)]; simp [hji]
      rw [e, List.length_erase_of_mem (List.mem_filter.2 ⟨List.mem_range.2 hil, by simp only [hun]; rfl⟩), hs, hlen]
      rfl
    -- what the operation looks at is as the walk had it
    have hlook : ∀ t ∈ oi.looksAt ops, slotIs (S i).1 (S i).2 t (a1.tmps.getD t undef) w1 := by
      intro t ht
      have hback : (∀ (j : Nat) (oj : Oper), ops[j]? = some oj → oj.dst = some t → i ≤ j) → (∀ (j : Nat) (oj : Oper), ops[j]? = some oj → oj.dst = some t → listed.getD j false = false) → slotIs (S i).1 (S i).2 t (a1.tmps.getD t undef) w1 := by
        intro h1 h2
        have h3 := path_other hS0 hn hst hin (t := t) (a1.tmps.getD t undef) w1 0 i (by omega) (fun j oj _ hj ho hd => by have := h1 j oj ho hd; omega)
        rw [Nat.zero_add] at h3
        refine h3.2 ((slot0 hS0 t _ w1).2 (hI.rest t (fun j oj hj hl hd => ?_)))
        rw [h2 j oj hj hd] at hl; cases hl
      by_cases hw : ∃ (j : Nat) (oj : Oper), ops[j]? = some oj ∧ oj.dst = some t
      · obtain ⟨j, oj, hj, hd⟩ := hw
        have huniq : ∀ (j' : Nat) (oj' : Oper), ops[j']? = some oj' → oj'.dst = some t → j' = j := fun j' oj' h1 h2 => hone j' j oj' oj t h1 hj h2 hd
        rcases Nat.lt_trichotomy j i with hji | hji | hji
        · rcases (hlex j oj hj).2 i oi hji hoi with ⟨e, he, hb, heq⟩ | hap
          · have hl : listed.getD j false = true := by rw [← heq]; exact hall e he hb
            have h1 := hI.done j oj t hj hl hd
            have h2 := path_other hS0 hn hst hin (t := t) (a1.tmps.getD t undef) w1 (j + 1) (i - (j + 1)) (by omega) (fun j' oj' h1 _ h3 h4 => by have := huniq j' oj' h3 h4; omega)
            rw [show j + 1 + (i - (j + 1)) = i by omega] at h2
            exact h2.2 h1
          · exact absurd ht ((Oper.apart_spec hap).1 t hd)
        · subst hji
          refine hback (fun j' oj' h1 h2 => by have := huniq j' oj' h1 h2; omega) (fun j' oj' h1 h2 => by rw [huniq j' oj' h1 h2]; exact hunf)
        · rcases (hlex i oi hoi).2 j oj hji hj with ⟨e, he, hb, heq⟩ | hap
          · refine hback (fun j' oj' h1 h2 => by have := huniq j' oj' h1 h2; omega) (fun j' oj' h1 h2 => ?_)
            rw [huniq j' oj' h1 h2]
            rcases hlj : listed.getD j false with _ | _
            · rfl
            · have := hI.closed j oj hj hlj e he hb
              rw [heq, hunf] at this; cases this
          · exact absurd ht ((Oper.apart_spec hap).2.2 t hd)
      · exact hback (fun j oj h1 h2 => absurd ⟨j, oj, h1, h2⟩ hw) (fun j oj h1 h2 => absurd ⟨j, oj, h1, h2⟩ hw)
    have hsz := path_sizes hS0 hn hst i (by omega)
    have hsame : a1.tmps.size = (S i).2.tmps.size := hI.size.trans hsz.1.symm
    -- behind it
    have hnext : ∀ (v : Value) (w' : World), (∀ d, oi.dst = some d → slotIs (S (i + 1)).1 (S (i + 1)).2 d v w') → Grw w1 w' → RunInv md n ops C a0 S (listed.setIfInBounds i true) (a1.put oi.dst v) w' := by
      intro v w' hv hb
      have hget : ∀ t, oi.dst ≠ some t → (a1.put oi.dst v).tmps.getD t undef = a1.tmps.getD t undef := by
        intro t ht
        cases hd : oi.dst with
        | none => rfl
        | some d => rw [put_getD a1 d t v (by rw [hI.size]; exact hin i oi d hoi hd), if_neg (fun e => ht (by rw [hd, e]))]
      have hlist : ∀ j, (listed.setIfInBounds i true).getD j false = true → j = i ∨ listed.getD j false = true := by
        intro j hj
        by_cases hji : j = i
        · exact .inl hji
        · rw [getD_set_ne false (Ne.symm hji)] at hj; exact .inr hj
      refine ⟨hC _ _ hI.world hb, (put_defers _ _ _).trans hI.defers, (put_size _ _ _).trans hI.size, by simpa using hI.lsize, fun j oj hj hl e he hbd => ?_, fun j hnj hjl => ?_, fun j oj d hj hl hd => ?_, fun t ht => ?_⟩
      · rcases hlist j hl with rfl | hl
        · obtain rfl : oj = oi := by rw [hoi] at hj; simpa using hj.symm
          exact getD_set_true (hall e he hbd)
        · exact getD_set_true (hI.closed j oj hj hl e he hbd)
      · rw [getD_set_ne true (by omega)]; exact hI.tail _ hnj hjl
      · rcases hlist j hl with rfl | hl
        · obtain rfl : oj = oi := by rw [hoi] at hj; simpa using hj.symm
          rw [hd, put_getD a1 d d v (by rw [hI.size]; exact hin j oj d hj hd), if_pos rfl]
          exact hv d hd
        · have hne : oi.dst ≠ some d := by
            intro h
            have := hone i j oi oj d hoi hj h hd
            subst this
            rw [hunf] at hl; cases hl
          rw [hget d hne]
          exact (hI.done j oj d hj hl hd).keep hb.below
      · have hne : oi.dst ≠ some t := ht i oi hoi (by simp [hill])
        rw [hget t hne]
        exact hI.rest t (fun j oj hj hl => ht j oj hj (getD_set_true hl))
    have hkey : ∀ d, oi.dst = some d → (S i).1.lookup d = none := fun d hd => path_keys hS0 hn hst i (by omega) (fun j oj h1 h2 h3 => by have := hone j i oj oi d h2 hoi h3 hd; omega)
    have hstep := hst i oi hin' hoi
    unfold wpOp
    simp only [hoi]
    generalize hSi : S i = si at *
    generalize hSj : S (i + 1) = sj at *
    obtain ⟨Ii, ai⟩ := si
    obtain ⟨Ij, aj⟩ := sj
    simp only at hstep hlook hnext hsame hkey
    cases hstep with
    | skip hg hw =>
      rw [wanted_looks hg hsame hlook, hw]
      simp only [Bool.false_eq_true, if_false]
      refine ih _ _ _ hcount (hnext undef w1 (fun d hd => ?_) (Grw.refl _))
      unfold slotIs
      rw [hkey d hd, hd]
      simp only
      rw [put_getD ai d d undef (by rw [← hsame, hI.size]; exact hin i oi d hoi hd), if_pos rfl]
    | val v hg hw h =>
      rw [wanted_looks hg hsame hlook, hw]
      simp only [if_true]
      refine .inl (h a1 w1 hI.world hlook _ _ (fun u w' hu hb => ih _ _ _ hcount (hnext u w' (fun d hd => ?_) hb)))
      unfold slotIs
      rw [hkey d hd, hd]
      simp only
      rw [put_getD ai d d v (by rw [← hsame, hI.size]; exact hin i oi d hoi hd), if_pos rfl]
      exact hu
    | ty d R hd hg hw h =>
      rw [wanted_looks hg hsame hlook, hw]
      simp only [if_true]
      refine .inl (h a1 w1 hI.world hlook _ _ (fun u w' hu hb => ih _ _ _ hcount (hnext u w' (fun d' hd' => ?_) hb)))
      obtain rfl : d = d' := by rw [hd] at hd'; simpa using hd'
      unfold slotIs
      rw [List.lookup_cons]
      simp only [BEq.rfl]
      exact hu

/-- THE REGION -/
theorem wp_region_lax {id : Nat} {Q : Exit → Act → World → Prop} {a : Act} {w : World} {l : List Oper} (hm : P.follows .mixedOrders = true) (hB : Region.lexB .any l.toArray = true) (hD : dstsB l a.tmps.size = true)
    (h : wpT P l.toArray (Grw w) (fun a' w' => Q .normal a' w') l [] a) : (Code.region id l.toArray true).wp P Q a w := by
  obtain ⟨S, hS0, hst, hfin⟩ := wpT_path l [] a h
  have hB' : Region.lexFrom .any l.toArray l.toArray.size 0 (Array.replicate l.toArray.size false) = true := by
    simp only [Region.lexB, Bool.and_eq_true] at hB; exact hB.2
  refine wp_region_any hm ?_
  refine wpAny_lax (P := P) (ops := l.toArray) (C := Grw w) (md := .any) (a0 := a) (S := S) (fun w1 w2 h1 h2 => h1.trans h2) hS0 (n := l.toArray.size) (Nat.le_refl _) (fun k o _ hk => hst k o (by simpa using hk))
    (fun k o d hk hd => dsts_lt hD (k := k) (by simpa using hk) hd) (fun j k x y d hj hk hx hy => dsts_one hD (j := j) (k := k) (by simpa using hj) (by simpa using hk) hx hy)
    (fun i oi hi => lexFrom_free _ 0 _ hB' (by simp) (fun i => ?_) (by simp) i oi (Nat.zero_le _) hi) (fun i oi hi ho => absurd (Array.getElem?_eq_some_iff.1 ho).1 (by omega))
    (fun fuel listed a1 w1 ⟨s, hs, hlen⟩ hls hall _ hr => ?_) _ _ _ _ ⟨_, rfl, ?_⟩ (start_inv (Grw.draw w))
  · by_cases hi : i < l.length
    · simp [hi]
    · simp [hi]; omega
  · have hq : Q .normal a1 w1 := hfin a1 w1 (by simpa using hr)
    have hnr : Region.ready .any l.toArray listed = [] := by
      apply List.eq_nil_iff_forall_not_mem.2
      intro i hi
      obtain ⟨h0, o, ho, _⟩ := mem_ready.1 hi
      have := hall i (Array.getElem?_eq_some_iff.1 ho).1
      rw [this] at h0; cases h0
    exact wpAny_done hnr hq fuel
  · rw [count_none]; simp

/-- THE REGION WITH A STORE AT ITS END: all else by the walk, then the last operation -/
theorem wp_region_laxT {id : Nat} {Q : Exit → Act → World → Prop} {a : Act} {w : World} {l : List Oper} (n : Nat) (hn : l.length = n + 1) (hm : P.follows .mixedOrders = true) (hB : Region.lexB .any l.toArray = true) (hD : dstsB l a.tmps.size = true) (hW : waitsB l = true)
    (h : wpT P l.toArray (Grw w) (fun a' w' => wpList P l.toArray Q (l.drop n) a' w') (l.take n) [] a) : (Code.region id l.toArray true).wp P Q a w := by
  obtain ⟨S, hS0, hst, hfin⟩ := wpT_path (l.take n) [] a h
  have hB' : Region.lexFrom .any l.toArray l.toArray.size 0 (Array.replicate l.toArray.size false) = true := by
    simp only [Region.lexB, Bool.and_eq_true] at hB; exact hB.2
  have hsz : l.toArray.size = n + 1 := by simpa using hn
  obtain ⟨o, ho⟩ : ∃ o, l[n]? = some o := ⟨l[n], by simp [hn]⟩
  have hlast : l.getLast? = some o := by rw [List.getLast?_eq_getElem?, hn]; exact ho
  have hdrop : l.drop n = [o] := by
    have h1 : n < l.length := by omega
    rw [List.drop_eq_getElem_cons h1, List.drop_eq_nil_of_le (by omega)]
    rw [List.getElem?_eq_getElem h1] at ho
    rw [Option.some.inj ho]
  have hlen : (l.take n).length = n := by rw [List.length_take]; omega
  refine wp_region_any hm ?_
  refine wpAny_lax (P := P) (ops := l.toArray) (C := Grw w) (md := .any) (a0 := a) (S := S) (fun w1 w2 h1 h2 => h1.trans h2) hS0 (n := n) (by omega) (fun k o' hk ho' => hst k o' (by rw [List.getElem?_take_of_lt hk]; simpa using ho'))
    (fun k o d hk hd => dsts_lt hD (k := k) (by simpa using hk) hd) (fun j k x y d hj hk hx hy => dsts_one hD (j := j) (k := k) (by simpa using hj) (by simpa using hk) hx hy)
    (fun i oi hi => lexFrom_free _ 0 _ hB' (by simp) (fun i => ?_) (by simp) i oi (Nat.zero_le _) hi) (fun i oi hi hoi j hj => ?_)
    (fun fuel listed a1 w1 ⟨s, hs, hcnt⟩ hls hall htail hr => ?_) _ _ _ _ ⟨_, rfl, ?_⟩ (start_inv (Grw.draw w))
  · by_cases hi : i < l.length
    · simp [hi]
    · simp [hi]; omega
  · have hil := (Array.getElem?_eq_some_iff.1 hoi).1
    obtain rfl : i = n := by omega
    obtain rfl : o = oi := by have : l[i]? = some oi := by simpa using hoi
                              rw [ho] at this; exact Option.some.inj this
    unfold waitsB at hW
    rw [hlast] at hW
    simp only [List.all_eq_true, List.mem_range] at hW
    obtain ⟨e, he, hb⟩ := Array.any_eq_true'.1 (hW j (by omega))
    simp only [Bool.and_eq_true, beq_iff_eq] at hb
    exact ⟨e, he, hb.1, hb.2⟩
  · -- only the last one is left
    have hq : wpList P l.toArray Q [o] a1 w1 := by
      have := hfin a1 w1 (by rw [hlen]; exact hr)
      rwa [hdrop] at this
    have hnl : listed.getD n true = false := htail n (Nat.le_refl _) (by omega)
    have hfuel : fuel = 1 := by
      rw [← hcnt, ← hs, hsz, List.range_succ, List.filter_append]
      have : (List.range n).filter (fun i => !listed.getD i true) = [] := by
        apply List.filter_eq_nil_iff.2
        intro i hi
        rw [hall i (List.mem_range.1 hi)]
        simp
      rw [this]
      simp only [List.nil_append, List.filter_cons, hnl]
      rfl
    subst hfuel
    have hon : l.toArray[n]? = some o := by simpa using ho
    refine ⟨fun h0 => ?_, fun i hi => ?_⟩
    · exfalso
      have : n ∈ Region.ready .any l.toArray listed := by
        refine mem_ready.2 ⟨hnl, o, hon, fun e he hb => ?_⟩
        have h1 := (lexFrom_free _ 0 _ hB' (by simp) (fun i => by by_cases hi : i < l.length <;> simp [hi]; omega) (by simp) n o (Nat.zero_le _) hon).1 e he hb
        have h2 := hall e.on h1
        have h3 : e.on < listed.size := by omega
        simpa [h3] using h2
      rw [h0] at this; cases this
    · obtain ⟨hun, oi, hoi, _⟩ := mem_ready.1 hi
      have hil := (Array.getElem?_eq_some_iff.1 hoi).1
      obtain rfl : i = n := by
        rcases Nat.lt_or_ge i n with h1 | h1
        · rw [hall i h1] at hun; cases hun
        · omega
      have hnr : Region.ready .any l.toArray (listed.setIfInBounds i true) = [] := by
        apply List.eq_nil_iff_forall_not_mem.2
        intro j hj
        obtain ⟨h0, oj, hoj, _⟩ := mem_ready.1 hj
        have hjl := (Array.getElem?_eq_some_iff.1 hoj).1
        by_cases hji : j = i
        · subst hji
          have h3 : j < listed.size := by omega
          simp [h3] at h0
        · rw [getD_set_ne true (Ne.symm hji), hall j (by omega)] at h0; cases h0
      have hmono : ∀ a2 w2, wpList P l.toArray Q [] a2 w2 → wpAny P .any l.toArray Q 0 (listed.setIfInBounds i true) a2 w2 := fun a2 w2 h2 => wpAny_done hnr h2 0
      unfold wpOp
      simp only [hon]
      unfold wpList at hq
      split
      · rename_i hw
        rw [if_pos hw] at hq
        exact hq.imp (Oper.wp_mono hmono) (fun h => h)
      · rename_i hw
        rw [if_neg hw] at hq
        exact hmono _ _ hq
  · rw [count_none]; simp

/-! ### The steps of the walk -/
section steps
variable {Q : Act → World → Prop} {o : Oper} {rest : List Oper} {I : Lx} {a : Act}

theorem wpT_move {x : Operand} (v : Value) (ho : o.op = .move x) (hv : a.eval x = v) (hx : known I x = true) (hg : guardKnown ops o I = true) (hw : Region.wanted o (yielded ops a.tmps) = true) (k : wpT P ops C Q rest I (a.put o.dst v)) : wpT P ops C Q (o :: rest) I a :=
  ⟨_, _, .val v hg hw (fun a1 w _ ht K Q' hK => by
    have e := known_eval hx (by rw [ho]; simp [Op.operands]) ht
    unfold Oper.wp
    simp only [ho, execOp]
    rw [e, hv]
    exact hK _ _ rfl (Grw.refl _)), k⟩

/-- an operation over known slots: run once, in any world of the class -/
theorem wpT_run (v : Value) (hs : notSelect o = true) (hl : (o.op.operands.toList.all (known I)) = true) (hg : guardKnown ops o I = true) (hw : Region.wanted o (yielded ops a.tmps) = true)
    (hrun : ∀ w, C w → (execOp a.eval o).run P w = .ok (.value v) w) (k : wpT P ops C Q rest I (a.put o.dst v)) : wpT P ops C Q (o :: rest) I a :=
  ⟨_, _, .val v hg hw (fun a1 w hC ht K Q' hK => by
    have e : execOp a1.eval o = execOp a.eval o := execOp_congr o (fun cs b h => by simp [notSelect, h] at hs) fun x hx => known_eval (by
      simp only [List.all_eq_true] at hl
      exact hl x (by simpa using hx)) hx ht
    unfold Oper.wp
    rw [e, hrun w hC]
    exact hK _ _ rfl (Grw.refl _)), k⟩

theorem wpT_end (hk : ((I.map (·.1)).Nodup && (I.map (·.1)).all (· < a.tmps.size)) = true) (h : ∀ w, C w → FinQ Q I a w) : wpT P ops C Q [] I a := fun a1 w1 hr => by
  simp only [Bool.and_eq_true, decide_eq_true_eq, List.all_eq_true] at hk
  exact rep_fin I a a1 w1 rfl hk.1 hk.2 hr (h w1 hr.world)
end steps


/-! ### The same over a frame that is a list -/
section lists
variable {Q : Act → World → Prop} {o : Oper} {rest : List Oper} {I : Lx} {fs : List Value} {ds : List Deferred}

/-- THE WALK over a list -/
def wpL (P : Program) (ops : Array Oper) (C : World → Prop) (Q : Act → World → Prop) (ds : List Deferred) (l : List Oper) (I : Lx) (fs : List Value) : Prop := wpT P ops C Q l I (mkA fs ds)

theorem wp_lax_list {id : Nat} {Q : Exit → Act → World → Prop} {w : World} {l : List Oper} (hm : P.follows .mixedOrders = true) (hB : Region.lexB .any l.toArray = true) (hD : dstsB l fs.length = true)
    (h : wpL P l.toArray (Grw w) (fun a' w' => Q .normal a' w') ds l [] fs) : (Code.region id l.toArray true).wp P Q ⟨fs.toArray, ds⟩ w :=
  wp_region_lax hm hB (by simpa using hD) h

/-- with a store at the region's end -/
theorem wp_laxT_list {id : Nat} {Q : Exit → Act → World → Prop} {w : World} {l : List Oper} (n : Nat) (hn : l.length = n + 1) (hm : P.follows .mixedOrders = true) (hB : Region.lexB .any l.toArray = true) (hD : dstsB l fs.length = true) (hW : waitsB l = true)
    (h : wpL P l.toArray (Grw w) (fun a' w' => wpList P l.toArray Q (l.drop n) a' w') ds (l.take n) [] fs) : (Code.region id l.toArray true).wp P Q ⟨fs.toArray, ds⟩ w :=
  wp_region_laxT n hn hm hB (by simpa using hD) hW h

theorem wpL_move {x : Operand} (v : Value) (ho : o.op = .move x) (hv : ev fs x = v) (hx : known I x = true) (hg : guardKnown ops o I = true) (hw : wantedL ops fs o = true) (k : wpL P ops C Q ds rest I (setL fs o.dst v)) : wpL P ops C Q ds (o :: rest) I fs :=
  wpT_move v ho ((mkA_eval x).trans hv) hx hg (wantedL_eq.trans hw) (by rw [mkA_put]; exact k)
theorem wpL_run (v : Value) (hs : notSelect o = true) (hl : (o.op.operands.toList.all (known I)) = true) (hg : guardKnown ops o I = true) (hw : wantedL ops fs o = true)
    (hrun : ∀ w, C w → (execOp (ev fs) o).run P w = .ok (.value v) w) (k : wpL P ops C Q ds rest I (setL fs o.dst v)) : wpL P ops C Q ds (o :: rest) I fs :=
  wpT_run v hs hl hg (wantedL_eq.trans hw) (by rw [mkA_evalF]; exact hrun) (by rw [mkA_put]; exact k)
/-- run against a frame that is a variable, from what its operands are -/
theorem wpL_run1 {x : Operand} (vx v : Value) (hx : ev fs x = vx) (hs : notSelect o = true) (hl : (o.op.operands.toList.all (known I)) = true) (hg : guardKnown ops o I = true) (hw : wantedL ops fs o = true)
    (hrun : ∀ w (ρ : Operand → Value), C w → ρ x = vx → (∀ c, ρ (.const c) = c) → (execOp ρ o).run P w = .ok (.value v) w) (k : wpL P ops C Q ds rest I (setL fs o.dst v)) : wpL P ops C Q ds (o :: rest) I fs :=
  wpL_run v hs hl hg hw (fun w hC => hrun w _ hC hx fun _ => rfl) k
theorem wpL_run2 {x y : Operand} (vx vy v : Value) (hx : ev fs x = vx) (hy : ev fs y = vy) (hs : notSelect o = true) (hl : (o.op.operands.toList.all (known I)) = true) (hg : guardKnown ops o I = true) (hw : wantedL ops fs o = true)
    (hrun : ∀ w (ρ : Operand → Value), C w → ρ x = vx → ρ y = vy → (∀ c, ρ (.const c) = c) → (execOp ρ o).run P w = .ok (.value v) w) (k : wpL P ops C Q ds rest I (setL fs o.dst v)) : wpL P ops C Q ds (o :: rest) I fs :=
  wpL_run v hs hl hg hw (fun w hC => hrun w _ hC hx hy fun _ => rfl) k
theorem wpL_end (hk : ((I.map (·.1)).Nodup && (I.map (·.1)).all (· < fs.length)) = true) (h : ∀ w, C w → FinL Q ds I fs w) : wpL P ops C Q ds [] I fs :=
  wpT_end (by simpa [mkA] using hk) (fun w hw => finL_finQ I fs w (h w hw))
end lists

end
end Go.Own.Grn

end
section
namespace Go.Proofs.Ytcfdjoohbicomaa
open Go.RowKit Go.Own Go.Sort
namespace Sto
open Go.StoM Byt
set_option maxRecDepth 10000 in
set_option maxHeartbeats 3200000 in
theorem byKey_any (a b : Ch) (ha : Fit a) (hb : Fit b) (W : World) : Calls Try.prog 42 #[chV a, chV b] W fun e w' => e = .returned (iS (keyCmp a.key b.key)) ∧ ∃ q os', w' = grow (W.drewN q) os' := by
  obtain ⟨c1, h1⟩ : ∃ c, c = chC a := ⟨_, rfl⟩
  obtain ⟨c2, h2⟩ : ∃ c, c = chC b := ⟨_, rfl⟩
  show Calls Try.prog _ #[.agg (chC a).toArray, .agg (chC b).toArray] W _
  rw [← h1, ← h2]
  have b1 := (Own.St.start W).boxV 51 c1
  obtain ⟨W1, hW1⟩ : ∃ w, w = W.alloc (.cells c1.toArray 51) := ⟨_, rfl⟩
  rw [← hW1] at b1
  have b2 := b1.boxV 51 c2
  obtain ⟨W2, hW2⟩ : ∃ w, w = W1.alloc (.cells c2.toArray 51) := ⟨_, rfl⟩
  rw [← hW2] at b2
  obtain ⟨p1, hp1⟩ : ∃ p, p = W.heap.size := ⟨_, rfl⟩
  obtain ⟨p2, hp2⟩ : ∃ p, p = W1.heap.size := ⟨_, rfl⟩
  rw [← hp1, ← hp2] at b2
  have HB : Hid (∀ n, ∀ j u, (a.key.sum.map byteV)[j]? = some u → (W2.drewN n).cell? ⟨p1, j, none⟩ = some u) := fun n j u hu => (b2.cellV 1 rfl j (by rw [h1]; exact chC_key ha.key j u (kC_sum j u hu))).1
  have HC : Hid (∀ n, ∀ j u, (b.key.sum.map byteV)[j]? = some u → (W2.drewN n).cell? ⟨p2, j, none⟩ = some u) := fun n j u hu => (b2.cellV 0 rfl j (by rw [h2]; exact chC_key hb.key j u (kC_sum j u hu))).1
  have d1 := (b2.cellV 1 rfl 32 (v := .int .u32 (a.key.n : Int)) (by rw [h1]; exact chC_key ha.key 32 _ (kC_n ha.key))).1
  have d2 := (b2.cellV 0 rfl 32 (v := .int .u32 (b.key.n : Int)) (by rw [h2]; exact chC_key hb.key 32 _ (kC_n hb.key))).1
  obtain ⟨x, hx⟩ : ∃ q, q = cmpB a.key.sum b.key.sum := ⟨_, rfl⟩
  obtain ⟨y, hy⟩ : ∃ q, q = cmpZ a.key.n b.key.n := ⟨_, rfl⟩
  obtain ⟨z, hz⟩ : ∃ q, q = orZ x y := ⟨_, rfl⟩
  have CB : Hid (∀ n, Calls Try.prog 47 #[.slice (some ⟨p1, 0, none⟩) 32 32, .slice (some ⟨p2, 0, none⟩) 32 32] (W2.drewN n) fun e w' => e = .returned (.int .i64 x) ∧ w' = W2.drewN n) := fun n => by rw [hx]; exact bytesCmp (HB.out n) (HC.out n) ha.key.sum hb.key.sum
  obtain ⟨n1, hn1⟩ : ∃ x, x = a.key.n := ⟨_, rfl⟩
  obtain ⟨n2, hn2⟩ : ∃ x, x = b.key.n := ⟨_, rfl⟩
  have CN : Hid (∀ wx, Calls Try.prog 48 #[.int .u32 (n1 : Int), .int .u32 (n2 : Int)] wx fun e w' => e = .returned (.int .i64 y) ∧ w' = wx) := fun wx => by rw [hy, hn1, hn2]; exact cmp32 _ _ wx
  have CO : Hid (∀ n, Calls Try.prog 45 #[.slice (some ⟨W2.heap.size, 0, none⟩) 2 2] ((W2.drewN n).alloc (.cells #[.int .i64 x, .int .i64 y] 3)) fun e w' => e = .returned (.int .i64 z) ∧ w' = (W2.drewN n).alloc (.cells #[.int .i64 x, .int .i64 y] 3)) := fun n => by
    rw [hz]
    have h := (Own.St.start (W2.drewN n)).boxV 3 [.int .i64 x, .int .i64 y]
    exact or_two x y _ _ (h.cellV 0 rfl 0 rfl).1 (h.cellV 0 rfl 1 rfl).1
  rw [← hn1] at d1
  rw [← hn2] at d2
  have e : keyCmp a.key b.key = z := by rw [hz, hx, hy]; rfl
  rw [e]
  have E1 := hW1.symm
  have E2 := hW2.symm
  have P1 := hp1.symm
  have P2 := hp2.symm
  have EG : Hid (∀ q (o : Obj), ∃ q' os', (W2.drewN q).alloc o = grow (W.drewN q') os') := fun q o => ⟨q, _, by
    rw [hW2, hW1, alloc_eq_grow, alloc_eq_grow, alloc_eq_grow]
    show grow (grow (grow (W.drewN q) _) _) _ = _
    rw [grow_grow, grow_grow]⟩
  clear h1 h2 b1 b2 hW1 hW2 hp1 hp2 HB HC hx hy hz e ha hb hn1 hn2
  go_enter Try.func42, Try.ntmps42
  go_wp2_with (fail)
  go_region_law (first
    | (go_simp; go_at_call 47; refine (CB.out 1).mono ?_; rintro e w' ⟨rfl, rfl⟩)
    | (go_simp; go_at_call 48; refine (CN.out _).mono ?_; rintro e w' ⟨rfl, rfl⟩)
    | (go_simp; go_at_call 45; refine (CO.out 1).mono ?_; rintro e w' ⟨rfl, rfl⟩))
  all_goals
    go_simp
    go_wp2
    go_ret
    exact ⟨rfl, EG.out _ _⟩
end Sto
end Go.Proofs.Ytcfdjoohbicomaa

end
section
namespace Go.Proofs.Ytcfdjoohbicomaa
open Go.RowKit Go.Own Go.Sort Go.Shelf
namespace Sto
open Go.StoM Byt
def sortCh_ren : Go.Shelf.Ren := ⟨fun | 6 => 44 | 15 => 50 | 14 => 49 | 28 => 62 | 29 => 63 | 20 => 54 | 21 => 55 | 22 => 56 | 23 => 57 | 24 => 58 | 25 => 59 | 26 => 60 | 27 => 61 | 46 => 64 | 47 => 65 | 48 => 66 | 49 => 67 | 50 => 68 | 57 => 69 | n => n, fun | 22 => 27 | 24 => 51 | 25 => 78 | 3 => 3 | 39 => 87 | 0 => 0 | 53 => 33 | 55 => 100 | 4 => 4 | 46 => 93 | 45 => 92 | 50 => 73 | 5 => 5 | 9 => 9 | 66 => 101 | 70 => 105 | 76 => 107 | 77 => 108 | n => n, fun | n => n⟩
theorem sortCh : Go.Proofs.SlLaysF0.n6 Try.prog sortCh_ren where
  mixed := by kernel_rfl
  f6 := ⟨ "slices.SortFunc[[]pumice/api.Chunk,pumice/api.Chunk]", by decide, Try.func44.trans (congrArg some (by kernel_rfl))⟩
  f14 := ⟨ "slices.pdqsortCmpFunc[pumice/api.Chunk]", by decide, Try.func49.trans (congrArg some (by kernel_rfl))⟩
  f15 := Try.func50.trans (congrArg some (by kernel_rfl))
  f20 := ⟨ "slices.insertionSortCmpFunc[pumice/api.Chunk]", by decide, Try.func54.trans (congrArg some (by kernel_rfl))⟩
  f21 := ⟨ "slices.heapSortCmpFunc[pumice/api.Chunk]", by decide, Try.func55.trans (congrArg some (by kernel_rfl))⟩
  f22 := ⟨ "slices.breakPatternsCmpFunc[pumice/api.Chunk]", by decide, Try.func56.trans (congrArg some (by kernel_rfl))⟩
  f23 := ⟨ "slices.choosePivotCmpFunc[pumice/api.Chunk]", by decide, Try.func57.trans (congrArg some (by kernel_rfl))⟩
  f24 := ⟨ "slices.reverseRangeCmpFunc[pumice/api.Chunk]", by decide, Try.func58.trans (congrArg some (by kernel_rfl))⟩
  f25 := ⟨ "slices.partialInsertionSortCmpFunc[pumice/api.Chunk]", by decide, Try.func59.trans (congrArg some (by kernel_rfl))⟩
  f26 := ⟨ "slices.partitionEqualCmpFunc[pumice/api.Chunk]", by decide, Try.func60.trans (congrArg some (by kernel_rfl))⟩
  f27 := ⟨ "slices.partitionCmpFunc[pumice/api.Chunk]", by decide, Try.func61.trans (congrArg some (by kernel_rfl))⟩
  f28 := Try.func62.trans (congrArg some (by kernel_rfl))
  f29 := Try.func63.trans (congrArg some (by kernel_rfl))
  f46 := ⟨ "slices.siftDownCmpFunc[pumice/api.Chunk]", by decide, Try.func64.trans (congrArg some (by kernel_rfl))⟩
  f47 := Try.func65.trans (congrArg some (by kernel_rfl))
  f48 := Try.func66.trans (congrArg some (by kernel_rfl))
  f49 := ⟨ "slices.medianAdjacentCmpFunc[pumice/api.Chunk]", by decide, Try.func67.trans (congrArg some (by kernel_rfl))⟩
  f50 := ⟨ "slices.medianCmpFunc[pumice/api.Chunk]", by decide, Try.func68.trans (congrArg some (by kernel_rfl))⟩
  f57 := ⟨ "slices.order2CmpFunc[pumice/api.Chunk]", by decide, Try.func69.trans (congrArg some (by kernel_rfl))⟩
  t0 := Try.underlying0
  a0 := Try.isAgg0
  z0 := Try.sizeOf0
  v0 := Try.zeroValue0
  t3 := Try.underlying3
  a3 := Try.isAgg3
  z3 := Try.sizeOf3
  v3 := Try.zeroValue3
  t4 := Try.underlying4
  a4 := Try.isAgg4
  z4 := Try.sizeOf4
  v4 := Try.zeroValue4
  t5 := Try.underlying5
  a5 := Try.isAgg5
  z5 := Try.sizeOf5
  v5 := Try.zeroValue5
  t9 := Try.underlying9
  a9 := Try.isAgg9
  z9 := Try.sizeOf9
  v9 := Try.zeroValue9
  t22 := Try.underlying27
  a22 := Try.isAgg27
  z22 := Try.sizeOf27
  v22 := Try.zeroValue27
  t25 := Try.underlying78
  a25 := Try.isAgg78
  z25 := Try.sizeOf78
  v25 := Try.zeroValue78
  t39 := Try.underlying87
  a39 := Try.isAgg87
  z39 := Try.sizeOf87
  v39 := Try.zeroValue87
  t45 := Try.underlying92
  a45 := Try.isAgg92
  z45 := Try.sizeOf92
  v45 := Try.zeroValue92
  t46 := Try.underlying93
  a46 := Try.isAgg93
  z46 := Try.sizeOf93
  v46 := Try.zeroValue93
  t50 := Try.underlying73
  a50 := Try.isAgg73
  z50 := Try.sizeOf73
  v50 := Try.zeroValue73
  t53 := Try.underlying33
  a53 := Try.isAgg33
  z53 := Try.sizeOf33
  v53 := Try.zeroValue33
  t55 := Try.underlying100
  a55 := Try.isAgg100
  z55 := Try.sizeOf100
  v55 := Try.zeroValue100
  t66 := Try.underlying101
  a66 := Try.isAgg101
  z66 := Try.sizeOf101
  v66 := Try.zeroValue101
  t70 := Try.underlying105
  a70 := Try.isAgg105
  z70 := Try.sizeOf105
  v70 := Try.zeroValue105
  t76 := Try.underlying107
  a76 := Try.isAgg107
  z76 := Try.sizeOf107
  v76 := Try.zeroValue107
  t77 := Try.underlying108
  a77 := Try.isAgg108
  z77 := Try.sizeOf108
  v77 := Try.zeroValue108

abbrev FC := { c : Ch // Fit c }
instance : Inhabited FC := ⟨⟨zeroCh, zero_fit⟩⟩
def encF (x : FC) : List Value := chC x.1
theorem encF_len (x : FC) : (encF x).length = 37 := chC_len x.2.key
theorem flatK_list (d : Array FC) : (flatK encF 37 d).toList = d.toList.flatMap encF := by
  have hl : ∀ a ∈ d.toList, (encF a).length = 37 := fun a _ => encF_len a
  apply List.ext_getElem?
  intro i
  by_cases hi : i < d.size * 37
  · have hk : i / 37 < d.size := Nat.div_lt_of_lt_mul (by rw [Nat.mul_comm]; exact hi)
    have hm : i % 37 < 37 := Nat.mod_lt _ (by decide)
    have h1 := flat_at encF 37 d.toList hl (i / 37) (d[i / 37]) (by rw [Array.getElem?_toList, Array.getElem?_eq_getElem hk]) (i % 37) hm
    rw [Nat.mul_comm, Nat.div_add_mod] at h1
    rw [h1, Array.getElem?_toList, Array.getElem?_eq_getElem (by simpa using hi)]
    have h2 := get_flatK encF 37 d i hi
    rw [getElem!_pos _ i (by simpa using hi), getElem!_pos d (i / 37) hk, getElem!_pos _ (i % 37) (by rw [encF_len]; exact hm)] at h2
    rw [h2, List.getElem?_eq_getElem]
  · rw [List.getElem?_eq_none (by simpa using Nat.le_of_not_lt hi), List.getElem?_eq_none]
    rw [flat_length encF 37 d.toList hl, Array.length_toList]
    omega
theorem setMany_all {F : Array Value} {vs : List Value} (h : vs.length = F.size) : setMany F 0 vs = vs.toArray := by
  refine ext_get! (by simp [h]) fun t ht => ?_
  rw [size_setMany] at ht
  rw [get_setMany _ _ _ _ ht, if_pos ⟨Nat.zero_le _, by omega⟩, Nat.sub_zero]
  simp
theorem St.grow {B : Nat} {w0 w : World} {Ps : List Asn} (H : Own.St B w0 w Ps) (os : Array Obj) : Own.St B w0 (Sort.grow w os) Ps :=
  H.quiet (T := fun _ => False) ⟨rfl, rfl, rfl, by simp [Sort.grow], fun k hk _ => by
    show (w.heap ++ os)[k]? = _
    rw [Array.getElem?_append_left hk], fun _ h => h.elim⟩
theorem flat_fit (l : List Ch) (hf : ∀ c ∈ l, Fit c) : ∃ d : Array FC, d.toList.map (·.1) = l ∧ d.size = l.length ∧ d.toList.flatMap encF = l.flatMap chC := by
  refine ⟨(l.pmap (fun c h => (⟨c, h⟩ : FC)) hf).toArray, ?_, by simp, ?_⟩
  · simp [List.map_pmap]
  · rw [List.toList_toArray, List.flatMap_def, List.flatMap_def, List.map_pmap]
    congr 1
    simp [encF]
theorem flat_map (d : Array FC) : d.toList.flatMap encF = (d.toList.map (·.1)).flatMap chC := by
  rw [List.flatMap_def, List.flatMap_def, List.map_map]
  rfl
section
variable {B : Nat} {w0 w : World} {Ps : List Asn}
set_option maxHeartbeats 1000000 in
/-- slices.SortFunc of some chunks, by an order that lays blocks of its own -/
theorem sort_any (g : Nat) (cf : Ch → Ch → Int) (hO : SWO (ltOf fun x y : FC => cf x.1 y.1)) (hc : ∀ a b : Ch, Fit a → Fit b → ∀ W, Calls Try.prog g #[chV a, chV b] W fun e w' => e = .returned (iS (cf a b)) ∧ ∃ q os', w' = Sort.grow (W.drewN q) os')
    (eg : ∀ args w, (callFunc g args).run Try.prog w = .ok (.enter g args) w) {ao : Option Addr} {n cap : Nat} {l : List Ch} (hf : ∀ c ∈ l, Fit c) (hl : l.length = n) (hn : n ≤ 1000000) (H : Own.St B w0 w (ARow 51 37 (.slice ao n cap) n (l.flatMap chC) :: Ps)) :
    Calls Try.prog 44 #[.slice ao n cap, .func (.func g) #[] #[]] w fun e w' => e = .returned (.tuple #[]) ∧ ∃ m : List Ch, m.Perm l ∧ m.Pairwise (fun a b => ¬ cf b a < 0) ∧ Own.St B w0 w' (ARow 51 37 (.slice ao n cap) n (m.flatMap chC) :: Ps) := by
  cases ao with
  | none =>
    have hn0 := ((H.rowLen 0 rfl).2.2.2 rfl).1
    subst hn0
    have hl0 := List.eq_nil_of_length_eq_zero hl
    subst hl0
    refine (AnyF.slices_SortFunc_none sortCh none cap (.func (.func g) #[] #[]) w).mono ?_
    rintro e w' ⟨rfl, rfl⟩
    exact ⟨rfl, [], List.Perm.refl _, List.Pairwise.nil, H⟩
  | some a =>
    obtain ⟨S, hS, _⟩ := H.at 0 rfl
    obtain ⟨ao', cap', hv, _, _, _, ha⟩ := Row.form hS
    simp only [Value.slice.injEq, true_and] at hv
    obtain ⟨rfl, rfl⟩ := hv
    obtain ⟨b, rfl, hSb⟩ := ha a rfl
    have hb : b < w.heap.size := Row.lt hS b hSb
    obtain ⟨d, hd1, hd2, hd3⟩ := flat_fit l hf
    have hfl : (flatK encF 37 d).toList = l.flatMap chC := by rw [flatK_list, hd3]
    have hlen : (l.flatMap chC).length = n * 37 := (H.rowLen 0 rfl).1
    have hH : HoldsK encF 37 w b 0 d := by
      intro j hj
      rw [size_flatK, hd2, hl] at hj
      obtain ⟨h1, h2⟩ := H.rowRange 0 rfl j hj
      rw [Nat.zero_add]
      refine ⟨?_, h2⟩
      rw [h1, ← hfl, Array.getElem?_toList]
      have hj2 : j < (flatK encF 37 d).size := by rw [size_flatK, hd2, hl]; exact hj
      rw [Array.getElem?_eq_getElem hj2, getElem!_pos _ j hj2]
      rfl
    have hcmp : CmpLays Try.prog g #[] encF 37 (fun x y : FC => cf x.1 y.1) b 0 d.size w := fun _ _ _ _ x y => hc x.1 y.1 x.2 y.2 _
    have hcon := AnyQ.slices_SortFunc sortCh 37 (fun w => by kernel_rfl) (fun w => by kernel_rfl) encF encF_len (fun x => chC_one x.1) (fun x y : FC => cf x.1 y.1) hO g #[] b 0 cap d w eg hcmp hH hb (by omega)
    rw [hd2, hl] at hcon
    refine Calls.mono hcon ?_
    rintro e w' ⟨rfl, d', m, os, ⟨hp1, _, hp3⟩, hs, rfl⟩
    have hds : d'.size = n := by rw [hp1, hd2, hl]
    have e1 : (d'.extract 0 n).toList = d'.toList := by rw [← hds, Array.extract_size]
    have e2 : (d.extract 0 n).toList = d.toList := by rw [← hl, ← hd2, Array.extract_size]
    rw [e1, e2] at hp3
    refine ⟨rfl, d'.toList.map (·.1), by rw [← hd1]; exact hp3.map _, ?_, ?_⟩
    · rw [List.pairwise_map, List.pairwise_iff_getElem]
      intro i j hi hj hij
      rw [Array.length_toList] at hi hj
      have := hs i j (Nat.zero_le _) hij (by omega)
      rw [getElem!_pos _ i hi, getElem!_pos _ j hj] at this
      unfold ltOf at this
      simpa using this
    · unfold sortWorldK
      refine St.grow ?_ os
      have hA : HoldsK encF 37 (Sort.ahead w m) b 0 d := hH
      have e3 : putRowK encF 37 (Sort.ahead w m) b 0 d' = (Sort.ahead w m).setCells b 0 (d'.toList.flatMap encF) := by
        have h1 := setCells_putRow (Sort.ahead w m) b 0 (d'.toList.flatMap encF) 0 (flatK encF 37 d) (by rw [← flatK_list, Array.length_toList, size_flatK, size_flatK, hp1, Nat.zero_add]; exact Nat.le_refl _)
        have h2 : putRow id (Sort.ahead w m) b 0 (flatK encF 37 d) = Sort.ahead w m := putRow_self id _ b 0 _ hA
        rw [h2, Nat.zero_add, setMany_all (by rw [← flatK_list, Array.length_toList, size_flatK, size_flatK, hp1])] at h1
        rw [h1]
        unfold putRowK
        congr 1
        rw [← flatK_list]
      rw [e3]
      have hlen2 : (d'.toList.flatMap encF).length = n * 37 := by rw [← flatK_list, Array.length_toList, size_flatK, hds]
      have h := St.rowCells 0 (d'.toList.flatMap encF) 0 (w.drewN m) _ _ (H.drewN m) rfl (by omega)
      rw [List.set_cons_zero, List.take_zero, List.nil_append, Nat.zero_add, List.drop_of_length_le (by omega), List.append_nil, flat_map] at h
      rw [flat_map]
      exact h
end
/-! ### the two orders -/
theorem cmpB_neg {a b : List UInt8} : cmpB a b < 0 ↔ ltB a b = true := by
  unfold cmpB
  cases h : ltB a b
  · cases ltB b a <;> simp
  · simp
theorem cmpB_zero {a b : List UInt8} : cmpB a b = 0 ↔ a = b := by
  unfold cmpB
  constructor
  · intro h
    rcases ltB_total a b with h1 | h1 | h1
    · rw [if_pos h1] at h; cases h
    · exact h1
    · by_cases h2 : ltB a b = true
      · rw [if_pos h2] at h; cases h
      · rw [if_neg h2, if_pos h1] at h; cases h
  · rintro rfl
    simp [ltB_irrefl]
theorem cmpZ_neg {a b : Int} : cmpZ a b < 0 ↔ a < b := by
  unfold cmpZ
  split
  · simp [*]
  · split
    · simp [*]
    · simp [*]
theorem orZ_neg {a b : Int} : orZ a b < 0 ↔ a < 0 ∨ (a = 0 ∧ b < 0) := by
  unfold orZ
  split <;> omega
theorem keyCmp_neg {a b : Ky} : keyCmp a b < 0 ↔ lessK a b = true := by
  unfold keyCmp lessK
  rw [orZ_neg, cmpB_neg, cmpB_zero, cmpZ_neg]
  simp only [Bool.or_eq_true, Bool.and_eq_true, decide_eq_true_eq, Int.ofNat_lt]
theorem swoK : SWO (ltOf fun x y : FC => keyCmp x.1.key y.1.key) where
  irrefl x := by unfold ltOf; simp only [decide_eq_false_iff_not]; rw [keyCmp_neg, less_irrefl]; simp
  trans x y z h1 h2 := by
    unfold ltOf at *
    simp only [decide_eq_true_eq] at *
    rw [keyCmp_neg] at *
    exact less_trans h1 h2
  ntrans x y z h1 h2 := by
    unfold ltOf at *
    simp only [decide_eq_false_iff_not] at *
    rw [keyCmp_neg] at *
    intro h3
    rcases less_total x.1.key y.1.key with h | h | h
    · exact h1 h
    · rw [h] at h3; exact h2 h3
    · exact h2 (less_trans h h3)
end Sto
end Go.Proofs.Ytcfdjoohbicomaa

end
