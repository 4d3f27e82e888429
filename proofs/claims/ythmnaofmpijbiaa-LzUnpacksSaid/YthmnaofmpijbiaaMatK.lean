/- Slices of numbers from anywhere in a block of one's own on, and a map of such, keyed by heads. -/
import Derived.Test.YthmnaofmpijbiaaByt
import Derived.Maps.Own
import Derived.Maps.Views
import Derived.WideKeyArr
import Derived.ArgAppend
namespace Go.Proofs.Ythmnaofmpijbiaa
open Go.RowKit Go.Own Go.Maps
namespace Mat

theorem infoInt : (Try.prog.info? 3).map (fun i => (i.zero, i.size, i.bytes)) = some (some (.int .i64 0), 1, 8) := by kernel_rfl
/-- a number as a cell -/
def nv (k : Nat) : Value := .int .i64 (k : Int)

/-- a slice of numbers, from some place of a block of one's own on -/
def Slc (w : World) (v : Value) (zs : List Nat) : Prop :=
  (v = .slice none 0 0 ∧ zs = []) ∨ ∃ g o cap cur, v = .slice (some ⟨g, o, none⟩) zs.length cap ∧ w.heap[g]? = some (.cells cur 3 (0, 0)) ∧ zs.length ≤ cap ∧ cap ≤ maxLen ∧ o + cap ≤ cur.size ∧ ∀ j, j < zs.length → cur[o + j]? = some (nv (zs.getD j 0))

section
variable {w w' : World} {v : Value} {zs : List Nat}
theorem Slc.nil (w : World) : Slc w (.slice none 0 0) [] := .inl ⟨rfl, rfl⟩
theorem Slc.lt (h : Slc w v zs) (k : Nat) (hk : v.ownBlock = some k) : k < w.heap.size := by
  rcases h with ⟨rfl, _⟩ | ⟨g, o, cap, cur, rfl, hb, _⟩
  · cases hk
  · simp only [Value.ownBlock, Option.some.injEq] at hk
    subst hk
    exact lt_of_block hb
theorem Slc.same (h : Slc w v zs) (e : ∀ k, v.ownBlock = some k → w'.heap[k]? = w.heap[k]?) : Slc w' v zs := by
  rcases h with h | ⟨g, o, cap, cur, rfl, hb, r⟩
  · exact .inl h
  · exact .inr ⟨g, o, cap, cur, rfl, (e g rfl).trans hb, r⟩
theorem Slc.kept {row : Option Nat} (h : Slc w v zs) (g : w.grownBy w' row) (hne : ∀ k, v.ownBlock = some k → some k ≠ row) : Slc w' v zs :=
  h.same fun k hk => g.block k (h.lt k hk) (hne k hk)
theorem Slc.later (h : Slc w v zs) (g : Below w.heap.size w w') : Slc w' v zs := h.same fun k hk => g.block k (h.lt k hk)
theorem Slc.step {S T : Nat → Prop} (h : Slc w v zs) (g : Step S T w w') (hd : ∀ k, v.ownBlock = some k → ¬ S k) : Slc w' v zs := h.same fun k hk => g.block k (h.lt k hk) (hd k hk)
theorem Slc.form (h : Slc w v zs) : ∃ ao cap, v = .slice ao zs.length cap ∧ zs.length ≤ cap ∧ cap ≤ maxLen ∧ (ao = none → zs = [] ∧ cap = 0) ∧ ∀ a, ao = some a → a.spot = none ∧ ∀ j, j < zs.length → w.cell? ⟨a.block, a.off + j, none⟩ = some (nv (zs.getD j 0)) := by
  rcases h with ⟨rfl, rfl⟩ | ⟨g, o, cap, cur, rfl, hb, h1, h2, _, h3⟩
  · exact ⟨none, 0, rfl, Nat.le_refl _, by unfold maxLen; omega, fun _ => ⟨rfl, rfl⟩, fun a h => by cases h⟩
  · exact ⟨_, cap, rfl, h1, h2, fun h => by (cases h), fun a ha => by cases ha; exact ⟨rfl, fun j hj => cell_of_block hb (h3 j hj)⟩⟩
/-- one of them off -/
theorem Slc.off {g o cap z : Nat} (h : Slc w (.slice (some ⟨g, o, none⟩) (zs.length + 1) cap) (z :: zs)) : Slc w (.slice (some ⟨g, o + 1, none⟩) zs.length (cap - 1)) zs := by
  rcases h with ⟨h, _⟩ | ⟨g', o', cap', cur, hv, hb, h1, h2, h3, h4⟩
  · cases h
  · simp only [Value.slice.injEq, Option.some.injEq, Addr.mk.injEq, and_true] at hv
    obtain ⟨⟨rfl, rfl⟩, _, rfl⟩ := hv
    simp only [List.length_cons] at h1 h4
    refine .inr ⟨g, o + 1, cap - 1, cur, rfl, hb, by omega, by omega, by omega, fun j hj => ?_⟩
    have := h4 (j + 1) (by omega)
    rw [List.getD_cons_succ] at this
    rw [show o + 1 + j = o + (j + 1) by omega]
    exact this
/-- .. as the language has it: where nothing is left behind, the place stays -/
theorem Slc.off' {g o cap z : Nat} (h : Slc w (.slice (some ⟨g, o, none⟩) (zs.length + 1) cap) (z :: zs)) : Slc w (.slice (if cap = 1 then some ⟨g, o, none⟩ else some ⟨g, o + 1, none⟩) zs.length (cap - 1)) zs := by
  by_cases hc : cap = 1
  · rw [if_pos hc]
    rcases h with ⟨h, _⟩ | ⟨g', o', cap', cur, hv, hb, h1, h2, h3, h4⟩
    · cases h
    · simp only [Value.slice.injEq, Option.some.injEq, Addr.mk.injEq, and_true] at hv
      obtain ⟨⟨rfl, rfl⟩, _, rfl⟩ := hv
      simp only [List.length_cons] at h1
      exact .inr ⟨g, o, cap - 1, cur, rfl, hb, by omega, by omega, by omega, fun j hj => by omega⟩
  · rw [if_neg hc]; exact h.off
/-- append(v, x) -/
theorem Slc.append (h : Slc w v zs) (ty : TypeId) (x : Nat) (bo : Addr) (hx : w.cell? bo = some (nv x)) (hbo : bo.spot = none) (b1 : zs.length + 1 ≤ 1000000000) :
    ∃ v' w', (Builtin.append_ #[46, 46] ty #[v, .slice (some bo) 1 1]).run Try.prog w = .ok v' w' ∧ Slc w' v' (zs ++ [x]) ∧ w.grownBy w' v.ownBlock ∧ (v'.ownBlock = v.ownBlock ∨ ∃ g, v'.ownBlock = some g ∧ w.heap.size ≤ g) := by
  obtain ⟨i0, hi0, hz0, hz1, hz2⟩ := info_parts infoInt
  have hadd : ∀ (a : Addr) (j : Nat), a.spot = none → a.add j = ⟨a.block, a.off + j, none⟩ := by
    intro a j ha
    obtain ⟨b, o, s⟩ := a
    simp only at ha
    subst ha
    unfold Addr.add
    split <;> simp_all
  have hnews : ∀ j u, [nv x][j]? = some u → w.cell? (bo.add j) = some u := by
    intro j u hu
    match j, hu with
    | 0, hu =>
      simp only [List.getElem?_cons_zero, Option.some.injEq] at hu
      subst hu
      rw [hadd bo 0 hbo, ← hx]
      obtain ⟨b, o, s⟩ := bo
      simp only at hbo
      subst hbo
      rfl
  have row : ∀ {w1 : World} {v1 : Value}, w1.ownsRow w.heap.size 3 1 v1 (zs.length + 1) (zs.map nv ++ [nv x]) → Slc w1 v1 (zs ++ [x]) ∧ ∃ g, v1.ownBlock = some g ∧ w.heap.size ≤ g := by
    intro w1 v1 ho
    rcases ho.2 with ⟨_, h0⟩ | ⟨g, cap, cur, rfl, hg, hb, h1, h2, h3, h4⟩
    · omega
    · refine ⟨.inr ⟨g, 0, cap, cur, by simp, hb, by simpa using h1, h2, by omega, fun j hj => ?_⟩, g, rfl, hg⟩
      rw [List.length_append, List.length_singleton] at hj
      rw [Nat.zero_add]
      have e : (cur.toList.take ((zs.length + 1) * 1))[j]? = (zs.map nv ++ [nv x])[j]? := by rw [h4]
      rw [List.getElem?_take_of_lt (by omega)] at e
      rw [← Array.getElem?_toList, e, show zs.map nv ++ [nv x] = (zs ++ [x]).map nv by simp]
      rw [List.getElem?_map, List.getD_eq_getElem?_getD, List.getElem?_eq_getElem (by simp; omega)]
      rfl
  have small : (zs.length + 1) * 8 ≤ 140737488355328 := by omega
  rcases h with ⟨rfl, rfl⟩ | ⟨g, o, cap, cur, rfl, hb, h1, h2, h3, h4⟩
  · obtain ⟨v', w', hr, r1, r2, _⟩ := run_append_own (P := Try.prog) w w.heap.size 46 ty 3 i0 (.int .i64 0) 1 8 Try.underlying46 hi0 hz0 hz1 hz2 rfl (by decide) _ 0 [] (World.ownsRow_nil w _ 3 1) bo 1 1 [nv x] rfl hnews (by intro u hu; simp at hu; subst hu; rfl) (by unfold maxLen; omega) (by omega) (Nat.le_refl _)
    obtain ⟨s1, g, s2, s3⟩ := row (v1 := v') (w1 := w') (by simpa using r1)
    exact ⟨v', w', hr, s1, r2, .inr ⟨g, s2, s3⟩⟩
  · have olds : ∀ j u, (zs.map nv)[j]? = some u → w.cell? ((⟨g, o, none⟩ : Addr).add j) = some u := by
      intro j u hu
      have hj := (List.getElem?_eq_some_iff.1 hu).1
      rw [List.length_map] at hj
      rw [hadd _ j rfl, ← hu, cell_of_block hb (h4 j hj), List.getElem?_map, List.getD_eq_getElem?_getD, List.getElem?_eq_getElem hj]
      rfl
    by_cases hroom : zs.length + 1 ≤ cap
    · have hlt : o + zs.length < cur.size := by omega
      have hr := run_append_room_cells (P := Try.prog) w 46 ty 3 i0 Try.underlying46 hi0 g o zs.length cap bo 1 1 [nv x] (by rw [hz1]; rfl) hnews (by intro u hu; simp at hu; subst hu; rfl) hroom
        (by intro j hj; simp only [List.length_singleton] at hj; obtain rfl : j = 0 := by omega
            rw [hz1, Nat.mul_one, Nat.add_zero, cell_of_block hb (Array.getElem?_eq_getElem hlt)]; rfl)
        (by intro j hj; exact frozen_of_block hb)
      rw [hz1, Nat.mul_one] at hr
      refine ⟨_, _, hr, .inr ⟨g, o, cap, cur.setIfInBounds (o + zs.length) (nv x), by simp, block_setCell hb _, by simpa using hroom, h2, by simpa using h3, fun j hj => ?_⟩, ⟨rfl, rfl, rfl, by simp [World.setCells], fun k _ hk => ?_⟩, .inl rfl⟩
      · rw [List.length_append, List.length_singleton] at hj
        by_cases hj0 : j = zs.length
        · subst hj0
          rw [Array.getElem?_setIfInBounds_self_of_lt hlt, List.getD_eq_getElem?_getD, List.getElem?_append_right (Nat.le_refl _)]
          simp
        · rw [Array.getElem?_setIfInBounds_ne (by omega), h4 j (by omega), List.getD_eq_getElem?_getD, List.getD_eq_getElem?_getD, List.getElem?_append_left (by omega)]
      · show (w.setCell ⟨g, o + zs.length, none⟩ (nv x)).heap[k]? = _
        exact Below.heap_setCell _ _ _ _ (fun e => hk (by rw [e]; rfl))
    · obtain ⟨v', w', hr, r1, r2⟩ := run_append_arg_grows (P := Try.prog) w 46 ty 3 i0 (.int .i64 0) 1 8 Try.underlying46 hi0 hz0 hz1 hz2 rfl (by decide) ⟨g, o, none⟩ zs.length cap (zs.map nv) (by simp) olds bo 1 1 [nv x] rfl hnews (by omega) (by unfold maxLen; omega) small
      obtain ⟨s1, g1, s2, s3⟩ := row r1
      exact ⟨v', w', hr, s1, ⟨r2.os, r2.tape, r2.output, r2.size, fun k hk _ => r2.block k hk (by simp)⟩, .inr ⟨g1, s2, s3⟩⟩
end

/-- such a slice as an object -/
def ASlc (v : Value) (zs : List Nat) : Asn where
  holds S w := Slc w v zs ∧ ∀ k, S k ↔ v.ownBlock = some k
  keep h g hd := ⟨h.1.step g (fun k hk => hd k ((h.2 k).2 hk)), h.2⟩
  lt h k hk := h.1.lt k ((h.2 k).1 hk)
section
variable {B : Nat} {w0 w : World} {Ps : List Asn} {v : Value} {zs : List Nat}
theorem slc_nil (H : St B w0 w Ps) : St B w0 w (ASlc (.slice none 0 0) [] :: Ps) :=
  H.new (S' := fun _ => False) (ASlc _ []) ⟨Slc.nil w, fun k => by simp [Value.ownBlock]⟩ ((Step.refl (fun _ => False) w))
theorem slc_of (H : St B w0 w Ps) (i : Nat) (hi : Ps[i]? = some (ASlc v zs)) : Slc w v zs := by
  obtain ⟨S, hS, _⟩ := H.at i hi
  exact hS.1
theorem wpList_slc_append {ops : Array Oper} {rest : List Oper} {o : Oper} {a : Act} {Q : Exit → Act → World → Prop} (hgd : o.guard = none) (s x : Operand)
    (ho : o.op = .call { callee := .builtin .append, args := #[s, x], argTypes := #[46, 46] }) (H : St B w0 w Ps) (i : Nat) (hi : Ps[i]? = some (ASlc v zs)) (hs : a.eval s = v)
    (bo : Addr) (y : Nat) (hx : a.eval x = .slice (some bo) 1 1) (hbo : bo.spot = none) (hc : w.cell? bo = some (nv y)) (b1 : zs.length + 1 ≤ 1000000000)
    (h : ∀ ao' cap' w', St B w0 w' (Ps.set i (ASlc (.slice ao' (zs.length + 1) cap') (zs ++ [y]))) → wpList Try.prog ops Q rest (a.put o.dst (.slice ao' (zs.length + 1) cap')) w') : wpList Try.prog ops Q (o :: rest) a w := by
  refine wpList_plain hgd fun K hK => ?_
  obtain ⟨S, hS, _, put⟩ := H.at i hi
  obtain ⟨v', w', hrun, r1, r2, r3⟩ := hS.1.append o.type y bo hc hbo b1
  obtain ⟨ao', cap', rfl, _⟩ := r1.form
  rw [List.length_append, List.length_singleton] at *
  unfold Oper.wp
  simp [execOp, ho, resolve, invoke, builtin, hs, hx, hrun, Result.andThen]
  refine hK _ _ (h ao' cap' w' (put (fun k => (Value.slice ao' (zs.length + 1) cap').ownBlock = some k) w' (ASlc _ (zs ++ [y])) ⟨r1, fun k => Iff.rfl⟩ ⟨r2.os, r2.tape, r2.output, r2.size, fun k hk hn => r2.block k hk (fun e => hn ((hS.2 k).2 e.symm)), fun k hk => ?_⟩))
  rcases r3 with r3 | ⟨g, r3, r4⟩
  · exact .inl ((hS.2 k).2 (by rw [← r3]; exact hk))
  · rw [r3] at hk
    cases hk
    exact .inr r4
end

/-! ### the key -/
theorem headArr : WideMaps.ArrKey Try.prog 49 5 3 := ⟨Try.underlying49, by kernel_rfl, by kernel_rfl, by kernel_rfl⟩
theorem headKeyed : Keyed Try.prog 49 := Keyed.of_law headArr.law
theorem sizePos : ∃ m, Try.prog.types.size = m + 1 := ⟨Try.prog.types.size - 1, by kernel_rfl⟩
/-- a head as a value, and as a key -/
def hdV (a b c : UInt8) : Value := .agg #[byteV a, byteV b, byteV c]
def hdL (a b c : UInt8) : Lit := .string (keyBytes [.int .u8 (a.toNat : Int), .int .u8 (b.toNat : Int), .int .u8 (c.toNat : Int)])
theorem u8_wf (a : UInt8) : (Lit.int .u8 (a.toNat : Int)).wf = true := by
  have := a.toNat_lt
  simp [Lit.wf, IntKind.min, IntKind.max, IntKind.signed, IntKind.bits]
  omega
theorem hd_key (a b c : UInt8) : keyOf Try.prog 49 (hdV a b c) = some (hdL a b c) := by
  have A := headArr
  have he : Try.prog.underlying 5 = some (.int .u8) := Try.underlying5
  have hkt := A.keyType sizePos
  obtain ⟨m, hm⟩ := sizePos
  have wa := u8_wf a
  have wb := u8_wf b
  have wc := u8_wf c
  unfold keyOf hdV byteV
  simp only [A.hu]
  rw [if_pos (by simp [hkt, Value.formed, A.hu, A.size]), hm]
  unfold Program.keyLits
  simp only [A.hu, Value.cells]
  rw [if_pos (by rw [A.size]; rfl), show List.range 3 = [0, 1, 2] from rfl, List.mapM_cons, List.mapM_cons, List.mapM_cons, List.mapM_nil]
  simp [A.one, Program.keyLits, he, wa, wb, wc, hdL]
theorem byteV_inj {a b : UInt8} (h : byteV a = byteV b) : a = b := by
  simp only [byteV, Value.int.injEq, true_and] at h
  exact UInt8.toNat_inj.1 (by omega)
theorem hdL_inj {a b c a' b' c' : UInt8} (h : hdL a b c = hdL a' b' c') : a = a' ∧ b = b' ∧ c = c' := by
  have h1 := hd_key a b c
  rw [h] at h1
  have := headKeyed.inj h1 (hd_key a' b' c')
  simp only [hdV, Value.agg.injEq, Array.mk.injEq, List.cons.injEq, and_true] at this
  exact ⟨byteV_inj this.1, byteV_inj this.2.1, byteV_inj this.2.2⟩

/-! ### the map -/
open Classical in
noncomputable def put1 {α : Type} (g : Lit → α) (kl : Lit) (x : α) : Lit → α := fun l => if l = kl then x else g l
theorem put1_same {α : Type} {g : Lit → α} {kl : Lit} {x : α} : put1 g kl x kl = x := by unfold put1; rw [if_pos rfl]
theorem put1_other {α : Type} {g : Lit → α} {kl l : Lit} {x : α} (h : l ≠ kl) : put1 g kl x l = g l := by unfold put1; rw [if_neg h]
def raw : Value → Option (DataW Value × List MemPlace) := fun v => some (.held v, [])
/-- block b is a map of at most n entries; g: the slice at a key; f: the numbers of that slice; no two keys' slices lie in one block -/
def AG (b n : Nat) (g : Lit → Value) (f : Lit → List Nat) : Asn where
  holds S w := (∃ D : DataW Value, w.ownsMap Try.prog 49 raw b n D ∧ ∀ kl, D.atKey kl (.held (.slice none 0 0)) = .held (g kl)) ∧ (∀ kl, Slc w (g kl) (f kl)) ∧
    (∀ kl kl' k, kl ≠ kl' → (g kl).ownBlock = some k → (g kl').ownBlock ≠ some k) ∧ (∀ kl, (g kl).ownBlock ≠ some b) ∧ ∀ k, S k ↔ (k = b ∨ ∃ kl, (g kl).ownBlock = some k)
  keep h gs hd := by
    obtain ⟨⟨D, ⟨es, clock, hb, r⟩, h1⟩, h2, h3, h4, h5⟩ := h
    exact ⟨⟨D, ⟨es, clock, (gs.block _ (lt_of_block hb) (hd _ ((h5 _).2 (.inl rfl)))).trans hb, r⟩, h1⟩, fun kl => (h2 kl).step gs (fun k hk => hd k ((h5 k).2 (.inr ⟨kl, hk⟩))), h3, h4, h5⟩
  lt h k hk := by
    obtain ⟨⟨D, hm, h1⟩, h2, h3, h4, h5⟩ := h
    rcases (h5 k).1 hk with rfl | ⟨kl, hk⟩
    · exact hm.lt
    · exact (h2 kl).lt k hk
section
variable {B : Nat} {w0 w : World} {Ps : List Asn} {b n : Nat} {g : Lit → Value} {f : Lit → List Nat}
/-- make(map[head][]int) -/
theorem ag_made (H : St B w0 w Ps) : St B w0 (w.alloc (.map #[] 0)) (AG w.heap.size 0 (fun _ => .slice none 0 0) (fun _ => []) :: Ps) := by
  refine H.new (S' := fun k => k = w.heap.size) (AG _ 0 _ _) ⟨⟨.map [], World.ownsMap_made w _ _ _, fun kl => rfl⟩, fun kl => Slc.nil _, fun kl kl' k _ h => by (cases h), fun kl h => by (cases h), fun k => ?_⟩ (((Step.refl (fun _ => False) w).alloc (.map #[] 0)).to (fun k hk => .inr (Nat.le_of_eq hk.symm)))
  exact ⟨.inl, fun h => h.elim id (fun ⟨_, h⟩ => by cases h)⟩
theorem ag_slc (H : St B w0 w Ps) (i : Nat) (hi : Ps[i]? = some (AG b n g f)) (kl : Lit) : Slc w (g kl) (f kl) := by
  obtain ⟨S, hS, _⟩ := H.at i hi
  exact hS.2.1 kl
/-- m[k] -/
theorem ag_look (H : St B w0 w Ps) (i : Nat) (hi : Ps[i]? = some (AG b n g f)) (x y z : UInt8) :
    (Instr.lookup 45 (.map (some b)) (hdV x y z) false).run Try.prog w = .ok (g (hdL x y z)) w := by
  obtain ⟨S, ⟨⟨D, hm, h1⟩, _⟩, _⟩ := H.at i hi
  have hz : (zeroValue 46).run Try.prog w = .ok (.slice none 0 0) w := by kernel_rfl
  obtain ⟨v, ps, hrun, hv⟩ := hm.lookup headKeyed Try.underlying45 hz (zd := .held (.slice none 0 0)) (zp := []) rfl (hd_key x y z)
  rw [h1] at hv
  simp only [raw, Option.some.injEq, Prod.mk.injEq, DataW.held.injEq] at hv
  rw [hrun, hv.1]
/-- m[k] = append(what is left of m[k], x) -/
theorem ag_push (H : St B w0 w Ps) (i : Nat) (hi : Ps[i]? = some (AG b n g f)) (p q r : UInt8) (ty : TypeId) (v : Value) (zs : List Nat) (hv : Slc w v zs) (hvb : v.ownBlock = (g (hdL p q r)).ownBlock) (hn : n < 1000000000)
    (x : Nat) (bo : Addr) (hx : w.cell? bo = some (nv x)) (hbo : bo.spot = none) (b1 : zs.length + 1 ≤ 1000000000) :
    ∃ v' w1, (Builtin.append_ #[46, 46] ty #[v, .slice (some bo) 1 1]).run Try.prog w = .ok v' w1 ∧
      ∃ w2 g', (Instr.mapUpdate 45 (.map (some b)) (hdV p q r) v').run Try.prog w1 = .ok () w2 ∧
        St B w0 w2 (Ps.set i (AG b (n + 1) g' (put1 f (hdL p q r) (zs ++ [x])))) := by
  obtain ⟨kl, hkl⟩ : ∃ kl, kl = hdL p q r := ⟨_, rfl⟩
  rw [← hkl] at hvb ⊢
  obtain ⟨S, ⟨⟨D, hm, h1⟩, h2, h3, h4, h5⟩, _, put⟩ := H.at i hi
  obtain ⟨v', w1, hrun, r1, r2, r3⟩ := hv.append ty x bo hx hbo b1
  have hm1 : w1.ownsMap Try.prog 49 raw b n D := hm.kept r2 (fun e => h4 kl (by rw [← hvb, ← e]))
  have hkey : keyOf Try.prog 49 (hdV p q r) = some kl := by rw [hkl]; exact hd_key p q r
  obtain ⟨w2, hrun2, hm2, g2⟩ := hm1.update headKeyed Try.underlying45 (by unfold maxLen; omega) hkey (val := v') (d := .held v') (ps := []) rfl
  have hbw := hm.lt
  -- the new slice lies apart from the map and from the others
  have nb : v'.ownBlock ≠ some b := by
    rcases r3 with r3 | ⟨k, r3, r4⟩
    · rw [r3, hvb]; exact h4 kl
    · rw [r3]; intro e; cases e; omega
  have apart : ∀ l k, l ≠ kl → (g l).ownBlock = some k → v'.ownBlock ≠ some k := by
    intro l k hl hk
    rcases r3 with r3 | ⟨k', r3, r4⟩
    · rw [r3, hvb]; exact h3 l kl k hl hk
    · rw [r3]; intro e; cases e
      have := (h2 l).lt k hk
      omega
  have hD : IsMap D := by obtain ⟨es, clock, _, _, _, hD⟩ := hm; exact ⟨_, hD⟩
  refine ⟨v', w1, hrun, w2, put1 g kl v', hrun2, put (fun k => k = b ∨ ∃ l, (put1 g kl v' l).ownBlock = some k) w2 (AG b (n + 1) _ _) ⟨⟨_, hm2, fun l => ?_⟩, fun l => ?_, fun l l' k hne hk => ?_, fun l => ?_, fun k => Iff.rfl⟩ ?_⟩
  · by_cases hl : l = kl
    · subst hl
      rw [put1_same]
      exact atKey_put_same hD (headKeyed.key hkey) _ _
    · rw [put1_other hl, atKey_put_other hl]
      exact h1 l
  · by_cases hl : l = kl
    · subst hl
      rw [put1_same, put1_same]
      exact r1.kept g2 (fun k hk e => nb (by rw [hk, e]))
    · rw [put1_other hl, put1_other hl]
      refine ((h2 l).kept r2 (fun k hk e => ?_)).kept g2 (fun k hk e => h4 l (by rw [hk, e]))
      rw [hvb] at e
      exact h3 l kl k hl hk e.symm
  · by_cases hl : l = kl
    · by_cases hl' : l' = kl
      · exact absurd (hl.trans hl'.symm) hne
      · rw [hl, put1_same] at hk
        rw [put1_other hl']
        exact fun e => apart l' k hl' e hk
    · rw [put1_other hl] at hk
      by_cases hl' : l' = kl
      · subst hl'; rw [put1_same]
        exact apart l k hl hk
      · rw [put1_other hl']
        exact h3 l l' k hne hk
  · by_cases hl : l = kl
    · subst hl; rw [put1_same]; exact nb
    · rw [put1_other hl]; exact h4 l
  · have hs := r2.size
    refine ⟨g2.os.trans r2.os, g2.tape.trans r2.tape, g2.output.trans r2.output, Nat.le_trans hs g2.size, fun k hk hn => ?_, fun k hk => ?_⟩
    · rw [g2.block k (by omega) (fun e => hn ((h5 k).2 (.inl (by cases e; rfl)))), r2.block k hk (fun e => hn ((h5 k).2 (.inr ⟨kl, by rw [← hvb]; exact e.symm⟩)))]
    · rcases hk with rfl | ⟨l, hk⟩
      · exact .inl ((h5 _).2 (.inl rfl))
      · by_cases hl : l = kl
        · rw [hl, put1_same] at hk
          rcases r3 with r3 | ⟨k', r3, r4⟩
          · exact .inl ((h5 k).2 (.inr ⟨kl, by rw [← hvb, ← r3]; exact hk⟩))
          · rw [r3] at hk
            cases hk
            exact .inr r4
        · rw [put1_other hl] at hk
          exact .inl ((h5 k).2 (.inr ⟨l, hk⟩))
end
/-- the two operations, for a walk -/
theorem wpList_app {ops : Array Oper} {rest : List Oper} {o : Oper} {a : Act} {w : World} {Q : Exit → Act → World → Prop} (hgd : o.guard = none) (s x : Operand)
    (ho : o.op = .call { callee := .builtin .append, args := #[s, x], argTypes := #[46, 46] }) (v : Value) (bo : Addr) (hs : a.eval s = v) (hx : a.eval x = .slice (some bo) 1 1) (v' : Value) (w1 : World)
    (hrun : (Builtin.append_ #[46, 46] o.type #[v, .slice (some bo) 1 1]).run Try.prog w = .ok v' w1) (h : wpList Try.prog ops Q rest (a.put o.dst v') w1) : wpList Try.prog ops Q (o :: rest) a w := by
  refine wpList_plain hgd fun K hK => ?_
  unfold Oper.wp
  simp [execOp, ho, resolve, invoke, builtin, hs, hx, hrun, Result.andThen]
  exact hK _ _ h
theorem wpList_upd {ops : Array Oper} {rest : List Oper} {o : Oper} {a : Act} {w : World} {Q : Exit → Act → World → Prop} (hgd : o.guard = none) (m k x : Operand) (t : TypeId) (ho : o.op = Op.mapUpdate t m k x)
    (mv kv xv : Value) (hm : a.eval m = mv) (hk : a.eval k = kv) (hx : a.eval x = xv) (w1 : World) (hrun : (Instr.mapUpdate t mv kv xv).run Try.prog w = .ok () w1) (h : wpList Try.prog ops Q rest (a.put o.dst undef) w1) : wpList Try.prog ops Q (o :: rest) a w := by
  refine wpList_plain hgd fun K hK => ?_
  unfold Oper.wp
  simp [execOp, ho, hm, hk, hx, hrun, Result.andThen]
  exact hK _ _ h
end Mat
end Go.Proofs.Ythmnaofmpijbiaa
