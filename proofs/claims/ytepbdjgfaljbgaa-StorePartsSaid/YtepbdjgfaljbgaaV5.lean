/- Merged: StoI StoC StpA LawStoP -/
import Derived.WideKeyEntry
import Derived.Test.YtepbdjgfaljbgaaV1
import Derived.Test.YtepbdjgfaljbgaaV2
import Derived.Test.YtepbdjgfaljbgaaV4
set_option linter.unusedVariables false
section
namespace Go.Proofs.Ytepbdjgfaljbgaa
open Go.RowKit Go.Own
namespace Sto
open Go.StoM Byt
def inKy : InT Ky := fun k _ _ cs => cs = kC k ∧ FitK k
def inPl : InT Pl := fun p _ _ cs => cs = pC p ∧ FitP p
theorem wfI {a : Int} (h : (Lit.int .i64 a).wf = true) : i64S a := by
  simp [Lit.wf, IntKind.min, IntKind.max, IntKind.signed, IntKind.bits] at h
  unfold i64S
  omega
theorem opens_ky : Opens Try.prog 36 inKy := by
  intro H enc w fuel cs x h
  obtain ⟨⟨s, u⟩, e, h1, h2⟩ := Rec.opens_key H enc w fuel cs x h
  exact ⟨⟨s, u⟩, e, ⟨h1, h2⟩⟩
theorem opens_pl : Opens Try.prog 72 inPl := by
  intro H enc w fuel cs x h
  obtain ⟨hl, hf⟩ := opens_fields (P := Try.prog) Try.underlying72 h
  rw [show Try.prog.cellsOf 72 = 3 by kernel_rfl] at hl
  obtain ⟨c0, c1, c2, rfl⟩ : ∃ a b c, cs = [a, b, c] := by
    rcases cs with _ | ⟨c0, _ | ⟨c1, _ | ⟨c2, _ | ⟨c3, r⟩⟩⟩⟩
    · simp at hl
    · simp at hl
    · simp at hl
    · exact ⟨c0, c1, c2, rfl⟩
    · simp at hl
  obtain ⟨n0, y0, h0⟩ := hf 0 _ rfl
  obtain ⟨n1, y1, h1⟩ := hf 1 _ rfl
  obtain ⟨n2, y2, h2⟩ := hf 2 _ rfl
  obtain ⟨a0, e0, w0⟩ := opens_int (P := Try.prog) Try.underlying3 H enc w n0 _ y0 h0
  obtain ⟨a1, e1, w1⟩ := opens_int (P := Try.prog) Try.underlying3 H enc w n1 _ y1 h1
  obtain ⟨a2, e2, w2⟩ := opens_int (P := Try.prog) Try.underlying3 H enc w n2 _ y2 h2
  have k1 : Try.prog.cellsOf 3 = 1 := by kernel_rfl
  have e0' : c0 = .int .i64 a0 := by simpa [k1] using e0
  have e1' : c1 = .int .i64 a1 := by simpa [k1] using e1
  have e2' : c2 = .int .i64 a2 := by simpa [k1] using e2
  subst e0' e1' e2'
  exact ⟨⟨a0, a1, a2⟩, rfl, ⟨wfI w0, wfI w1, wfI w2⟩⟩
theorem opens_act : Opens Try.prog 82 inAct := by
  intro H enc w fuel cs x h
  obtain ⟨hl, hf⟩ := opens_fields (P := Try.prog) Try.underlying82 h
  rw [show Try.prog.cellsOf 82 = 37 by kernel_rfl] at hl
  obtain ⟨n0, y0, h0⟩ := hf 0 _ rfl
  obtain ⟨n1, y1, h1⟩ := hf 1 _ rfl
  obtain ⟨n2, y2, h2⟩ := hf 2 _ rfl
  obtain ⟨a0, e0, w0⟩ := opens_int (P := Try.prog) Try.underlying5 H enc w n0 _ y0 h0
  obtain ⟨k, e1, w1⟩ := opens_ky H enc w n1 _ y1 h1
  obtain ⟨p, e2, w2⟩ := opens_pl H enc w n2 _ y2 h2
  have k0 : Try.prog.cellsOf 5 = 1 := by kernel_rfl
  have k1 : Try.prog.cellsOf 36 = 33 := by kernel_rfl
  have k2 : Try.prog.cellsOf 72 = 3 := by kernel_rfl
  have e0' : cs.take 1 = [.int .u8 a0] := by simpa [k0] using e0
  have e1' : (cs.drop 1).take 33 = kC k := by simpa [k0, k1] using e1
  have e2' : (cs.drop 34).take 3 = pC p := by simpa [k0, k1, k2] using e2
  obtain ⟨u0, hu0⟩ := u8_byte w0
  subst hu0
  refine ⟨⟨u0, k, p⟩, ?_, ⟨w1, w2⟩⟩
  show cs = .int .u8 (u0.toNat : Int) :: (kC k ++ pC p)
  rw [List.take_of_length_le (by simp [hl])] at e2'
  rw [← e1', ← e2', ← List.singleton_append, ← e0']
  rw [show cs.drop 34 = (cs.drop 1).drop 33 by rw [List.drop_drop], List.take_append_drop, List.take_append_drop]
end Sto
end Go.Proofs.Ytepbdjgfaljbgaa

end
section
namespace Go.Own
open Go.RowKit Go.Maps Go.WideElems
open Go.WideMaps (KeyLaw)
section
variable {P : Program} {kt mt vt : TypeId} {z : Value} {B : Nat} {w0 w : World} {Ps : List Asn} {b n : Nat} {g : Lit → Value}
end
end Go.Own
namespace Go.Proofs.Ytepbdjgfaljbgaa
open Go.RowKit Go.Own Go.Maps
namespace Sto
open Go.StoM Byt
theorem one_key {l : List Ch} (hs : Sorted l) {c d : Ch} (hc : c ∈ l) (hd : d ∈ l) (h : c.key = d.key) : c = d := by
  have h1 := (at_iff hs (k := d.key)).2 ⟨d, hd, rfl⟩
  have hp := List.pairwise_iff_getElem.1 hs
  obtain ⟨i, hi, rfl⟩ := List.mem_iff_getElem.1 hc
  obtain ⟨j, hj, rfl⟩ := List.mem_iff_getElem.1 hd
  by_cases e : i = j
  · subst e; rfl
  · rcases Nat.lt_or_gt_of_ne e with g | g
    · have := hp i j hi hj g
      simp [h, less_irrefl] at this
    · have := hp j i hj hi g
      simp [h, less_irrefl] at this
theorem getS_of {l : List Ch} (hs : Sorted l) {c : Ch} (hc : c ∈ l) : getS l c.key = c := by
  have h1 := (at_iff hs (k := c.key)).2 ⟨c, hc, rfl⟩
  rw [getS_at h1]
  exact one_key hs (at_mem h1).1 hc (at_mem h1).2
/-- a key's number behind an act -/
def refsA (r : Int) (kd : Nat) : Int := if kd = 0 then (if r = 0 then 1 else r) else if kd = 1 then (if r > 0 then r + 1 else r) else if kd = 2 then (if r > 0 then r - 1 else r) else r
def okA (r : Int) (kd : Nat) : Bool := if kd = 0 then decide (r = 0) else decide (r > 0)
structure Refs (l : List Ch) (a : ActD) : Prop where
  same : (getS (doAct l a).1 a.k).refs = refsA (getS l a.k).refs (a.kind.toNat % 4)
  is : isAt (doAct l a).1 a.k = decide (refsA (getS l a.k).refs (a.kind.toNat % 4) > 0)
  other : ∀ k, k ≠ a.k → getS (doAct l a).1 k = getS l k
  gone : (doAct l a).2.1 = (decide (a.kind.toNat % 4 = 2) && decide ((getS l a.k).refs = 1))
  err : decide ((doAct l a).2.2 = 0) = okA (getS l a.k).refs (a.kind.toNat % 4)
end Sto
end Go.Proofs.Ytepbdjgfaljbgaa

end
section
namespace Go.Proofs.Ytepbdjgfaljbgaa
open Go.RowKit Go.Own Go.Maps
namespace Stp
open Go.StoM Byt Sto
theorem iKeyed : Keyed Try.prog 3 := int_keyed Try.underlying3
def klI (x : Int) : Lit := .int .i64 x
theorem klI_inj {a b : Int} (h : klI a = klI b) : a = b := by
  unfold klI at h
  simpa using h
theorem key_of {x : Int} (h : i64S x) : keyOf Try.prog 3 (.int .i64 x) = some (klI x) :=
  keyOf_int_mk Try.underlying3 (by unfold i64S at h; simp [Lit.wf, IntKind.min, IntKind.max, IntKind.signed, IntKind.bits]; omega)
theorem mapTI : Try.prog.underlying 79 = some (.map 3 4) := Try.underlying79
/-- the map's keys -/
structure Reads (D : DataW Value) (ks : List Int) : Prop where
  has : ∀ k, Maps.has D k = true ↔ ∃ e ∈ ks, klI e = k
  size : Maps.size D = ks.length
  nodup : ks.Nodup
  fit : ∀ x ∈ ks, i64S x
def ASeg (b : Nat) (ks : List Int) : Asn where
  holds S w := (∃ D : DataW Value, w.ownsMap Try.prog 3 rawV b ks.length D ∧ Reads D ks) ∧ ∀ k, S k ↔ k = b
  keep h gs hd := by
    obtain ⟨⟨D, ⟨es, clock, hb, r⟩, h1⟩, h5⟩ := h
    exact ⟨⟨D, ⟨es, clock, (gs.block _ (lt_of_block hb) (hd _ ((h5 _).2 rfl))).trans hb, r⟩, h1⟩, h5⟩
  lt h k hk := by
    obtain ⟨⟨D, hm, h1⟩, h5⟩ := h
    rw [(h5 k).1 hk]
    exact hm.lt
theorem tight {w : World} {b n : Nat} {D : DataW Value} (h : w.ownsMap Try.prog 3 rawV b n D) {ks : List Int} (hr : Reads D ks) : w.ownsMap Try.prog 3 rawV b ks.length D := by
  obtain ⟨es, clock, hb, F, _, rfl⟩ := h
  refine ⟨es, clock, hb, F, ?_, rfl⟩
  rw [← hr.size]
  simp [Maps.size, length_sorted]
theorem reads_nil : Reads (.map []) [] := ⟨fun k => by simp [Maps.has], rfl, List.nodup_nil, fun x h => by cases h⟩
def addK (ks : List Int) (x : Int) : List Int := if x ∈ ks then ks else x :: ks
theorem mem_addK {ks : List Int} {x y : Int} : y ∈ addK ks x ↔ y ∈ ks ∨ y = x := by
  unfold addK
  split
  · rename_i h
    exact ⟨.inl, fun h2 => h2.elim id (fun e => e ▸ h)⟩
  · rw [List.mem_cons]; exact Or.comm
theorem addK_len (ks : List Int) (x : Int) : (addK ks x).length ≤ ks.length + 1 := by unfold addK; split <;> simp
/-- a map that is ranged over, and its iterator -/
def ARngS (b r : Nat) (ks : List Int) (left : Lit → Bool) (cnt : Nat) : Asn where
  holds S w := (∃ (D : DataW Value) (n : Nat), w.ranges Try.prog 3 rawV b r n D left cnt ∧ Reads D ks) ∧ ∀ k, S k ↔ (k = b ∨ k = r)
  keep h gs hd := by
    obtain ⟨⟨D, n, hr, h1⟩, h5⟩ := h
    have l1 := hr.owns.lt
    have l2 := hr.lt
    obtain ⟨es, clock, since, seen, c0, hb, F, hs, hD, hi, rest⟩ := hr
    exact ⟨⟨D, n, ⟨es, clock, since, seen, c0, (gs.block _ l1 (hd _ ((h5 _).2 (.inl rfl)))).trans hb, F, hs, hD, (gs.block _ l2 (hd _ ((h5 _).2 (.inr rfl)))).trans hi, rest⟩, h1⟩, h5⟩
  lt h k hk := by
    obtain ⟨⟨D, n, hr, h1⟩, h5⟩ := h
    rcases (h5 k).1 hk with rfl | rfl
    · exact hr.owns.lt
    · exact hr.lt
section
variable {B : Nat} {w0 w : World} {Ps : List Asn} {b r : Nat} {ks : List Int} {left : Lit → Bool} {cnt : Nat}
theorem segMake (H : Own.St B w0 w Ps) : ∃ w' b, (Instr.makeMap 79 none).run Try.prog w = .ok (.map (some b)) w' ∧ Own.St B w0 w' (ASeg b [] :: Ps) :=
  ⟨_, w.heap.size, run_makeMap 79 w, H.new (S' := fun k => k = w.heap.size) (ASeg _ []) ⟨⟨.map [], World.ownsMap_made w _ _ _, reads_nil⟩, fun k => Iff.rfl⟩ (((Step.refl (fun _ => False) w).alloc (.map #[] 0)).to (fun k hk => .inr (Nat.le_of_eq hk.symm)))⟩
theorem segPut (H : Own.St B w0 w Ps) (i : Nat) (hi : Ps[i]? = some (ASeg b ks)) {x : Int} (hx : i64S x) (hl : ks.length ≤ 1000000) (v : Value) :
    ∃ w', (Instr.mapUpdate 79 (.map (some b)) (.int .i64 x) v).run Try.prog w = .ok () w' ∧ Own.St B w0 w' (Ps.set i (ASeg b (addK ks x))) := by
  obtain ⟨S, ⟨⟨D, hm, hr⟩, h5⟩, _, put⟩ := H.at i hi
  obtain ⟨w2, hrun2, hm2, g2⟩ := hm.update iKeyed mapTI (by unfold maxLen; omega) (key_of hx) (val := v) (d := .held v) (ps := []) rfl
  have ht := hm.tidy iKeyed
  have hD := ht.isMap
  have hkey : WideAt.IsKeyLit (klI x) := iKeyed.key (key_of hx)
  have hh : Maps.has D (klI x) = decide (x ∈ ks) := by
    by_cases h : x ∈ ks
    · rw [decide_eq_true h]; exact (hr.has _).2 ⟨x, h, rfl⟩
    · rw [decide_eq_false h]
      cases h2 : Maps.has D (klI x)
      · rfl
      · obtain ⟨e, he, hk⟩ := (hr.has _).1 h2
        rw [klI_inj hk] at he
        exact absurd he h
  have hr2 : Reads (D.put (klI x) (.held v)) (addK ks x) := by
    refine ⟨fun k => ?_, ?_, ?_, fun y hy => ?_⟩
    · by_cases hk : k = klI x
      · rw [hk, has_put_same hD hkey]
        exact ⟨fun _ => ⟨x, mem_addK.2 (.inr rfl), rfl⟩, fun _ => rfl⟩
      · rw [has_put_other hk, hr.has]
        constructor
        · rintro ⟨e, he, e2⟩
          exact ⟨e, mem_addK.2 (.inl he), e2⟩
        · rintro ⟨e, he, e2⟩
          rcases mem_addK.1 he with h | h
          · exact ⟨e, h, e2⟩
          · rw [h] at e2; exact absurd e2.symm hk
    · rw [size_put ht, hh, hr.size]
      unfold addK
      by_cases h : x ∈ ks
      · rw [if_pos h, if_pos (decide_eq_true h)]
      · rw [if_neg h, if_neg (by simp [h])]; rfl
    · unfold addK
      split
      · exact hr.nodup
      · rename_i h; exact List.nodup_cons.2 ⟨h, hr.nodup⟩
    · rcases mem_addK.1 hy with h | h
      · exact hr.fit y h
      · rw [h]; exact hx
  refine ⟨w2, hrun2, put (fun k => k = b) w2 (ASeg b (addK ks x)) ⟨⟨_, tight hm2 hr2, hr2⟩, fun k => Iff.rfl⟩ ?_⟩
  exact ⟨g2.os, g2.tape, g2.output, g2.size, fun k hk hn => g2.block k hk (fun e => hn ((h5 k).2 (by cases e; rfl))), fun k hk => .inl ((h5 k).2 hk)⟩
theorem segFacts (H : Own.St B w0 w Ps) (i : Nat) (hi : Ps[i]? = some (ASeg b ks)) : ks.Nodup ∧ ∀ x ∈ ks, i64S x := by
  obtain ⟨S, ⟨⟨D, hm, hr⟩, h5⟩, _, put⟩ := H.at i hi
  exact ⟨hr.nodup, hr.fit⟩
theorem segStart (H : Own.St B w0 w Ps) (i : Nat) (hi : Ps[i]? = some (ASeg b ks)) : ∃ w' left cnt, (Instr.range 79 (.map (some b))).run Try.prog w = .ok (.pointer (some ⟨w.heap.size, 0, none⟩)) w' ∧ Own.St B w0 w' (Ps.set i (ARngS b w.heap.size ks left cnt)) ∧ ∀ c ∈ ks, left (klI c) = true := by
  obtain ⟨S, ⟨⟨D, hm, hr⟩, h5⟩, _, put⟩ := H.at i hi
  obtain ⟨w', hrun, r1, g, hsz⟩ := hm.range iKeyed mapTI
  refine ⟨w', _, _, hrun, put (fun k => k = b ∨ k = w.heap.size) w' (ARngS b _ ks _ _) ⟨⟨D, _, r1, hr⟩, fun _ => Iff.rfl⟩ ?_, fun c hc => (hr.has _).2 ⟨c, hc, rfl⟩⟩
  refine ⟨g.os, g.tape, g.output, g.size, fun k hk _ => g.block k hk (by simp), fun k hk => ?_⟩
  rcases hk with rfl | rfl
  · exact .inl ((h5 _).2 rfl)
  · exact .inr (Nat.le_refl _)
theorem segLeft (H : Own.St B w0 w Ps) (i : Nat) (hi : Ps[i]? = some (ARngS b r ks left cnt)) : w.rangeLeft b r = cnt := by
  obtain ⟨S, ⟨⟨D, n, hr, _⟩, _⟩, _⟩ := H.at i hi
  exact hr.left_eq
theorem segNext (H : Own.St B w0 w Ps) (i : Nat) (hi : Ps[i]? = some (ARngS b r ks left cnt)) (ty : TypeId) :
    ((∀ kl, left kl = false) ∧ (Instr.next (.pointer (some ⟨r, 0, none⟩)) false ty).run Try.prog w = .ok (.tuple #[.bool false]) w) ∨
    ∃ c v w' left' cnt', c ∈ ks ∧ left (klI c) = true ∧ (Instr.next (.pointer (some ⟨r, 0, none⟩)) false ty).run Try.prog w = .ok (.tuple #[.bool true, .int .i64 c, v]) w' ∧ Own.St B w0 w' (Ps.set i (ARngS b r ks left' cnt')) ∧ cnt' < cnt ∧
      (∀ d ∈ ks, d ≠ c → left' (klI d) = left (klI d)) ∧ left' (klI c) = false ∧ (Instr.entry (.pointer (some ⟨r, 0, none⟩))).run Try.prog w' = .ok (.tuple #[.int .i64 c, v]) w' := by
  obtain ⟨S, ⟨⟨D, n, hr, hd⟩, h5⟩, _, put⟩ := H.at i hi
  rcases hr.next iKeyed ty with ⟨_, hl, hrun⟩ | ⟨key, v, kl, y, w', cnt', hkey, hlk, hv, hat, hrun, hrg, hlt, hgr, hsz, hen⟩
  · exact .inl ⟨hl, hrun⟩
  · right
    have hh := has_true_of_atKey hat
    obtain ⟨c, hc, e⟩ := (hd.has kl).1 hh
    have hck := key_of (hd.fit c hc)
    rw [e] at hck
    have ek := iKeyed.inj hkey hck
    rw [ek] at hrun hen
    refine ⟨c, v, w', _, cnt', hc, by rw [e]; exact hlk, hrun, put (fun k => k = b ∨ k = r) w' (ARngS b r ks _ cnt') ⟨⟨D, n, hrg, hd⟩, fun _ => Iff.rfl⟩ ?_, hlt, fun d hd2 hne => ?_, ?_, hen⟩
    · exact ⟨hgr.os, hgr.tape, hgr.output, hgr.size, fun k hk hn => hgr.block k hk (fun e => hn ((h5 k).2 (.inr (by cases e; rfl)))), fun k hk => .inl ((h5 k).2 hk)⟩
    · have hkd : klI d ≠ kl := fun e2 => hne (klI_inj (by rw [e2, e]))
      show (left (klI d) && !(klI d).sameKey kl) = _
      rw [Maps.sameKey_ne hkd]
      simp
    · show (left (klI c) && !(klI c).sameKey kl) = false
      rw [← e, WideAt.sameKey_self (iKeyed.key (key_of (hd.fit c hc)))]
      simp
end
/-! ### the parts -/
def cntS : List Int → List Ch → Nat
  | [], _ => 0
  | s :: ks, l => (l.filter fun c => decide (c.place.seg = s)).length + cntS ks l
theorem cntS_nil : ∀ ks : List Int, cntS ks [] = 0
  | [] => rfl
  | s :: ks => by unfold cntS; rw [cntS_nil ks]; rfl
theorem cntS_cons (c : Ch) (l : List Ch) : ∀ ks : List Int, cntS ks (c :: l) = ks.count c.place.seg + cntS ks l
  | [] => rfl
  | s :: ks => by
    unfold cntS
    rw [cntS_cons c l ks, List.filter_cons, List.count_cons]
    by_cases h : c.place.seg = s
    · rw [if_pos (decide_eq_true h), if_pos (by simp [h]), List.length_cons]; omega
    · rw [if_neg (by simp [h]), if_neg (by simp; exact fun e => h e.symm)]; omega
theorem cntS_perm {ks js : List Int} (h : ks.Perm js) (l : List Ch) : cntS ks l = cntS js l := by
  induction h with
  | nil => rfl
  | cons x _ ih => unfold cntS; rw [ih]
  | swap x y l' => unfold cntS; unfold cntS; omega
  | trans _ _ h1 h2 => rw [h1, h2]
theorem count_nodup {α : Type} [BEq α] [LawfulBEq α] {x : α} : ∀ {ks : List α}, ks.Nodup → ks.count x ≤ 1
  | [], _ => by simp
  | y :: ks, h => by
    have h1 := List.nodup_cons.1 h
    rw [List.count_cons]
    by_cases e : y = x
    · subst e
      rw [List.count_eq_zero.2 h1.1]
      simp
    · have := count_nodup (x := x) h1.2
      rw [if_neg (by simpa using e)]
      omega
theorem count_one {α : Type} [BEq α] [LawfulBEq α] {x : α} {ks : List α} (h : ks.Nodup) (hx : x ∈ ks) : ks.count x = 1 := by
  have h1 := count_nodup (x := x) h
  have h2 := List.count_pos_iff.2 hx
  omega
theorem cntS_le {ks : List Int} (h : ks.Nodup) : ∀ l : List Ch, cntS ks l ≤ l.length
  | [] => by rw [cntS_nil]; exact Nat.le_refl _
  | c :: l => by
    rw [cntS_cons]
    have := cntS_le h l
    have := count_nodup (x := c.place.seg) h
    simp only [List.length_cons]
    omega
theorem cntS_eq {ks : List Int} (h : ks.Nodup) : ∀ l : List Ch, (∀ c ∈ l, c.place.seg ∈ ks) → cntS ks l = l.length
  | [], _ => cntS_nil ks
  | c :: l, hm => by
    rw [cntS_cons, cntS_eq h l (fun d hd => hm d (List.mem_cons_of_mem _ hd)), count_one h (hm c (List.mem_cons_self ..))]
    simp only [List.length_cons]
    omega
/-- the keys that have been met -/
def metS (left : Lit → Bool) (ks : List Int) : List Int := ks.filter fun x => !left (klI x)
theorem filter_oneG {α : Type} {p p' : α → Bool} {l : List α} (hn : l.Nodup) {c : α} (hc : c ∈ l) (h0 : p c = false) (h1 : p' c = true) (h2 : ∀ d ∈ l, d ≠ c → p' d = p d) : (l.filter p').Perm (c :: l.filter p) := by
  induction l with
  | nil => cases hc
  | cons a l ih =>
    have hn' := List.nodup_cons.1 hn
    by_cases ha : a = c
    · subst ha
      rw [List.filter_cons_of_pos h1, List.filter_cons_of_neg (by simp [h0])]
      have : l.filter p' = l.filter p := List.filter_congr (fun d hd => h2 d (List.mem_cons_of_mem _ hd) (fun e => hn'.1 (e ▸ hd)))
      rw [this]
    · have hcl : c ∈ l := (List.mem_cons.1 hc).resolve_left (Ne.symm ha)
      have := ih hn'.2 hcl (fun d hd => h2 d (List.mem_cons_of_mem _ hd))
      by_cases hp : p a = true
      · rw [List.filter_cons_of_pos hp, List.filter_cons_of_pos (by rw [h2 a (List.mem_cons_self ..) ha]; exact hp)]
        exact (this.cons a).trans (List.Perm.swap c a _)
      · rw [List.filter_cons_of_neg hp, List.filter_cons_of_neg (by rw [h2 a (List.mem_cons_self ..) ha]; exact hp)]
        exact this
theorem metS_step {ks : List Int} (hn : ks.Nodup) {left left' : Lit → Bool} {c : Int} (hc : c ∈ ks) (h0 : left (klI c) = true) (h1 : left' (klI c) = false) (h2 : ∀ d ∈ ks, d ≠ c → left' (klI d) = left (klI d)) : (metS left' ks).Perm (c :: metS left ks) :=
  filter_oneG hn hc (by simp [h0]) (by simp [h1]) (fun d hd hne => by rw [h2 d hd hne])
theorem cnt_live {l : List Ch} (hs : Sorted l) (s : Int) (ks : List Int) : cntS (s :: ks) l = (live s l).length + cntS ks l := by
  show (l.filter fun c => decide (c.place.seg = s)).length + cntS ks l = _
  rw [(live_is s hs).2.length_eq]
/-- where an act's chunks lie -/
theorem segs_act (l : List Ch) (a : ActD) : ∀ c ∈ (doAct l a).1, (∃ d ∈ l, d.place.seg = c.place.seg) ∨ c.place.seg = a.p.seg := by
  intro c hc
  have hset : ∀ (d : Ch) (i : Nat), c ∈ l.set i d → c ∈ l ∨ c = d := fun d i h => List.mem_or_eq_of_mem_set h
  rcases (show a.kind.toNat % 4 = 0 ∨ a.kind.toNat % 4 = 1 ∨ a.kind.toNat % 4 = 2 ∨ a.kind.toNat % 4 = 3 by omega) with h | h | h | h
  · rw [act_add h] at hc
    simp only [addS] at hc
    split at hc
    · exact .inl ⟨c, hc, rfl⟩
    · rcases mem_putAt.1 hc with h2 | h2
      · exact .inl ⟨c, h2, rfl⟩
      · rw [h2]; exact .inr rfl
  · rw [act_ref h] at hc
    simp only [refS] at hc
    split at hc
    · rename_i his
      rcases hset _ _ hc with h2 | h2
      · exact .inl ⟨c, h2, rfl⟩
      · rw [h2]; exact .inl ⟨_, (at_mem his).1, rfl⟩
    · exact .inl ⟨c, hc, rfl⟩
  · rw [act_unref h] at hc
    simp only [unrefS] at hc
    split at hc
    · rename_i his
      split at hc
      · rcases hset _ _ hc with h2 | h2
        · exact .inl ⟨c, h2, rfl⟩
        · rw [h2]; exact .inl ⟨_, (at_mem his).1, rfl⟩
      · exact .inl ⟨c, (List.eraseIdx_sublist _ _).subset hc, rfl⟩
    · exact .inl ⟨c, hc, rfl⟩
  · rw [act_move h] at hc
    simp only [moveS] at hc
    split at hc
    · rcases hset _ _ hc with h2 | h2
      · exact .inl ⟨c, h2, rfl⟩
      · rw [h2]; exact .inr rfl
    · exact .inl ⟨c, hc, rfl⟩
end Stp
end Go.Proofs.Ytepbdjgfaljbgaa

end
section
namespace Go.Proofs.Ytepbdjgfaljbgaa
open Go.RowKit Go.Own Go.Maps
namespace Stp
open Go.StoM Byt Sto
open Rec (load_key)
theorem fldK {o : Oper} {X : Operand} (ho : o.op = .fieldAddr 74 X 0) {p k : Nat} (ρ : Operand → Value) (w : World) (h0 : ρ X = .pointer (some ⟨p, k, none⟩)) : (execOp ρ o).run Try.prog w = .ok (.value (.pointer (some ⟨p, k, none⟩))) w := by
  simp [execOp, ho, h0, go_sem, add_of]
section
variable {B : Nat} {w0 w : World} {Ps : List Asn}
theorem row_range (H : Own.St B w0 w Ps) (i : Nat) {g n cap : Nat} {L : List Ch} (hi : Ps[i]? = some (ARow 74 37 (.slice (some ⟨g, 0, none⟩) n cap) n (L.flatMap chC))) (hf : ∀ c ∈ L, Fit c) (hl : L.length = n) {j : Nat} {c : Ch} (hj : L[j]? = some c) : w.rangeAt g (j * 37) (chC c) := by
  intro k u hu
  have hfc := hf c (List.mem_of_getElem? hj)
  have hk : k < 37 := by rw [← chC_len hfc.key]; exact (List.getElem?_eq_some_iff.1 hu).1
  have hjl := (List.getElem?_eq_some_iff.1 hj).1
  obtain ⟨g', hg', ⟨u', h1, h2⟩, _⟩ := H.rowAt i hi (j * 37 + k) (by omega)
  cases hg'
  rw [flat_at chC 37 L (fun c hc => chC_len (hf c hc).key) j c hj k hk, hu] at h1
  cases h1
  exact h2
theorem row_some (H : Own.St B w0 w Ps) (i : Nat) {ao : Option Addr} {n cap : Nat} {xs : List Value} (hi : Ps[i]? = some (ARow 74 37 (.slice ao n cap) n xs)) (hn : 0 < n) : ∃ g, ao = some ⟨g, 0, none⟩ := by
  obtain ⟨g, hg, _⟩ := H.rowAt i hi 0 (by omega)
  exact ⟨g, hg⟩
theorem key_of_range {g o : Nat} {c : Ch} (hf : Fit c) (h : w.rangeAt g o (chC c)) : w.rangeAt g o (kC c.key) := fun j v hv => h j v (chC_key hf.key j v hv)
theorem zero_len : (chC zeroCh).length = 37 := chC_len zero_fit.key
end
set_option maxRecDepth 10000 in
set_option maxHeartbeats 25600000 in
theorem walk_parts (a1 : Option Addr) (len1 cap1 : Nat) (l : List ActD) {w : World} (w1 : inSlice 37 inAct l w.heap.size w [.slice a1 len1 cap1]) :
    Calls Try.prog 10 #[.slice a1 len1 cap1] w (RetYes w) := by
  obtain ⟨hlen, hcap, hmax, hnil, hat⟩ := acts_inF (c := 37) (fun a fa => actC_len fa) w1
  have HF := Lib.hid (few_any a1 len1 cap1 hcap hmax)
  have HAT := Lib.hid hat
  have HLEN := Lib.hid hlen
  clear hat hlen hmax hnil w1
  have SH := Lib.hid (shown_any w)
  go_enter Try.func10, Try.ntmps10
  go_wp2_with (fail)
  refine SH.out.mono ?_
  rintro e wa ⟨rfl, h1⟩
  have H2 := Lib.hid ((Own.St.start w).later h1)
  clear h1 SH
  go_wp2_with (fail)
  refine (new_any H2.out).mono ?_
  rintro e wb ⟨p, rfl, h⟩
  obtain ⟨w3, bm, hmk, h3⟩ := segMake h
  have H3 := Lib.hid h3.swap2
  clear h h3 H2
  go_wp2_with (fail)
  clear hmk
  refine (HF.out w3).mono ?_
  rintro e wf ⟨rfl, rfl⟩
  obtain ⟨n, hk⟩ : ∃ k, k = min len1 200 := ⟨_, rfl⟩
  rw [← hk]
  have hn1 : n ≤ len1 := by omega
  have hn2 : n ≤ 200 := by omega
  clear hk HF
  go_wp2
  go_loopw [31] (fun v31 wr => ∃ (i : Nat) (S : List Ch) (ks : List Int), i ≤ n ∧ v31 = .int .i64 (i : Int) ∧ Own.St w.heap.size w wr [AS p S, ASeg bm ks] ∧ Ok S ∧ Lim S i ∧ (∀ c ∈ S, c.place.seg ∈ ks) ∧ ks.length ≤ i) (fun v31 _ => n - (intOf v31).toNat)
  case atStart => exact ⟨0, [], [], Nat.zero_le _, rfl, H3.out, ok_nil, ⟨Nat.le_refl _, fun c hc => by cases hc⟩, fun c hc => (by cases hc), Nat.le_refl _⟩
  case round =>
    obtain ⟨i, S, ks, hin, rfl, hst, hok, hlim, hseg, hks⟩ := hrel
    have H := Lib.hid hst
    have OK := Lib.hid hok
    have LM := Lib.hid hlim
    have SG := Lib.hid hseg
    clear hst hok hlim hseg H3
    by_cases hi : (i : Int) < (n : Int)
    · have hik2 : i < n := by omega
      have hil : i < l.length := by rw [← HLEN.out]; omega
      obtain ⟨b, o, hbo, _, hra⟩ := HAT.out (by intro e; rw [e] at hil; exact absurd hil (Nat.not_lt_zero _))
      subst hbo
      have hr2 := hra wr (fun q hq => H.out.below.block q hq) i hil
      obtain ⟨a, ha⟩ : ∃ x, x = l[i] := ⟨_, rfl⟩
      rw [← ha] at hr2
      have fa : FitA a := hr2.2
      have FA := Lib.hid fa
      obtain ⟨cs, hcs⟩ : ∃ x, x = actC a := ⟨_, rfl⟩
      have RA : Hid (wr.rangeAt b (o + i * 37) cs) := by rw [hcs]; exact hr2.1
      have CSL : Hid (cs.length = 37) := by show _ = _; rw [hcs]; exact actC_len fa
      have CS1 : Hid (∀ u ∈ cs, u.oneCell' = true) := by rw [hcs]; exact actC_one _
      obtain ⟨sg, hsg⟩ : ∃ x, x = a.p.seg := ⟨_, rfl⟩
      have SGI : Hid (i64S sg) := by show i64S sg; rw [hsg]; exact fa.p.seg
      have C34 : Hid (cs[34]? = some (iS sg)) := by show _ = _; rw [hcs, hsg]; exact actC_pl fa 0
      obtain ⟨V, hV⟩ : ∃ V, V = actV (doAct S a) := ⟨_, rfl⟩
      obtain ⟨X, hX⟩ : ∃ X, X = (doAct S a).1 := ⟨_, rfl⟩
      have CD : Hid (∀ {Q : List Asn} (wx : World), Own.St w.heap.size w wx (AS p S :: Q) → Calls Try.prog 34 #[ptr p, .agg cs.toArray] wx fun e w' => e = .returned V ∧ Own.St w.heap.size w w' (AS p X :: Q)) := by
        rw [hcs, hX, hV]
        exact fun {Q} wx h => does_any h OK.out LM.out (by omega) a FA.out
      have NX0 := act_ok OK.out LM.out (by omega) fa
      rw [← hX] at NX0
      have NX := Lib.hid NX0
      have SX : Hid (∀ c ∈ X, c.place.seg ∈ addK ks sg) := by
        show ∀ c ∈ X, _
        rw [hX, hsg]
        intro c hc
        rcases segs_act S a c hc with ⟨d, hd, e⟩ | e
        · rw [← e]; exact mem_addK.2 (.inl (SG.out d hd))
        · exact mem_addK.2 (.inr e)
      clear hra hr2 ha fa hcs hil hV hX NX0 hsg
      go_wp2_with (first
        | (refine wpList_val rfl (idx_act rfl hik2 _ _ rfl rfl) ?_)
        | (refine wpList_val rfl (load_act cs CSL.out rfl _ (b := b) (k := o + i * 37) RA.out rfl) ?_)
        | (refine wpList_box2 boxy_act rfl rfl rfl (.tmp 7) (.tmp 34) rfl rfl cs (fun _ => rfl) (fun _ => rfl) CSL.out CS1.out H.out ?_; intro b10 w6 h; have H6 := Lib.hid h; clear h)
        | (refine wpList_val rfl (load_act cs CSL.out rfl _ (b := b10) (k := 0) (H6.out.boxRange 0 rfl) rfl) ?_))
      refine (CD.out _ H6.out.swap2).mono ?_
      rintro e w7 ⟨rfl, h⟩
      have d0 := (h.cellV 1 rfl 34 C34.out).1
      obtain ⟨w8, hpu, h8⟩ := segPut h 2 rfl SGI.out (by omega) (.bool true)
      simp only [List.set_cons_zero, List.set_cons_succ] at h8
      have H8 := Lib.hid h8
      clear h h8 CD H6 H
      go_wp2_with (fail)
      go_roundw
      case rel => exact ⟨i + 1, X, addK ks sg, by omega, by go_num, H8.out.drop2, NX.out.1, NX.out.2, SX.out, Nat.le_trans (addK_len ks sg) (by omega)⟩
      case measure => simp [intOf]; omega
    · obtain ⟨hnd, hfi⟩ := segFacts H.out 1 rfl
      obtain ⟨wq, left0, cnt0, e1, h1, hl0⟩ := segStart H.out 1 rfl
      simp only [List.set_cons_zero, List.set_cons_succ] at h1
      obtain ⟨r, hr⟩ : ∃ r, r = wr.heap.size := ⟨_, rfl⟩
      rw [← hr] at e1 h1
      have HR := hr.symm
      have E1 := Lib.hid e1
      have H1 := Lib.hid h1
      have HL0 := Lib.hid hl0
      have ND := Lib.hid hnd
      have FI := Lib.hid hfi
      have hSl : S.length ≤ 200 := by have := LM.out.len; omega
      obtain ⟨nS, hnS⟩ : ∃ x, x = S.length := ⟨_, rfl⟩
      have HNS := Lib.hid hnS
      have hnS2 : nS ≤ 200 := by omega
      have FS : Hid (∀ c ∈ S, Fit c) := OK.out.fit
      clear e1 h1 hl0 hnd hfi hr hnS H HAT HLEN
      go_wp2_with (refine wpList_runs rfl (range_E rfl rfl E1.out) ?_)
      go_loopw [8] (fun v8 wr => ∃ (left : Lit → Bool) (cnt m : Nat), m = cntS (metS left ks) S ∧ v8 = .int .i64 (m : Int) ∧ Own.St w.heap.size w wr [AS p S, ARngS bm r ks left cnt]) (fun _ wr => wr.rangeLeft bm r)
      case atStart =>
        refine ⟨left0, cnt0, 0, ?_, rfl, H1.out⟩
        have e : metS left0 ks = [] := by
          unfold metS
          rw [List.filter_eq_nil_iff]
          intro c hc
          rw [HL0.out c hc]
          simp
        rw [e]
        rfl
      case round =>
        obtain ⟨left, cnt, m, hm, rfl, hst⟩ := hrel
        have H := Lib.hid hst
        have HM := Lib.hid hm
        clear hst hm H1 HL0 E1
        rcases segNext H.out 1 rfl 0 with ⟨hno, hrun⟩ | ⟨s, vv, w2, left', cnt', hs, hls, hrun, h2, hlt, hoth, hl2, hen⟩
        · have e : metS left ks = ks := by
            unfold metS
            rw [List.filter_eq_self]
            intro c _
            rw [hno]
            rfl
          have hmS : m = nS := by rw [HM.out, e, cntS_eq ND.out S SG.out, HNS.out]
          subst hmS
          have AL := Lib.hid (all_any H.out OK.out (by omega))
          rw [← HNS.out] at AL
          clear hno e HM
          go_wp2_with (fail)
          refine AL.out.mono ?_
          rintro e w4 ⟨ao, cap, rfl, h4⟩
          have H4 := Lib.hid h4
          clear h4 AL H
          go_wp2_with (fail)
          go_loopw [99] (fun v99 wr => ∃ i2 : Nat, i2 ≤ m ∧ v99 = .int .i64 (i2 : Int) ∧ Own.St w.heap.size w wr [ARow 74 37 (.slice ao m cap) m (S.flatMap chC), AS p S, ARngS bm r ks left cnt]) (fun v99 _ => m - (intOf v99).toNat)
          case atStart => exact ⟨0, Nat.zero_le _, rfl, H4.out⟩
          case round =>
            obtain ⟨i2, hi2n, rfl, hst⟩ := hrel
            have H := Lib.hid hst
            clear hst H4
            by_cases hi2 : (i2 : Int) < (m : Int)
            · have hi2l : i2 < m := by omega
              have hil : i2 < S.length := by rw [← HNS.out]; exact hi2l
              obtain ⟨g, hg⟩ := row_some H.out 0 rfl (by omega)
              subst hg
              obtain ⟨c, hc⟩ : ∃ c, c = S[i2] := ⟨_, rfl⟩
              have hgc : S[i2]? = some c := by rw [hc]; exact List.getElem?_eq_getElem hil
              have hcm : c ∈ S := List.mem_of_getElem? hgc
              have fc := FS.out c hcm
              obtain ⟨cs, hcs⟩ : ∃ x, x = chC c := ⟨_, rfl⟩
              obtain ⟨kc, hkc⟩ : ∃ x, x = kC c.key := ⟨_, rfl⟩
              obtain ⟨ds, hds⟩ : ∃ x, x = c.key.sum.map byteV := ⟨_, rfl⟩
              have CL : Hid (cs.length = 37) := by show _ = _; rw [hcs]; exact chC_len fc.key
              have CO : Hid (∀ u ∈ cs, u.oneCell' = true) := by show ∀ u ∈ cs, _; rw [hcs]; exact chC_one _
              have KCL : Hid (kc.length = 33) := by show _ = _; rw [hkc]; exact kC_len fc.key
              have DL : Hid (ds.length = 32) := by show _ = _; rw [hds]; simp [fc.key.sum]
              have RC : Hid (wr.rangeAt g (i2 * 37) cs) := by rw [hcs]; exact row_range H.out 0 rfl FS.out HNS.out.symm hgc
              obtain ⟨T, hT⟩ : ∃ T, T = twins S c.key.sum := ⟨_, rfl⟩
              have TF : Hid (∀ x ∈ T, x ∈ S) := by show ∀ x ∈ T, _; rw [hT]; exact fun x hx => (List.mem_filter.1 hx).1
              have TC : Hid (T.count c = 1) := by
                show _ = _
                rw [hT]
                refine count_one (List.Pairwise.filter _ (sorted_nodup OK.out.sorted)) ?_
                exact List.mem_filter.2 ⟨hcm, by simp⟩
              have hTl : T.length ≤ 200 := by rw [hT]; exact Nat.le_trans (List.length_filter_le _ _) hSl
              have TW : Hid (∀ {b19 : Nat} (wx : World), Own.St w.heap.size w wx [AVals b19 74 cs, ARow 74 37 (.slice (some ⟨g, 0, none⟩) m cap) m (S.flatMap chC), AS p S, ARngS bm r ks left cnt] → Calls Try.prog 38 #[ptr p, .agg ds.toArray] wx fun e w' => ∃ ao c2, e = .returned (.slice ao T.length c2) ∧ Own.St w.heap.size w w' [ARow 74 37 (.slice ao T.length c2) T.length (T.flatMap chC), AVals b19 74 cs, ARow 74 37 (.slice (some ⟨g, 0, none⟩) m cap) m (S.flatMap chC), AS p S, ARngS bm r ks left cnt]) := by
                rw [hds, hT]
                intro b19 wx h
                refine (twins_any (h.perm (List.perm_middle (l₁ := [_, _]))) OK.out (by omega) c.key.sum fc.key.sum).mono ?_
                rintro e w' ⟨ao, c2, e1, h2⟩
                exact ⟨ao, c2, e1, h2.perm (List.Perm.cons _ (List.perm_middle (l₁ := [_, _])).symm)⟩
              have RB : Hid (∀ {b19 : Nat} {Q : List Asn} (wx : World), Own.St w.heap.size w wx (AVals b19 74 cs :: Q) → wx.rangeAt b19 0 cs ∧ wx.rangeAt b19 0 kc ∧ wx.rangeAt b19 0 ds) := by
                intro b19 Q wx h
                have h0 := h.boxRange 0 rfl
                have h1 : wx.rangeAt b19 0 kc := by rw [hkc]; exact key_of_range fc (by rw [← hcs]; exact h0)
                exact ⟨h0, h1, fun j v hv => h1 j v (by rw [hkc]; exact kC_sum j v (by rw [← hds]; exact hv))⟩
              have EQ : Hid (∀ (x : Ch) (t : Bool), x ∈ S → decide (x = c) = t → ∀ (o : Oper) (y z : Operand), o.op = .binOp .eql 74 y z 74 → ∀ (ρ : Operand → Value) (w : World), ρ y = .agg (chC x).toArray → ρ z = .agg cs.toArray → (execOp ρ o).run Try.prog w = .ok (.value (.bool t)) w) := by
                intro x t hx ht o y z ho ρ w h0 h1
                rw [hcs] at h1
                exact bin_ch (.inl rfl) ho (FS.out x hx).key fc.key (by simpa using ht) ρ w h0 h1
              have LSS : Hid (∀ j, j + 1 = i2 → ∃ kp : List Value, kp.length = 33 ∧ (∀ (wx : World) (Q : List Asn) (b19 : Nat), Own.St w.heap.size w wx (AVals b19 74 cs :: ARow 74 37 (.slice (some ⟨g, 0, none⟩) m cap) m (S.flatMap chC) :: Q) → wx.rangeAt g (j * 37) kp) ∧ ∀ wx, Calls Try.prog 39 #[.agg kp.toArray, .agg kc.toArray] wx fun e w' => e = .returned (.bool true) ∧ Below wx.heap.size wx w') := by
                intro j hj
                have hjl : j < S.length := by omega
                have fp := FS.out _ (List.getElem_mem hjl)
                refine ⟨kC S[j].key, kC_len fp.key, fun wx Q b19 h => key_of_range fp (row_range h 1 rfl FS.out HNS.out.symm (List.getElem?_eq_getElem hjl)), fun wx => ?_⟩
                have hl := lessR_any S[j].key.sum c.key.sum S[j].key.n c.key.n fp.key.sum fc.key.sum wx
                have hlt : lessK S[j].key c.key = true := by
                  rw [hc]
                  exact List.pairwise_iff_getElem.1 OK.out.sorted j i2 hjl hil (by omega)
                have hlt' : lessK ⟨S[j].key.sum, S[j].key.n⟩ ⟨c.key.sum, c.key.n⟩ = true := hlt
                rw [hlt'] at hl
                rw [hkc]
                exact hl
              clear hcs hkc hds hc hgc hcm fc hT hil
              go_wp2_with (first
                | (refine wpList_val rfl (load_sum ds DL.out rfl _ (b := b19) (k := 0) R6.out.2.2 rfl) ?_)
                | (refine wpList_fill boxy_ch rfl (.tmp 19) (.tmp 103) rfl rfl H5.out 0 rfl zero_len cs rfl rfl CL.out CO.out ?_; intro w6 h; simp only [List.set_cons_zero] at h; have H6 := Lib.hid h; have R6 := Lib.hid (RB.out w6 h); clear h)
                | (refine wpList_val rfl (idx_ch rfl hi2l _ _ rfl rfl) ?_; refine wpList_val rfl (load_ch cs CL.out rfl _ (b := g) (k := i2 * 37) RC.out rfl) ?_; refine wpList_newZ (chC zeroCh) zero_ch rfl rfl H.out ?_; intro b19 w5 h; have H5 := Lib.hid h; clear h))
              refine (TW.out _ H6.out).mono ?_
              rintro e w7 ⟨ao2, c2, rfl, h7⟩
              have H7 := Lib.hid h7
              clear h7 TW H6 R6 H5 H RC
              obtain ⟨nT, hnT⟩ : ∃ x, x = T.length := ⟨_, rfl⟩
              rw [← hnT] at H7 hTl ⊢
              have HNT := Lib.hid hnT
              clear hnT
              go_wp2_with (fail)
              go_loopw [20, 110] (fun v20 v110 wr => ∃ j ct : Nat, j ≤ nT ∧ ct ≤ j ∧ v20 = .int .i64 (ct : Int) ∧ v110 = .int .i64 (j : Int) ∧ (T.take j).count c = ct ∧ Own.St w.heap.size w wr [ARow 74 37 (.slice ao2 nT c2) nT (T.flatMap chC), AVals b19 74 cs, ARow 74 37 (.slice (some ⟨g, 0, none⟩) m cap) m (S.flatMap chC), AS p S, ARngS bm r ks left cnt]) (fun _ v110 _ => nT - (intOf v110).toNat)
              case atStart => exact ⟨0, 0, Nat.zero_le _, Nat.le_refl _, rfl, rfl, rfl, H7.out⟩
              case round =>
                obtain ⟨j, ct, hjn, hcj, rfl, rfl, hct, hst⟩ := hrel
                have H := Lib.hid hst
                have HCT := Lib.hid hct
                clear hst hct H7
                by_cases hj : (j : Int) < (nT : Int)
                · have hjl : j < nT := by omega
                  have hjT : j < T.length := by rw [← HNT.out]; exact hjl
                  obtain ⟨g2, hg2⟩ := row_some H.out 0 rfl (by omega)
                  subst hg2
                  obtain ⟨x, hx⟩ : ∃ c, c = T[j] := ⟨_, rfl⟩
                  have hgx : T[j]? = some x := by rw [hx]; exact List.getElem?_eq_getElem hjT
                  have hxm : x ∈ S := TF.out x (List.mem_of_getElem? hgx)
                  have fx := FS.out x hxm
                  obtain ⟨t, ht⟩ : ∃ t, decide (x = c) = t := ⟨_, rfl⟩
                  have htk : T.take (j + 1) = T.take j ++ [x] := by rw [List.take_add_one, hgx]; rfl
                  have hcn : (T.take (j + 1)).count c = ct + (if t = true then 1 else 0) := by
                    rw [htk, List.count_append, HCT.out, List.count_singleton, ← ht]
                    by_cases e : x = c <;> simp [e]
                  have HCN := Lib.hid hcn
                  obtain ⟨xs, hxs⟩ : ∃ y, y = chC x := ⟨_, rfl⟩
                  have XL : Hid (xs.length = 37) := by show _ = _; rw [hxs]; exact chC_len fx.key
                  have XO : Hid (∀ u ∈ xs, u.oneCell' = true) := by show ∀ u ∈ xs, _; rw [hxs]; exact chC_one _
                  have RX : Hid (wr.rangeAt g2 (j * 37) xs) := by rw [hxs]; exact row_range H.out 0 rfl (fun c hc => FS.out c (TF.out c hc)) HNT.out.symm hgx
                  have EX : Hid (∀ (o : Oper) (y z : Operand), o.op = .binOp .eql 74 y z 74 → ∀ (ρ : Operand → Value) (w : World), ρ y = .agg xs.toArray → ρ z = .agg cs.toArray → (execOp ρ o).run Try.prog w = .ok (.value (.bool t)) w) := by
                    rw [hxs]
                    exact EQ.out x t hxm ht
                  clear hx hgx hxm fx ht htk hcn hxs hjT
                  have hctb : (ct : Int) + 1 ≤ 201 := by omega
                  cases t
                  · have tok1 := True.intro
                    go_wp2_with (first
                      | (have tok := tok1; refine wpList_val rfl (idx_ch rfl hjl _ _ rfl rfl) ?_; clear tok tok1; have tok2 := True.intro)
                      | (have tok := tok2; refine wpList_val rfl (load_ch xs XL.out rfl _ (b := g2) (k := j * 37) RX.out rfl) ?_; clear tok tok2; have tok3 := True.intro)
                      | (have tok := tok3; refine wpList_newZ (chC zeroCh) zero_ch rfl rfl H.out ?_; intro b22 w4 h; have H4 := Lib.hid h; clear h; clear tok tok3; have tok4 := True.intro)
                      | (have tok := tok4; refine wpList_fill boxy_ch rfl (.tmp 22) (.tmp 113) rfl rfl H4.out 0 rfl zero_len xs rfl rfl XL.out XO.out ?_; intro w5 h; simp only [List.set_cons_zero] at h; have H5 := Lib.hid h; have R5 : Hid (w5.rangeAt b22 0 xs) := h.boxRange 0 rfl; have R6 : Hid (w5.rangeAt b19 0 cs) := h.boxRange 2 rfl; clear h H4; clear tok tok4; have tok5 := True.intro; go_simp)
                      | (have tok := tok5; refine wpList_val rfl (load_ch xs XL.out rfl _ (b := b22) (k := 0) R5.out rfl) ?_; clear tok tok5; have tok6 := True.intro)
                      | (have tok := tok6; refine wpList_val rfl (load_ch cs CL.out rfl _ (b := b19) (k := 0) R6.out rfl) ?_; clear tok tok6; have tok7 := True.intro; go_simp)
                      | (have tok := tok7; refine wpList_val rfl (EX.out _ _ _ rfl _ _ rfl rfl) ?_; clear tok tok7))
                    go_roundw
                    case rel => exact ⟨j + 1, ct, by omega, by omega, rfl, by go_num, by rw [HCN.out]; rfl, H5.out.drop 1⟩
                    case measure => simp [intOf]; omega
                  · have tok1 := True.intro
                    go_wp2_with (first
                      | (have tok := tok1; refine wpList_val rfl (idx_ch rfl hjl _ _ rfl rfl) ?_; clear tok tok1; have tok2 := True.intro)
                      | (have tok := tok2; refine wpList_val rfl (load_ch xs XL.out rfl _ (b := g2) (k := j * 37) RX.out rfl) ?_; clear tok tok2; have tok3 := True.intro)
                      | (have tok := tok3; refine wpList_newZ (chC zeroCh) zero_ch rfl rfl H.out ?_; intro b22 w4 h; have H4 := Lib.hid h; clear h; clear tok tok3; have tok4 := True.intro)
                      | (have tok := tok4; refine wpList_fill boxy_ch rfl (.tmp 22) (.tmp 113) rfl rfl H4.out 0 rfl zero_len xs rfl rfl XL.out XO.out ?_; intro w5 h; simp only [List.set_cons_zero] at h; have H5 := Lib.hid h; have R5 : Hid (w5.rangeAt b22 0 xs) := h.boxRange 0 rfl; have R6 : Hid (w5.rangeAt b19 0 cs) := h.boxRange 2 rfl; clear h H4; clear tok tok4; have tok5 := True.intro; go_simp)
                      | (have tok := tok5; refine wpList_val rfl (load_ch xs XL.out rfl _ (b := b22) (k := 0) R5.out rfl) ?_; clear tok tok5; have tok6 := True.intro)
                      | (have tok := tok6; refine wpList_val rfl (load_ch cs CL.out rfl _ (b := b19) (k := 0) R6.out rfl) ?_; clear tok tok6; have tok7 := True.intro; go_simp)
                      | (have tok := tok7; refine wpList_val rfl (EX.out _ _ _ rfl _ _ rfl rfl) ?_; clear tok tok7))
                    go_roundw
                    case rel => exact ⟨j + 1, ct + 1, by omega, by omega, by go_num, by go_num, by rw [HCN.out]; rfl, H5.out.drop 1⟩
                    case measure => simp [intOf]; omega
                · have hct1 : ct = 1 := by
                    have h := HCT.out
                    rw [List.take_of_length_le (by rw [← HNT.out]; omega), TC.out] at h
                    exact h.symm
                  subst hct1
                  have H5 := Lib.hid (H.out.drop 1)
                  clear H EQ HCT
                  rcases (show i2 = 0 ∨ 0 < i2 by omega) with hz | hz
                  · subst hz
                    go_wp2_with (fail)
                    refine wp_lax_list (by kernel_rfl) (by kernel_rfl) (by kernel_rfl) ?_
                    refine wpL_move (.int .i64 1) rfl (by kernel_rfl) (by kernel_rfl) (by kernel_rfl) (by kernel_rfl) ?_
                    refine wpL_run1 (x := .tmp 120) (.int .i64 1) (.bool false) (by kernel_rfl) (by kernel_rfl) (by kernel_rfl) (by kernel_rfl) (by kernel_rfl) (fun wx ρ hwx h0 hc => by simp [go_sem, h0, hc]) ?_
                    refine wpL_move (.bool false) rfl (by kernel_rfl) (by kernel_rfl) (by kernel_rfl) (by kernel_rfl) ?_
                    refine wpL_move (.int .i64 0) rfl (by kernel_rfl) (by kernel_rfl) (by kernel_rfl) (by kernel_rfl) ?_
                    refine wpL_run1 (x := .tmp 123) (.int .i64 0) (.bool false) (by kernel_rfl) (by kernel_rfl) (by kernel_rfl) (by kernel_rfl) (by kernel_rfl) (fun wx ρ hwx h0 hc => by simp [go_sem, h0, hc]) ?_
                    refine wpL_move (.bool false) rfl (by kernel_rfl) (by kernel_rfl) (by kernel_rfl) (by kernel_rfl) ?_
                    refine wpL_skip (by kernel_rfl) (by kernel_rfl) ?_
                    refine wpL_skip (by kernel_rfl) (by kernel_rfl) ?_
                    refine wpL_skip (by kernel_rfl) (by kernel_rfl) ?_
                    refine wpL_skip (by kernel_rfl) (by kernel_rfl) ?_
                    refine wpL_skip (by kernel_rfl) (by kernel_rfl) ?_
                    refine wpL_skip (by kernel_rfl) (by kernel_rfl) ?_
                    refine wpL_skip (by kernel_rfl) (by kernel_rfl) ?_
                    refine wpL_skip (by kernel_rfl) (by kernel_rfl) ?_
                    refine wpL_skip (by kernel_rfl) (by kernel_rfl) ?_
                    refine wpL_skip (by kernel_rfl) (by kernel_rfl) ?_
                    refine wpL_run2 (x := .tmp 125) (y := .tmp 135) (.bool false) (undef) (.bool false) (by kernel_rfl) (by kernel_rfl) (by kernel_rfl) (by kernel_rfl) (by kernel_rfl) (by kernel_rfl) (fun wx ρ hwx h0 h1 hc => by simp [go_sem, h0, h1, hc]) ?_
                    refine wpL_run2 (x := .tmp 122) (y := .tmp 136) (.bool false) (.bool false) (.bool false) (by kernel_rfl) (by kernel_rfl) (by kernel_rfl) (by kernel_rfl) (by kernel_rfl) (by kernel_rfl) (fun wx ρ hwx h0 h1 hc => by simp [go_sem, h0, h1, hc]) ?_
                    refine wpL_end (by kernel_rfl) (fun w9 hw9 => ?_)
                    simp only [FinL, setL, List.set_cons_zero, List.set_cons_succ]
                    have H9 := Lib.hid ((H5.out.later hw9).drop 1)
                    clear hw9 H5
                    go_wp2_with (fail)
                    go_roundw
                    case rel => exact ⟨1, by omega, by go_num, H9.out⟩
                    case measure => simp [intOf]; omega
                  · obtain ⟨kp, kpl, hkp, hls⟩ := LSS.out (i2 - 1) (by omega)
                    have KPL := Lib.hid kpl
                    have LS := Lib.hid hls
                    have RK : Hid (∀ wx, Below wr.heap.size wr wx → wx.rangeAt g ((i2 - 1) * 37) kp ∧ wx.rangeAt b19 0 kc) := fun wx hwx => ⟨hkp wx _ b19 (H5.out.later hwx), (RB.out wx (H5.out.later hwx)).2.1⟩
                    have hi1 : i2 - 1 < m := by omega
                    have hsub : (i2 : Int) - 1 = ((i2 - 1 : Nat) : Int) := by omega
                    have HI1 : Hid (IntKind.i64.wrap ((i2 : Int) - 1) = ((i2 - 1 : Nat) : Int)) := by show _ = _; simp [IntKind.wrap, IntKind.signed, IntKind.bits]; omega
                    clear kpl hls hkp LSS
                    go_wp2_with (fail)
                    refine wp_lax_list (by kernel_rfl) (by kernel_rfl) (by kernel_rfl) ?_
                    refine wpL_move (.int .i64 1) rfl (by kernel_rfl) (by kernel_rfl) (by kernel_rfl) (by kernel_rfl) ?_
                    refine wpL_run1 (x := .tmp 120) (.int .i64 1) (.bool false) (by kernel_rfl) (by kernel_rfl) (by kernel_rfl) (by kernel_rfl) (by kernel_rfl) (fun wx ρ hwx h0 hc => by simp [go_sem, h0, hc]) ?_
                    refine wpL_move (.bool false) rfl (by kernel_rfl) (by kernel_rfl) (by kernel_rfl) (by kernel_rfl) ?_
                    refine wpL_move (.int .i64 (i2 : Int)) rfl (by kernel_rfl) (by kernel_rfl) (by kernel_rfl) (by kernel_rfl) ?_
                    refine wpL_run1 (x := .tmp 123) (.int .i64 (i2 : Int)) (.bool true) (by kernel_rfl) (by kernel_rfl) (by kernel_rfl) (by kernel_rfl) (by kernel_rfl) (fun wx ρ hwx h0 hc => by simp [h0, hc, go_sem]; omega) ?_
                    refine wpL_move (.bool true) rfl (by kernel_rfl) (by kernel_rfl) (by kernel_rfl) (by kernel_rfl) ?_
                    refine wpL_move (.slice (some ⟨g, 0, none⟩) m cap) rfl (by kernel_rfl) (by kernel_rfl) (by kernel_rfl) (by kernel_rfl) ?_
                    refine wpL_move (.int .i64 (i2 : Int)) rfl (by kernel_rfl) (by kernel_rfl) (by kernel_rfl) (by kernel_rfl) ?_
                    refine wpL_run1 (x := .tmp 127) (.int .i64 (i2 : Int)) (.int .i64 ((i2 - 1 : Nat) : Int)) (by kernel_rfl) (by kernel_rfl) (by kernel_rfl) (by kernel_rfl) (by kernel_rfl) (fun wx ρ hwx h0 hc => by simp [h0, hc, go_sem, HI1.out]) ?_
                    refine wpL_run2 (x := .tmp 126) (y := .tmp 128) (.slice (some ⟨g, 0, none⟩) m cap) (.int .i64 ((i2 - 1 : Nat) : Int)) (.pointer (some ⟨g, (i2 - 1) * 37, none⟩)) (by kernel_rfl) (by kernel_rfl) (by kernel_rfl) (by kernel_rfl) (by kernel_rfl) (by kernel_rfl) (fun wx ρ hwx h0 h1 hc => idx_ch rfl hi1 ρ wx h0 h1) ?_
                    refine wpL_run1 (x := .tmp 129) (.pointer (some ⟨g, (i2 - 1) * 37, none⟩)) (.pointer (some ⟨g, (i2 - 1) * 37, none⟩)) (by kernel_rfl) (by kernel_rfl) (by kernel_rfl) (by kernel_rfl) (by kernel_rfl) (fun wx ρ hwx h0 hc => fldK rfl ρ wx h0) ?_
                    refine wpL_run1 (x := .tmp 130) (.pointer (some ⟨g, (i2 - 1) * 37, none⟩)) (.agg kp.toArray) (by kernel_rfl) (by kernel_rfl) (by kernel_rfl) (by kernel_rfl) (by kernel_rfl) (fun wx ρ hwx h0 hc => Rec.load_key kp KPL.out rfl ρ (RK.out wx hwx).1 h0) ?_
                    refine wpL_run1 (x := .tmp 19) (ptr b19) (.pointer (some ⟨b19, 0, none⟩)) (by kernel_rfl) (by kernel_rfl) (by kernel_rfl) (by kernel_rfl) (by kernel_rfl) (fun wx ρ hwx h0 hc => fldK rfl ρ wx h0) ?_
                    refine wpL_run1 (x := .tmp 132) (.pointer (some ⟨b19, 0, none⟩)) (.agg kc.toArray) (by kernel_rfl) (by kernel_rfl) (by kernel_rfl) (by kernel_rfl) (by kernel_rfl) (fun wx ρ hwx h0 hc => Rec.load_key kc KCL.out rfl ρ (RK.out wx hwx).2 h0) ?_
                    refine wpL_fn (.bool true) [.agg kp.toArray, .agg kc.toArray] rfl (by kernel_rfl) (by kernel_rfl) (by kernel_rfl) (by kernel_rfl) (fun _ _ => by simp [go_sem]) (fun wx hwx => LS.out wx) ?_
                    refine wpL_run1 (x := .tmp 134) (.bool true) (.bool false) (by kernel_rfl) (by kernel_rfl) (by kernel_rfl) (by kernel_rfl) (by kernel_rfl) (fun wx ρ hwx h0 hc => by simp [go_sem, h0]) ?_
                    refine wpL_run2 (x := .tmp 125) (y := .tmp 135) (.bool true) (.bool false) (.bool false) (by kernel_rfl) (by kernel_rfl) (by kernel_rfl) (by kernel_rfl) (by kernel_rfl) (by kernel_rfl) (fun wx ρ hwx h0 h1 hc => by simp [go_sem, h0, h1, hc]) ?_
                    refine wpL_run2 (x := .tmp 122) (y := .tmp 136) (.bool false) (.bool false) (.bool false) (by kernel_rfl) (by kernel_rfl) (by kernel_rfl) (by kernel_rfl) (by kernel_rfl) (by kernel_rfl) (fun wx ρ hwx h0 h1 hc => by simp [go_sem, h0, h1, hc]) ?_
                    refine wpL_end (by kernel_rfl) (fun w9 hw9 => ?_)
                    simp only [FinL, setL, List.set_cons_zero, List.set_cons_succ]
                    have H9 := Lib.hid ((H5.out.later hw9).drop 1)
                    clear hw9 H5
                    go_wp2_with (fail)
                    go_roundw
                    case rel => exact ⟨i2 + 1, by omega, by go_num, H9.out⟩
                    case measure => simp [intOf]; omega
            · go_wp2_with (fail)
              go_ret
              exact ⟨rfl, H.out.below⟩
        · simp only [List.set_cons_zero, List.set_cons_succ] at h2
          have SI := FI.out s hs
          obtain ⟨L, hL⟩ : ∃ L, L = live s S := ⟨_, rfl⟩
          have hLS : ∀ c ∈ L, c ∈ S ∧ c.place.seg = s := by
            intro c hc
            rw [hL] at hc
            have h := List.mem_filter.1 ((live_is s OK.out.sorted).2.mem_iff.1 hc)
            exact ⟨h.1, of_decide_eq_true h.2⟩
          have LV := Lib.hid (live_any h2 OK.out (by omega) s SI)
          rw [← hL] at LV
          obtain ⟨nL, hnL⟩ : ∃ x, x = L.length := ⟨_, rfl⟩
          rw [← hnL] at LV
          obtain ⟨pg, hpg⟩ : ∃ x, x = pagesN L 0 := ⟨_, rfl⟩
          rw [← hpg] at LV
          have hmt : cntS (metS left' ks) S = nL + m := by
            rw [cntS_perm (metS_step ND.out hs hls hl2 hoth), cnt_live OK.out.sorted, ← hL, ← hnL, ← HM.out]
          have hml : nL + m ≤ 200 := by
            rw [← hmt]
            exact Nat.le_trans (cntS_le (List.Pairwise.filter _ ND.out) S) hSl
          have HMT := Lib.hid hmt
          have HLS := Lib.hid hLS
          have HNL := Lib.hid hnL
          have HPG := Lib.hid hpg
          have HLT : Hid (cnt' < wr.rangeLeft bm r) := by
            show _ < _
            rw [segLeft H.out 1 rfl]
            exact hlt
          clear hoth hls hl2 hlt hLS hL hnL hpg hmt h2 hs SI HM H
          go_wp2_with (fail)
          refine LV.out.mono ?_
          rintro e w4 ⟨ao, cap, rfl, h4⟩
          have H4 := Lib.hid h4
          clear h4 LV hrun hen
          go_wp2_with (fail)
          go_loopw [12, 57] (fun v12 v57 wr => ∃ (x : Int) (j : Nat), j ≤ nL ∧ v12 = .int .i64 x ∧ v57 = .int .i64 (j : Int) ∧ Own.St w.heap.size w wr [ARow 74 37 (.slice ao nL cap) nL (L.flatMap chC), AS p S, ARngS bm r ks left' cnt'] ∧ pagesN L 0 = pagesN (L.drop j) x) (fun _ v57 _ => nL - (intOf v57).toNat)
          case atStart => exact ⟨0, 0, Nat.zero_le _, rfl, rfl, H4.out, rfl⟩
          case round =>
            obtain ⟨x, j, hjn, rfl, rfl, hst, hx⟩ := hrel
            have H := Lib.hid hst
            have HX := Lib.hid hx
            clear hst hx H4
            by_cases hj : (j : Int) < (nL : Int)
            · have hjl : j < nL := by omega
              have hjL : j < L.length := by rw [← HNL.out]; exact hjl
              obtain ⟨g, hg⟩ := row_some H.out 0 rfl (by omega)
              subst hg
              obtain ⟨c, hc⟩ : ∃ c, c = L[j] := ⟨_, rfl⟩
              have hgc : L[j]? = some c := by rw [hc]; exact List.getElem?_eq_getElem hjL
              obtain ⟨hcm, hcs2⟩ := HLS.out c (List.mem_of_getElem? hgc)
              have fc := FS.out c hcm
              obtain ⟨cs, hcs⟩ : ∃ x, x = chC c := ⟨_, rfl⟩
              obtain ⟨kc, hkc⟩ : ∃ x, x = kC c.key := ⟨_, rfl⟩
              have CL : Hid (cs.length = 37) := by show _ = _; rw [hcs]; exact chC_len fc.key
              have CO : Hid (∀ u ∈ cs, u.oneCell' = true) := by show ∀ u ∈ cs, _; rw [hcs]; exact chC_one _
              have KCL : Hid (kc.length = 33) := by show _ = _; rw [hkc]; exact kC_len fc.key
              have RC : Hid (wr.rangeAt g (j * 37) cs) := by rw [hcs]; exact row_range H.out 0 rfl (fun c hc => FS.out c (HLS.out c hc).1) HNL.out.symm hgc
              obtain ⟨ps, hps⟩ : ∃ x, x = c.place.pages := ⟨_, rfl⟩
              have C33 : Hid (cs[33]? = some (iS s)) := by show _ = _; rw [hcs, ← hcs2]; exact chC_rest fc.key 0
              have C35 : Hid (cs[35]? = some (iS ps)) := by show _ = _; rw [hcs, hps]; exact chC_rest fc.key 2
              have GT : Hid (∀ {b14 : Nat} (wx : World), Own.St w.heap.size w wx [AVals b14 74 cs, ARow 74 37 (.slice (some ⟨g, 0, none⟩) nL cap) nL (L.flatMap chC), AS p S, ARngS bm r ks left' cnt'] → wx.rangeAt b14 0 kc ∧ Calls Try.prog 36 #[ptr p, .agg kc.toArray] wx fun e w' => e = .returned (.tuple #[.agg cs.toArray, .bool true]) ∧ Below wx.heap.size wx w') := by
                intro b14 wx h
                have h0 := h.boxRange 0 rfl
                refine ⟨by rw [hkc]; exact key_of_range fc (by rw [← hcs]; exact h0), ?_⟩
                have g1 := get_any (h.perm (List.perm_middle (l₁ := [_, _]))) OK.out fc.key
                rw [getS_of OK.out.sorted hcm, (mem_at OK.out.sorted hcm).1] at g1
                rw [hkc, hcs]
                exact g1
              have NQ : Hid (∀ (o : Oper) (x y : Operand), o.op = .binOp .neq 74 x y 74 → ∀ (ρ : Operand → Value) (w : World), ρ x = .agg cs.toArray → ρ y = .agg cs.toArray → (execOp ρ o).run Try.prog w = .ok (.value (.bool false)) w) := by
                intro o x y ho ρ w h0 h1
                rw [hcs] at h0 h1
                exact bin_ch (.inr rfl) ho fc.key fc.key (by simp) ρ w h0 h1
              obtain ⟨y, hy⟩ : ∃ y, y = IntKind.i64.wrap (x + ps) := ⟨_, rfl⟩
              have HY := hy.symm
              have HNX : Hid (pagesN L 0 = pagesN (L.drop (j + 1)) y) := by
                show _ = _
                rw [HX.out, List.drop_eq_getElem_cons hjL, ← hc, hy, hps]
                rfl
              clear hc hgc hcm hcs2 fc hcs hkc hps hy HX hjL
              go_wp2_with (first
                | (refine wpList_val rfl (idx_ch rfl hjl _ _ rfl rfl) ?_)
                | (refine wpList_val rfl (load_ch cs CL.out rfl _ (b := g) (k := j * 37) RC.out rfl) ?_)
                | (refine wpList_box2 boxy_ch rfl rfl rfl (.tmp 14) (.tmp 60) rfl rfl cs (fun _ => rfl) (fun _ => rfl) CL.out CO.out H.out ?_; intro b14 w5 h; have H5 := Lib.hid h; have R5 := Lib.hid (GT.out w5 h).1; clear h)
                | (refine wpList_val rfl (Rec.load_key kc KCL.out rfl _ (b := b14) (k := 0) R5.out rfl) ?_))
              refine (GT.out _ H5.out).2.mono ?_
              rintro e w6 ⟨rfl, h6⟩
              have H6 := Lib.hid (H5.out.later h6)
              clear h6 H5 R5 RC H GT
              go_wp2_with (first
                | (refine wpList_box2 boxy_ch rfl rfl rfl (.tmp 15) (.tmp 66) rfl rfl cs (fun _ => rfl) (fun _ => rfl) CL.out CO.out H6.out ?_; intro b15 w7 h; have R7 : Hid (w7.rangeAt b15 0 cs) := h.boxRange 0 rfl; have R8 : Hid (w7.rangeAt b14 0 cs) := h.boxRange 1 rfl; have q0 := (h.cellV 1 rfl 33 (v := .int .i64 s) C33.out).1; have q1 := (h.cellV 1 rfl 35 (v := .int .i64 ps) C35.out).1; have H7 := Lib.hid h; clear h)
                | (refine wpList_val rfl (load_ch cs CL.out rfl _ (b := b15) (k := 0) R7.out rfl) ?_)
                | (refine wpList_val rfl (load_ch cs CL.out rfl _ (b := b14) (k := 0) R8.out rfl) ?_)
                | (refine wpList_val rfl (NQ.out _ _ _ rfl _ _ rfl rfl) ?_))
              go_roundw
              case rel => exact ⟨y, j + 1, by omega, rfl, by go_num, H7.out.drop 2, HNX.out⟩
              case measure => simp [intOf]; omega
            · have hj2 : j = nL := by omega
              subst hj2
              have hxp : x = pg := by
                have h := HX.out
                rw [HNL.out, List.drop_length] at h
                rw [HPG.out, h]
                rfl
              subst hxp
              have H9 := Lib.hid (H.out.drop 1)
              clear HX H
              have hadd : IntKind.i64.wrap ((m : Int) + (j : Int)) = ((j + m : Nat) : Int) := by simp [IntKind.wrap, IntKind.signed, IntKind.bits]; omega
              have hadd2 : (m : Int) + (j : Int) = ((j + m : Nat) : Int) := by omega
              go_wp2_with (fail)
              go_roundw
              case rel => exact ⟨left', cnt', j + m, HMT.out.symm, by first | rfl | go_num, H9.out⟩
              case measure =>
                have h1 := segLeft H9.out 1 rfl
                rw [h1]
                exact HLT.out
end Stp
end Go.Proofs.Ytepbdjgfaljbgaa

end
