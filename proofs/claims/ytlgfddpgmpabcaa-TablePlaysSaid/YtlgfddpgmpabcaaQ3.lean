/- Merged: Acts TabQ LaxV TabS LawTab LawTabA LawTabB TabW LawTabC TabI Bx -/
import Derived.Deep.MidRow
import Derived.Test.YtlgfddpgmpabcaaQ1
import Derived.Test.YtlgfddpgmpabcaaQ2
section
namespace Go.Own
open Go.RowKit
section
variable {α : Type}
/-- an act in memory -/
def inE (enc : α → List Value) (Fit : α → Prop) : InT α := fun a _ _ cs => cs = enc a ∧ Fit a
theorem acts_inE {enc : α → List Value} {Fit : α → Prop} {c : Nat} (hc : ∀ a, (enc a).length = c) {l : List α} {B : Nat} {w : World} {ao : Option Addr} {n cap : Nat} (h : inSlice c (inE enc Fit) l B w [.slice ao n cap]) :
    n = l.length ∧ n ≤ cap ∧ cap ≤ maxLen ∧ (ao = none → cap = 0) ∧ (l ≠ [] → ∃ b o, ao = some ⟨b, o, none⟩ ∧ b < B ∧ ∀ w' : World, (∀ k, k < B → w'.heap[k]? = w.heap[k]?) → ∀ k (hk : k < l.length), w'.rangeAt b (o + k * c) (enc l[k]) ∧ Fit l[k]) := by
  obtain ⟨ao', cap', h1, h2, h3, h4, h5⟩ := h
  simp only [List.cons.injEq, Value.slice.injEq, and_true] at h1
  obtain ⟨rfl, rfl, rfl⟩ := h1
  refine ⟨rfl, h2, h3, h4, fun hne => ?_⟩
  rcases h5 with rfl | ⟨b, o, e, hb, hs, hcc⟩
  · exact absurd rfl hne
  · refine ⟨b, o, e, hb, fun w' hw' k hk => ?_⟩
    obtain ⟨cs', g1, g2, g3⟩ := hcc k hk
    obtain ⟨rfl, q6⟩ := g3
    refine ⟨fun j v hv => ?_, q6⟩
    have hj : j < c := by rw [← hc l[k]]; exact (List.getElem?_eq_some_iff.1 hv).1
    have := (World.cell?_of_block (w := w) (hw' b hb)).trans (g2 j hj)
    rw [Nat.add_assoc, this, hv]
/-- the round's act: what is there of it, and its copy -/
structure RoundE (P : Program) (ty : TypeId) (z : List Value) (B : Nat) (w0 wr : World) (Ps : List Asn) (b o : Nat) (vs : List Value) : Prop where
  range : wr.rangeAt b o vs
  there : (wr.alloc (.cells z.toArray ty)).there wr.heap.size 0 vs.toArray.size
  st : St B w0 ((wr.alloc (.cells z.toArray ty)).setCells wr.heap.size 0 vs.toArray.toList) (AVals wr.heap.size ty vs :: Ps)
  info : (P.info? ty).map (·.size) = some vs.length
  info2 : (P.info? ty).map (·.size) = some vs.toArray.size
  one : vs.toArray.all (·.oneCell') = true
  len : vs.length = z.length
theorem round_E {P : Program} {ty : TypeId} {z vs : List Value} {B : Nat} {w0 wr : World} {Ps : List Asn} {b o : Nat} (H : St B w0 wr Ps) (hr : wr.rangeAt b o vs) (hl : vs.length = z.length) (hi : (P.info? ty).map (·.size) = some z.length) (h1 : ∀ v ∈ vs, v.oneCell' = true) : RoundE P ty z B w0 wr Ps b o vs := by
  have hz := H.boxV ty z
  refine ⟨hr, ?_, ?_, by rw [hl]; exact hi, by rw [List.size_toArray, hl]; exact hi, all_oneCell_toArray h1, hl⟩
  · exact hz.thereV 0 rfl (by rw [List.size_toArray, hl]; exact Nat.le_refl _)
  · have := St.setAll 0 vs 0 _ _ z hz rfl (by rw [Nat.zero_add, hl])
    simpa using this
end
end Go.Own

end
section
namespace Go.Proofs.Ytlgfddpgmpabcaa
open Go.RowKit Go.Own
namespace Tab
open Go.TabM
abbrev i64T (x : Int) : Prop := -9223372036854775808 ≤ x ∧ x ≤ 9223372036854775807
abbrev actVs (a : ActD) : List Value := [.int .u8 (a.kind.toNat : Int), .int .i64 a.seg]
abbrev FitA (a : ActD) : Prop := i64T a.seg
abbrev inAct : InT ActD := inE actVs FitA
theorem wfI {a : Int} (h : (Lit.int .i64 a).wf = true) : i64T a := by
  simp [Lit.wf, IntKind.min, IntKind.max, IntKind.signed, IntKind.bits] at h
  unfold i64T
  omega
theorem opens_act : Opens Try.prog 33 inAct := by
  intro H enc w fuel cs x h
  obtain ⟨hl, hf⟩ := opens_fields (P := Try.prog) Try.underlying33 h
  rw [show Try.prog.cellsOf 33 = 2 by kernel_rfl] at hl
  obtain ⟨c0, c1, rfl⟩ : ∃ a b, cs = [a, b] := by
    rcases cs with _ | ⟨c0, _ | ⟨c1, _ | ⟨c2, r⟩⟩⟩
    · simp at hl
    · simp at hl
    · exact ⟨c0, c1, rfl⟩
    · simp at hl
  obtain ⟨n0, y0, h0⟩ := hf 0 _ rfl
  obtain ⟨n1, y1, h1⟩ := hf 1 _ rfl
  obtain ⟨a0, e0, w0⟩ := opens_int (P := Try.prog) Try.underlying5 H enc w n0 _ y0 h0
  obtain ⟨a1, e1, w1⟩ := opens_int (P := Try.prog) Try.underlying3 H enc w n1 _ y1 h1
  have k0 : Try.prog.cellsOf 5 = 1 := by kernel_rfl
  have k1 : Try.prog.cellsOf 3 = 1 := by kernel_rfl
  have e0' : c0 = .int .u8 a0 := by simpa [k0] using e0
  have e1' : c1 = .int .i64 a1 := by simpa [k1] using e1
  subst e0' e1'
  obtain ⟨u0, hu0⟩ := Byt.u8_byte w0
  subst hu0
  refine ⟨⟨u0, a1⟩, ?_, ?_⟩
  · rfl
  · exact wfI w1
theorem few_any (ao : Option Addr) (n cap : Nat) (hn : n ≤ cap) (hc : cap ≤ maxLen) (w : World) :
    Calls Try.prog 12 #[.slice ao n cap] w fun e w' => e = .returned (.slice ao (min n 300) cap) ∧ w = w' := by
  unfold maxLen at hc
  obtain ⟨k, hk⟩ : ∃ k, k = min n 300 := ⟨_, rfl⟩
  have hmin : ∀ wx, (Builtin.min_ #[3, 3] 3 #[.int .i64 (n : Int), .int .i64 300]).run Try.prog wx = .ok (.int .i64 (k : Int)) wx := by
    intro wx
    rw [show (k : Int) = min (n : Int) 300 by omega]
    simp [Builtin.min_, Builtin.min2, go_sem]
    try omega
  have hkn : k ≤ n := by omega
  have hkc : k ≤ cap := by omega
  rw [← hk]
  clear hk
  go_enter Try.func12, Try.ntmps12
  go_wp2
  go_ret
  exact ⟨rfl, rfl⟩
structure Kept (W : World) where
  A : Nat → T → Asn
  new : ∀ {B : Nat} {w0 w : World} {Ps : List Asn} (num : Int), Below W.heap.size W w → Own.St B w0 w Ps → i64T num →
    Calls Try.prog 10 #[.int .i64 num] w fun e w' => if mayBe num = true then ∃ p, e = .returned (.tuple #[ptr p, errT 0]) ∧ Own.St B w0 w' (A p (fresh num.toNat) :: Ps) else e = .returned (.tuple #[.pointer none, errT 1]) ∧ Own.St B w0 w' Ps
  load : ∀ {B : Nat} {w0 w : World} {Ps : List Asn} (rows : List Sg) (next N : Nat) (ao : Option Addr) (n c : Nat), Below W.heap.size W w → Own.St B w0 w (ARow 44 3 (.slice ao n c) n (rows.flatMap sgC) :: Ps) → rows.length = n → LoadOk rows next → Ok ⟨rows, next⟩ N → N ≤ 10000 →
    Calls Try.prog 21 #[.slice ao n c, .int .u64 (next : Int)] w fun e w' => ∃ p, e = .returned (.tuple #[ptr p, errT 0]) ∧ Own.St B w0 w' (A p ⟨rows, next⟩ :: Ps)
  open_ : ∀ {B : Nat} {w0 w : World} {Ps : List Asn} {p : Nat} {t : T} {N : Nat}, Below W.heap.size W w → Own.St B w0 w (A p t :: Ps) → Ok t N → N ≤ 10000 →
    Calls Try.prog 18 #[ptr p] w fun e w' => e = .returned (opV (openT t).2) ∧ Own.St B w0 w' (A p (openT t).1 :: Ps)
  seal_ : ∀ {B : Nat} {w0 w : World} {Ps : List Asn} {p : Nat} {t : T} {N : Nat}, Below W.heap.size W w → Own.St B w0 w (A p t :: Ps) → Ok t N → N ≤ 10000 →
    Calls Try.prog 19 #[ptr p] w fun e w' => e = .returned (errT (sealT t).2) ∧ Own.St B w0 w' (A p (sealT t).1 :: Ps)
  rel : ∀ {B : Nat} {w0 w : World} {Ps : List Asn} {p : Nat} {t : T} {N : Nat} (seg : Int), Below W.heap.size W w → Own.St B w0 w (A p t :: Ps) → Ok t N → N ≤ 10000 → i64T seg →
    Calls Try.prog 20 #[ptr p, .int .i64 seg] w fun e w' => e = .returned (errT (relT t seg).2) ∧ Own.St B w0 w' (A p (relT t seg).1 :: Ps)
  cur : ∀ {B : Nat} {w0 w : World} {Ps : List Asn} {p : Nat} {t : T} {N : Nat}, Below W.heap.size W w → Own.St B w0 w (A p t :: Ps) → Ok t N → N ≤ 10000 → Calls Try.prog 23 #[ptr p] w fun e w' => e = .returned (curV t) ∧ Below w.heap.size w w'
  free : ∀ {B : Nat} {w0 w : World} {Ps : List Asn} {p : Nat} {t : T} {N : Nat}, Below W.heap.size W w → Own.St B w0 w (A p t :: Ps) → Ok t N → N ≤ 10000 → Calls Try.prog 24 #[ptr p] w fun e w' => e = .returned (iV (freeN t)) ∧ Below w.heap.size w w'
  sealed : ∀ {B : Nat} {w0 w : World} {Ps : List Asn} {p : Nat} {t : T} {N : Nat}, Below W.heap.size W w → Own.St B w0 w (A p t :: Ps) → Ok t N → N ≤ 10000 → Calls Try.prog 25 #[ptr p] w fun e w' => ∃ v, e = .returned v ∧ RdRow w' v (sealedL t).length ((sealedL t).map iV) ∧ Below w.heap.size w w'
  sealedOwn : ∀ {B : Nat} {w0 w : World} {Ps : List Asn} {p : Nat} {t : T} {N : Nat}, Below W.heap.size W w → Own.St B w0 w (A p t :: Ps) → Ok t N → N ≤ 10000 → Calls Try.prog 25 #[ptr p] w fun e w' => ∃ ao c, e = .returned (.slice ao (sealedL t).length c) ∧ Own.St B w0 w' (RowI (.slice ao (sealedL t).length c) (sealedL t) (sealedL t).length :: A p t :: Ps)
  rows : ∀ {B : Nat} {w0 w : World} {Ps : List Asn} {p : Nat} {t : T} {N : Nat}, Below W.heap.size W w → Own.St B w0 w (A p t :: Ps) → Ok t N → N ≤ 10000 → Calls Try.prog 16 #[ptr p] w fun e w' => ∃ ao c, e = .returned (.slice ao t.rows.length c) ∧ Own.St B w0 w' (ARow 44 3 (.slice ao t.rows.length c) t.rows.length (t.rows.flatMap sgC) :: A p t :: Ps) ∧ Below w.heap.size w w'
  next : ∀ {B : Nat} {w0 w : World} {Ps : List Asn} {p : Nat} {t : T} {N : Nat}, Below W.heap.size W w → Own.St B w0 w (A p t :: Ps) → Ok t N → N ≤ 10000 → Calls Try.prog 17 #[ptr p] w fun e w' => e = .returned (.int .u64 (t.next : Int)) ∧ Below w.heap.size w w'
  nilOpen : ∀ (w : World), Calls Try.prog 18 #[.pointer none] w fun e w' => e = .returned (opV (0, 0, 2)) ∧ Below w.heap.size w w'
  nilSeal : ∀ (w : World), Calls Try.prog 19 #[.pointer none] w fun e w' => e = .returned (errT 2) ∧ Below w.heap.size w w'
  nilRel : ∀ (seg : Int) (w : World), Calls Try.prog 20 #[.pointer none, .int .i64 seg] w fun e w' => e = .returned (errT 2) ∧ Below w.heap.size w w'
  nilCur : ∀ (w : World), Calls Try.prog 23 #[.pointer none] w fun e w' => e = .returned (.tuple #[.int .i64 0, .bool false]) ∧ Below w.heap.size w w'
  nilFree : ∀ (w : World), Calls Try.prog 24 #[.pointer none] w fun e w' => e = .returned (iV 0) ∧ Below w.heap.size w w'
  nilSealed : ∀ (w : World), Calls Try.prog 25 #[.pointer none] w fun e w' => ∃ ao cap, e = .returned (.slice ao 0 cap) ∧ Below w.heap.size w w'
  nilRows : ∀ (w : World), Calls Try.prog 16 #[.pointer none] w fun e w' => ∃ ao cap, e = .returned (.slice ao 0 cap) ∧ Below w.heap.size w w'
  nilNext : ∀ (w : World), Calls Try.prog 17 #[.pointer none] w fun e w' => e = .returned (.int .u64 0) ∧ Below w.heap.size w w'
theorem act_open {t : T} {a : ActD} (h : a.kind.toNat % 3 = 0) : doAct t a = openT t := by unfold doAct; rw [h]; rfl
theorem act_seal {t : T} {a : ActD} (h : a.kind.toNat % 3 = 1) : doAct t a = ((sealT t).1, (0, 0, (sealT t).2)) := by unfold doAct; rw [h]; rfl
theorem act_rel {t : T} {a : ActD} (h : a.kind.toNat % 3 = 2) : doAct t a = ((relT t a.seg).1, (0, 0, (relT t a.seg).2)) := by unfold doAct; rw [h]; rfl
section
variable {B : Nat} {w0 w : World} {Ps : List Asn} {p : Nat} {t : T} {N : Nat}
set_option maxHeartbeats 4000000 in
theorem model_any {v : Value} (a : ActD) (H : Own.St B w0 w (ARefT p v t :: Ps)) (ok : Ok t N) (hN : N ≤ 10000) (hf : FitA a) :
    Calls Try.prog 14 #[ptr p, .agg (actVs a).toArray] w fun e w' => e = .returned (opV (doAct t a).2) ∧ Own.St B w0 w' (ARefT p v (doAct t a).1 :: Ps) := by
  obtain ⟨b, hbd⟩ : ∃ b, b = w.heap.size := ⟨_, rfl⟩
  obtain ⟨w1, hw1⟩ : ∃ w1, w1 = w.alloc (.cells (actVs a).toArray 33) := ⟨_, rfl⟩
  have hbox := H.boxV 33 (actVs a)
  rw [← hbd, ← hw1] at hbox
  have H1 := Lib.hid hbox.swap2
  have g1 : Below w.heap.size w w1 := by rw [hw1]; exact ((Own.St.start w).alloc _).below
  have HG1 := Lib.hid g1
  have C0 := (hbox.cellV 0 rfl 0 (v := .int .u8 (a.kind.toNat : Int)) rfl).1
  have C1 := (hbox.cellV 0 rfl 1 (v := .int .i64 a.seg) rfl).1
  have OKS := Lib.hid ok
  obtain ⟨sg, hsg⟩ : ∃ s, s = a.seg := ⟨_, rfl⟩
  have hsb : i64T sg := by rw [hsg]; exact hf
  have HSB := Lib.hid hsb
  obtain ⟨r, hr⟩ : ∃ r, r = a.kind.toNat % 3 := ⟨_, rfl⟩
  have hr3 : r < 3 := by omega
  have hri : (a.kind.toNat : Int) % 3 = (r : Int) := by omega
  have hkb : a.kind.toNat < 256 := a.kind.toNat_lt
  obtain ⟨X, hX⟩ : ∃ X, X = doAct t a := ⟨_, rfl⟩
  rw [← hX]
  have HX : Hid (r = 0 → X = openT t) := fun h => by rw [hX]; exact act_open (hr.symm.trans h)
  have HX1 : Hid (r = 1 → X = ((sealT t).1, (0, 0, (sealT t).2))) := fun h => by rw [hX]; exact act_seal (hr.symm.trans h)
  have HX2 : Hid (r = 2 → X = ((relT t sg).1, (0, 0, (relT t sg).2))) := fun h => by rw [hX, hsg]; exact act_rel (hr.symm.trans h)
  rw [hw1, hbd] at C0 C1
  rw [← hsg] at C1
  have BX : Hid (w.alloc (.cells #[.int .u8 (a.kind.toNat : Int), .int .i64 sg] 33) = w1) := by rw [hsg]; exact hw1.symm
  have AG : (Value.agg (actVs a).toArray) = .agg #[.int .u8 (a.kind.toNat : Int), .int .i64 sg] := by rw [hsg]
  rw [AG]
  clear ok hr hbox H g1 hf hX hw1 hbd hsg AG hsb
  rcases (show r = 0 ∨ r = 1 ∨ r = 2 by omega) with h | h | h
  · skip
    have hri0 : (a.kind.toNat : Int) % 3 = 0 := by omega
    have HE := Lib.hid (HX.out (by omega))
    clear HX HX1 HX2 hri
    go_enter Try.func14, Try.ntmps14
    go_wp2_with (fail)
    rw [BX.out]
    refine (openR_any H1.out OKS.out (by omega)).mono ?_
    rintro e w2 ⟨he, h2⟩
    obtain ⟨⟨x1, x2, x3⟩, hx⟩ : ∃ x, x = (openT t).2 := ⟨_, rfl⟩
    have he' : e = .returned (.tuple #[.int .i64 (x1 : Int), .int .u64 (x2 : Int), errT x3]) := by rw [he, ← hx]; rfl
    have HXX := Lib.hid hx.symm
    clear he hx
    subst he'
    have H9 := Lib.hid h2.drop2
    clear h2
    go_wp2
    go_ret3
    rw [HE.out, HXX.out]
    exact ⟨rfl, H9.out⟩
  · skip
    have hri0 : (a.kind.toNat : Int) % 3 = 1 := by omega
    have HE := Lib.hid (HX1.out (by omega))
    clear HX HX1 HX2 hri
    go_enter Try.func14, Try.ntmps14
    go_wp2_with (fail)
    rw [BX.out]
    refine (sealR_any H1.out OKS.out).mono ?_
    rintro e w2 ⟨rfl, h2⟩
    have H9 := Lib.hid h2.drop2
    clear h2
    go_wp2
    go_ret3
    rw [HE.out]
    exact ⟨rfl, H9.out⟩
  · skip
    have hri0 : (a.kind.toNat : Int) % 3 = 2 := by omega
    have HE := Lib.hid (HX2.out (by omega))
    clear HX HX1 HX2 hri
    go_enter Try.func14, Try.ntmps14
    go_wp2_with (fail)
    rw [BX.out]
    refine (relR_any H1.out OKS.out sg HSB.out).mono ?_
    rintro e w2 ⟨rfl, h2⟩
    have H9 := Lib.hid h2.drop2
    clear h2
    go_wp2
    go_ret3
    rw [HE.out]
    exact ⟨rfl, H9.out⟩

set_option maxHeartbeats 4000000 in
theorem does_any {W : World} (K : Kept W) (hW : Below W.heap.size W w) (a : ActD) (H : Own.St B w0 w (K.A p t :: Ps)) (ok : Ok t N) (hN : N ≤ 10000) (hf : FitA a) :
    Calls Try.prog 13 #[ptr p, .agg (actVs a).toArray] w fun e w' => e = .returned (opV (doAct t a).2) ∧ Own.St B w0 w' (K.A p (doAct t a).1 :: Ps) := by
  obtain ⟨b, hbd⟩ : ∃ b, b = w.heap.size := ⟨_, rfl⟩
  obtain ⟨w1, hw1⟩ : ∃ w1, w1 = w.alloc (.cells (actVs a).toArray 33) := ⟨_, rfl⟩
  have hbox := H.boxV 33 (actVs a)
  rw [← hbd, ← hw1] at hbox
  have H1 := Lib.hid hbox.swap2
  have g1 : Below w.heap.size w w1 := by rw [hw1]; exact ((Own.St.start w).alloc _).below
  have HG1 := Lib.hid g1
  have C0 := (hbox.cellV 0 rfl 0 (v := .int .u8 (a.kind.toNat : Int)) rfl).1
  have C1 := (hbox.cellV 0 rfl 1 (v := .int .i64 a.seg) rfl).1
  have OKS := Lib.hid ok
  obtain ⟨sg, hsg⟩ : ∃ s, s = a.seg := ⟨_, rfl⟩
  have hsb : i64T sg := by rw [hsg]; exact hf
  have HSB := Lib.hid hsb
  obtain ⟨r, hr⟩ : ∃ r, r = a.kind.toNat % 3 := ⟨_, rfl⟩
  have hr3 : r < 3 := by omega
  have hri : (a.kind.toNat : Int) % 3 = (r : Int) := by omega
  have hkb : a.kind.toNat < 256 := a.kind.toNat_lt
  obtain ⟨X, hX⟩ : ∃ X, X = doAct t a := ⟨_, rfl⟩
  rw [← hX]
  have HX : Hid (r = 0 → X = openT t) := fun h => by rw [hX]; exact act_open (hr.symm.trans h)
  have HX1 : Hid (r = 1 → X = ((sealT t).1, (0, 0, (sealT t).2))) := fun h => by rw [hX]; exact act_seal (hr.symm.trans h)
  have HX2 : Hid (r = 2 → X = ((relT t sg).1, (0, 0, (relT t sg).2))) := fun h => by rw [hX, hsg]; exact act_rel (hr.symm.trans h)
  rw [hw1, hbd] at C0 C1
  rw [← hsg] at C1
  have BX : Hid (w.alloc (.cells #[.int .u8 (a.kind.toNat : Int), .int .i64 sg] 33) = w1) := by rw [hsg]; exact hw1.symm
  have AG : (Value.agg (actVs a).toArray) = .agg #[.int .u8 (a.kind.toNat : Int), .int .i64 sg] := by rw [hsg]
  rw [AG]
  clear ok hr hbox H g1 hf hX hw1 hbd hsg AG hsb
  rcases (show r = 0 ∨ r = 1 ∨ r = 2 by omega) with h | h | h
  · skip
    have hri0 : (a.kind.toNat : Int) % 3 = 0 := by omega
    have HE := Lib.hid (HX.out (by omega))
    clear HX HX1 HX2 hri
    go_enter Try.func13, Try.ntmps13
    go_wp2_with (fail)
    rw [BX.out]
    refine (K.open_ (hW.trans (HG1.out.mono hW.size)) H1.out OKS.out hN).mono ?_
    rintro e w2 ⟨he, h2⟩
    obtain ⟨⟨x1, x2, x3⟩, hx⟩ : ∃ x, x = (openT t).2 := ⟨_, rfl⟩
    have he' : e = .returned (.tuple #[.int .i64 (x1 : Int), .int .u64 (x2 : Int), errT x3]) := by rw [he, ← hx]; rfl
    have HXX := Lib.hid hx.symm
    clear he hx
    subst he'
    have H9 := Lib.hid h2.drop2
    clear h2
    go_wp2
    go_ret3
    rw [HE.out, HXX.out]
    exact ⟨rfl, H9.out⟩
  · skip
    have hri0 : (a.kind.toNat : Int) % 3 = 1 := by omega
    have HE := Lib.hid (HX1.out (by omega))
    clear HX HX1 HX2 hri
    go_enter Try.func13, Try.ntmps13
    go_wp2_with (fail)
    rw [BX.out]
    refine (K.seal_ (hW.trans (HG1.out.mono hW.size)) H1.out OKS.out hN).mono ?_
    rintro e w2 ⟨rfl, h2⟩
    have H9 := Lib.hid h2.drop2
    clear h2
    go_wp2
    go_ret3
    rw [HE.out]
    exact ⟨rfl, H9.out⟩
  · skip
    have hri0 : (a.kind.toNat : Int) % 3 = 2 := by omega
    have HE := Lib.hid (HX2.out (by omega))
    clear HX HX1 HX2 hri
    go_enter Try.func13, Try.ntmps13
    go_wp2_with (fail)
    rw [BX.out]
    refine (K.rel sg (hW.trans (HG1.out.mono hW.size)) H1.out OKS.out hN HSB.out).mono ?_
    rintro e w2 ⟨rfl, h2⟩
    have H9 := Lib.hid h2.drop2
    clear h2
    go_wp2
    go_ret3
    rw [HE.out]
    exact ⟨rfl, H9.out⟩
end
end Tab
end Go.Proofs.Ytlgfddpgmpabcaa

end
section
namespace Go.Own
open Go.RowKit
section
variable {P : Program} {ops : Array Oper} {C : World → Prop} {o : Oper} {I : Lx} {ds : List Deferred} {rest : List Oper} {Q : Act → World → Prop} {fs : List Value}
theorem gives_callU2 {a : Act} {t s : Tmp} {R S : Ty} (R' : Ty) {f : FuncId} {ts : Array TypeId} (ho : o.op = .call { callee := .value (.func f), args := #[.tmp t, .tmp s], argTypes := ts }) (hx : I.lookup t = some R) (hy : I.lookup s = some S)
    (hfn : ∀ (args : Array Value) w, (callFunc f args).run P w = .ok (.enter f args) w) (hc : ∀ (u v : Value) w, C w → R.holds u w → S.holds v w → Calls P f #[u, v] w fun e w' => ∃ r, e = .returned r ∧ R'.holds r w' ∧ Below w.heap.size w w') : Gives P ops C o I a R' := fun a1 w hC ht K Q' hK => by
  have h1 := ht t (looks_of_operand (x := .tmp t) (by rw [ho]; simp [Op.operands, Call.operands]) rfl)
  have h2 := ht s (looks_of_operand (x := .tmp s) (by rw [ho]; simp [Op.operands, Call.operands]) rfl)
  unfold slotIs at h1 h2
  rw [hx] at h1
  rw [hy] at h2
  unfold Oper.wp
  rw [enter_of (xs := [.tmp t, .tmp s]) ho a1.eval rfl hfn]
  exact (hc _ _ w hC h1 h2).mono fun e w' ⟨v, he, hv, hb⟩ => by subst he; exact hK _ _ hv hb
theorem gives_callUk {a : Act} {t : Tmp} {y : Operand} {R : Ty} (vy : Value) (R' : Ty) {f : FuncId} {ts : Array TypeId} (ho : o.op = .call { callee := .value (.func f), args := #[.tmp t, y], argTypes := ts }) (hx : I.lookup t = some R) (hk : known I y = true) (hy : a.eval y = vy)
    (hfn : ∀ (args : Array Value) w, (callFunc f args).run P w = .ok (.enter f args) w) (hc : ∀ (u : Value) w, C w → R.holds u w → Calls P f #[u, vy] w fun e w' => ∃ r, e = .returned r ∧ R'.holds r w' ∧ Below w.heap.size w w') : Gives P ops C o I a R' := fun a1 w hC ht K Q' hK => by
  have h1 := ht t (looks_of_operand (x := .tmp t) (by rw [ho]; simp [Op.operands, Call.operands]) rfl)
  unfold slotIs at h1
  rw [hx] at h1
  have h2 : a1.eval y = vy := (known_eval hk (by rw [ho]; simp [Op.operands, Call.operands]) ht).trans hy
  unfold Oper.wp
  rw [enter_of (xs := [.tmp t, y]) ho a1.eval rfl hfn]
  simp only [List.map_cons, List.map_nil, h2]
  exact (hc _ w hC h1).mono fun e w' ⟨v, he, hv, hb⟩ => by subst he; exact hK _ _ hv hb
/-- a call of two arguments that are not known -/
theorem wpL_fnU2V {t s : Tmp} {R S : Ty} (v : Value) {f : FuncId} {ts : Array TypeId} (ho : o.op = .call { callee := .value (.func f), args := #[.tmp t, .tmp s], argTypes := ts }) (hx : I.lookup t = some R) (hy : I.lookup s = some S) (hg : guardKnown ops o I = true) (hw : wantedL ops fs o = true)
    (hfn : ∀ (args : Array Value) w, (callFunc f args).run P w = .ok (.enter f args) w) (hc : ∀ (u u' : Value) w, C w → R.holds u w → S.holds u' w → Calls P f #[u, u'] w fun e w' => e = .returned v ∧ Below w.heap.size w w') (k : wpL P ops C Q ds rest I (setL fs o.dst v)) : wpL P ops C Q ds (o :: rest) I fs :=
  ⟨_, _, .val v hg (wantedL_eq.trans hw) (gives_callU2 (Ty.is v) ho hx hy hfn (fun u u' w h1 h2 h3 => (hc u u' w h1 h2 h3).mono fun _ _ h => ⟨v, h.1, rfl, h.2⟩)), by rw [mkA_put]; exact k⟩
/-- a call of one argument that is not known and one that is -/
theorem wpL_fnUkV {t : Tmp} {y : Operand} {R : Ty} (vy v : Value) {f : FuncId} {ts : Array TypeId} (ho : o.op = .call { callee := .value (.func f), args := #[.tmp t, y], argTypes := ts }) (hx : I.lookup t = some R) (hk : known I y = true) (hy : ev fs y = vy) (hg : guardKnown ops o I = true) (hw : wantedL ops fs o = true)
    (hfn : ∀ (args : Array Value) w, (callFunc f args).run P w = .ok (.enter f args) w) (hc : ∀ (u : Value) w, C w → R.holds u w → Calls P f #[u, vy] w fun e w' => e = .returned v ∧ Below w.heap.size w w') (k : wpL P ops C Q ds rest I (setL fs o.dst v)) : wpL P ops C Q ds (o :: rest) I fs :=
  ⟨_, _, .val v hg (wantedL_eq.trans hw) (gives_callUk vy (Ty.is v) ho hx hk ((mkA_eval y).trans hy) hfn (fun u w h1 h2 => (hc u w h1 h2).mono fun _ _ h => ⟨v, h.1, rfl, h.2⟩)), by rw [mkA_put]; exact k⟩
end
end Go.Own

end
section
namespace Go.Proofs.Ytlgfddpgmpabcaa
open Go.RowKit Go.Own
namespace Tab
open Go.TabM
def RetYes (w : World) (e : Ending) (w' : World) : Prop := e = .returned (.bool true) ∧ Below w.heap.size w w'
set_option maxRecDepth 10000 in
set_option maxHeartbeats 8000000 in
theorem alike_any {W : World} (K : Kept W) {B : Nat} {w0 w : World} {Ps : List Asn} {p q : Nat} {v : Value} {t : T} {N : Nat} (hW : Below W.heap.size W w) (H : Own.St B w0 w (K.A p t :: ARefT q v t :: Ps)) (ok : Ok t N) (hN : N ≤ 10000) :
    Calls Try.prog 15 #[ptr p, ptr q] w (RetYes w) := by
  have HW := Lib.hid (fun wx (hwx : Below w.heap.size w wx) => hW.trans (hwx.mono hW.size))
  have HR := Lib.hid (H.front 1 rfl)
  obtain ⟨n, hn⟩ : ∃ n, n = t.rows.length := ⟨_, rfl⟩
  obtain ⟨G, hG⟩ : ∃ G, G = t.rows := ⟨_, rfl⟩
  obtain ⟨nx, hnx⟩ : ∃ n, n = t.next := ⟨_, rfl⟩
  obtain ⟨F, hF⟩ : ∃ F, F = freeN t := ⟨_, rfl⟩
  obtain ⟨L, hL⟩ : ∃ L, L = sealedL t := ⟨_, rfl⟩
  obtain ⟨m, hm⟩ : ∃ m, m = L.length := ⟨_, rfl⟩
  obtain ⟨ci, hci⟩ : ∃ c : Nat, c = (cur t).getD 0 := ⟨_, rfl⟩
  obtain ⟨cb, hcb⟩ : ∃ c, c = (cur t).isSome := ⟨_, rfl⟩
  have hcv : curV t = .tuple #[iV ci, .bool cb] := by unfold curV; rw [hci, hcb]
  have hm256 : m ≤ 256 := by
    rw [hm, hL, sealed_len]
    exact Nat.le_trans List.countP_le_length ok.len
  have C1 : Hid (∀ wx, Below w.heap.size w wx → Calls Try.prog 23 #[ptr p] wx fun e w' => e = .returned (.tuple #[iV ci, .bool cb]) ∧ Below wx.heap.size wx w') := fun wx hwx => by rw [← hcv]; exact K.cur (HW.out wx hwx) (H.later hwx) ok hN
  have C2 : Hid (∀ wx, Below w.heap.size w wx → Calls Try.prog 29 #[ptr q] wx fun e w' => e = .returned (.tuple #[iV ci, .bool cb]) ∧ w' = wx) := fun wx hwx => by rw [← hcv]; exact currentR_any (HR.out.later hwx) ok
  have F1 : Hid (∀ wx, Below w.heap.size w wx → Calls Try.prog 24 #[ptr p] wx fun e w' => e = .returned (iV F) ∧ Below wx.heap.size wx w') := fun wx hwx => by rw [hF]; exact K.free (HW.out wx hwx) (H.later hwx) ok hN
  have F2 : Hid (∀ wx, Below w.heap.size w wx → Calls Try.prog 30 #[ptr q] wx fun e w' => e = .returned (iV F) ∧ Below wx.heap.size wx w') := fun wx hwx => by rw [hF]; exact (freeR_any (HR.out.later hwx) ok).mono fun e w' h => ⟨h.1, h.2 ▸ Below.refl _ _⟩
  have N1 : Hid (∀ wx, Below w.heap.size w wx → Calls Try.prog 17 #[ptr p] wx fun e w' => e = .returned (.int .u64 (nx : Int)) ∧ Below wx.heap.size wx w') := fun wx hwx => by rw [hnx]; exact K.next (HW.out wx hwx) (H.later hwx) ok hN
  have S1 : Hid (∀ wx, Below w.heap.size w wx → Calls Try.prog 25 #[ptr p] wx fun e w' => ∃ u, e = .returned u ∧ (tyRow m (L.map iV)).holds u w' ∧ Below wx.heap.size wx w') := fun wx hwx => by rw [hm, hL]; exact K.sealed (HW.out wx hwx) (H.later hwx) ok hN
  have S2 : Hid (∀ wx, Below w.heap.size w wx → Calls Try.prog 32 #[ptr q] wx fun e w' => ∃ u, e = .returned u ∧ (tyRow m (L.map iV)).holds u w' ∧ Below wx.heap.size wx w') := fun wx hwx => by
    rw [hm, hL]
    refine (sealedR_any (HR.out.later hwx) ok (by omega)).mono ?_
    rintro e w' ⟨ao, c, rfl, h⟩
    exact ⟨_, rfl, rd_own h 0 rfl, h.below⟩
  have CI : Hid (∀ u u' wx, (tyRow m (L.map iV)).holds u wx → (tyRow m (L.map iV)).holds u' wx → Calls Try.prog 31 #[u, u'] wx fun e w' => e = .returned (.bool true) ∧ Below wx.heap.size wx w') := fun u u' wx h1 h2 => sameInts_any L m u u' wx h1 h2 hm.symm (by omega)
  have R1 : Hid (∀ wx, Below w.heap.size w wx → Calls Try.prog 16 #[ptr p] wx fun e w' => ∃ u, e = .returned u ∧ (tyRow n (G.flatMap sgC)).holds u w' ∧ Below wx.heap.size wx w') := fun wx hwx => by
    rw [hn, hG]
    refine (K.rows (HW.out wx hwx) (H.later hwx) ok hN).mono ?_
    rintro e w' ⟨ao, c, rfl, h, hb⟩
    exact ⟨_, rfl, rd_own h 0 rfl, hb⟩
  have CGG : Hid (∀ u wx, Below w.heap.size w wx → (tyRow n (G.flatMap sgC)).holds u wx → Calls Try.prog 22 #[u, v] wx fun e w' => e = .returned (.bool true) ∧ Below wx.heap.size wx w') := fun u wx hwx h1 => by
    have hr := ref_open (HR.out.later hwx)
    have h2 : RdRow wx v n (G.flatMap sgC) := by rw [hn, hG]; exact rd_own hr 1 rfl
    exact sameRows_any G n u v wx h1 h2 (by rw [hG, hn]) (by rw [hn]; have := ok.len; omega)
  have Q0' : Hid (∀ wx, Below w.heap.size w wx → wx.cell? ⟨q, 0, none⟩ = some v) := fun wx hwx => ((ref_open (HR.out.later hwx)).cellV 0 rfl 0 rfl).1
  have Q1' : Hid (∀ wx, Below w.heap.size w wx → wx.cell? ⟨q, 1, none⟩ = some (.int .u64 (nx : Int))) := fun wx hwx => by rw [hnx]; exact ((ref_open (HR.out.later hwx)).cellV 0 rfl 1 rfl).1
  have CC := Lib.hid (C1.out w (Below.refl _ w))
  clear hn hG hnx hF hL hm hci hcb hcv H hW C1
  go_enter Try.func15, Try.ntmps15
  go_wp2_with (fail)
  refine CC.out.mono ?_
  clear CC
  rintro e w1 ⟨rfl, hb1⟩
  have B1 := Lib.hid hb1
  have CC := Lib.hid (C2.out w1 hb1)
  clear hb1 C2
  go_wp2_with (fail)
  refine CC.out.mono ?_
  clear CC
  rintro e w2 ⟨rfl, hw2⟩
  subst hw2
  have UP : Hid (∀ wx, Below w2.heap.size w2 wx → Below w.heap.size w wx) := fun wx h => B1.out.trans (h.mono B1.out.size)
  have CF1 : Hid (∀ wx, Below w2.heap.size w2 wx → Calls Try.prog 24 #[ptr p] wx fun e w' => e = .returned (iV F) ∧ Below wx.heap.size wx w') := fun wx h => F1.out wx (UP.out wx h)
  have CF2 : Hid (∀ wx, Below w2.heap.size w2 wx → Calls Try.prog 30 #[ptr q] wx fun e w' => e = .returned (iV F) ∧ Below wx.heap.size wx w') := fun wx h => F2.out wx (UP.out wx h)
  have CN : Hid (∀ wx, Below w2.heap.size w2 wx → Calls Try.prog 17 #[ptr p] wx fun e w' => e = .returned (.int .u64 (nx : Int)) ∧ Below wx.heap.size wx w') := fun wx h => N1.out wx (UP.out wx h)
  have CS1 : Hid (∀ wx, Below w2.heap.size w2 wx → Calls Try.prog 25 #[ptr p] wx fun e w' => ∃ u, e = .returned u ∧ (tyRow m (L.map iV)).holds u w' ∧ Below wx.heap.size wx w') := fun wx h => S1.out wx (UP.out wx h)
  have CS2 : Hid (∀ wx, Below w2.heap.size w2 wx → Calls Try.prog 32 #[ptr q] wx fun e w' => ∃ u, e = .returned u ∧ (tyRow m (L.map iV)).holds u w' ∧ Below wx.heap.size wx w') := fun wx h => S2.out wx (UP.out wx h)
  have CR1 : Hid (∀ wx, Below w2.heap.size w2 wx → Calls Try.prog 16 #[ptr p] wx fun e w' => ∃ u, e = .returned u ∧ (tyRow n (G.flatMap sgC)).holds u w' ∧ Below wx.heap.size wx w') := fun wx h => R1.out wx (UP.out wx h)
  have CG : Hid (∀ u wx, Below w2.heap.size w2 wx → (tyRow n (G.flatMap sgC)).holds u wx → Calls Try.prog 22 #[u, v] wx fun e w' => e = .returned (.bool true) ∧ Below wx.heap.size wx w') := fun u wx h hu => CGG.out u wx (UP.out wx h) hu
  have Q0 : Hid (∀ wx, Below w2.heap.size w2 wx → wx.cell? ⟨q, 0, none⟩ = some v) := fun wx h => Q0'.out wx (UP.out wx h)
  have Q1 : Hid (∀ wx, Below w2.heap.size w2 wx → wx.cell? ⟨q, 1, none⟩ = some (.int .u64 (nx : Int))) := fun wx h => Q1'.out wx (UP.out wx h)
  clear F1 F2 N1 S1 S2 R1 CGG Q0' Q1'
  go_wp2_with (fail)
  refine wp_lax_list (by kernel_rfl) (by kernel_rfl) (by kernel_rfl) ?_
  refine wpL_move (iV ci) rfl (by kernel_rfl) (by kernel_rfl) (by kernel_rfl) (by kernel_rfl) ?_
  refine wpL_move (iV ci) rfl (by kernel_rfl) (by kernel_rfl) (by kernel_rfl) (by kernel_rfl) ?_
  refine wpL_run2 (x := .tmp 19) (y := .tmp 20) (iV ci) (iV ci) (.bool true) (by kernel_rfl) (by kernel_rfl) (by kernel_rfl) (by kernel_rfl) (by kernel_rfl) (by kernel_rfl) (fun wx ρ hwx h0 h1 hc => by simp [go_sem, h0, h1, hc]) ?_
  refine wpL_move (.bool true) rfl (by kernel_rfl) (by kernel_rfl) (by kernel_rfl) (by kernel_rfl) ?_
  refine wpL_move (.bool cb) rfl (by kernel_rfl) (by kernel_rfl) (by kernel_rfl) (by kernel_rfl) ?_
  refine wpL_move (.bool cb) rfl (by kernel_rfl) (by kernel_rfl) (by kernel_rfl) (by kernel_rfl) ?_
  refine wpL_run2 (x := .tmp 23) (y := .tmp 24) (.bool cb) (.bool cb) (.bool true) (by kernel_rfl) (by kernel_rfl) (by kernel_rfl) (by kernel_rfl) (by kernel_rfl) (by kernel_rfl) (fun wx ρ hwx h0 h1 hc => by simp [go_sem, h0, h1, hc]) ?_
  refine wpL_run2 (x := .tmp 22) (y := .tmp 25) (.bool true) (.bool true) (.bool true) (by kernel_rfl) (by kernel_rfl) (by kernel_rfl) (by kernel_rfl) (by kernel_rfl) (by kernel_rfl) (fun wx ρ hwx h0 h1 hc => by simp [go_sem, h0, h1]) ?_
  refine wpL_move (.bool true) rfl (by kernel_rfl) (by kernel_rfl) (by kernel_rfl) (by kernel_rfl) ?_
  refine wpL_move (ptr p) rfl (by kernel_rfl) (by kernel_rfl) (by kernel_rfl) (by kernel_rfl) ?_
  refine wpL_fn (iV F) [ptr p] rfl (by kernel_rfl) (by kernel_rfl) (by kernel_rfl) (by kernel_rfl) (fun _ _ => by simp [go_sem]) (fun wx hwx => CF1.out wx hwx) ?_
  refine wpL_move (ptr q) rfl (by kernel_rfl) (by kernel_rfl) (by kernel_rfl) (by kernel_rfl) ?_
  refine wpL_fn (iV F) [ptr q] rfl (by kernel_rfl) (by kernel_rfl) (by kernel_rfl) (by kernel_rfl) (fun _ _ => by simp [go_sem]) (fun wx hwx => CF2.out wx hwx) ?_
  refine wpL_run2 (x := .tmp 29) (y := .tmp 31) (iV F) (iV F) (.bool true) (by kernel_rfl) (by kernel_rfl) (by kernel_rfl) (by kernel_rfl) (by kernel_rfl) (by kernel_rfl) (fun wx ρ hwx h0 h1 hc => by simp [go_sem, h0, h1, hc]) ?_
  refine wpL_run2 (x := .tmp 27) (y := .tmp 32) (.bool true) (.bool true) (.bool true) (by kernel_rfl) (by kernel_rfl) (by kernel_rfl) (by kernel_rfl) (by kernel_rfl) (by kernel_rfl) (fun wx ρ hwx h0 h1 hc => by simp [go_sem, h0, h1]) ?_
  refine wpL_move (.bool true) rfl (by kernel_rfl) (by kernel_rfl) (by kernel_rfl) (by kernel_rfl) ?_
  refine wpL_move (ptr p) rfl (by kernel_rfl) (by kernel_rfl) (by kernel_rfl) (by kernel_rfl) ?_
  refine wpL_fn (.int .u64 (nx : Int)) [ptr p] rfl (by kernel_rfl) (by kernel_rfl) (by kernel_rfl) (by kernel_rfl) (fun _ _ => by simp [go_sem]) (fun wx hwx => CN.out wx hwx) ?_
  refine wpL_move (ptr q) rfl (by kernel_rfl) (by kernel_rfl) (by kernel_rfl) (by kernel_rfl) ?_
  refine wpL_run1 (x := .tmp 37) (ptr q) (.pointer (some ⟨q, 0, none⟩)) (by kernel_rfl) (by kernel_rfl) (by kernel_rfl) (by kernel_rfl) (by kernel_rfl) (fun wx ρ hwx h0 hc => by simp [go_sem, h0, hc]) ?_
  refine wpL_run1 (x := .tmp 38) (.pointer (some ⟨q, 0, none⟩)) (.pointer (some ⟨q, 1, none⟩)) (by kernel_rfl) (by kernel_rfl) (by kernel_rfl) (by kernel_rfl) (by kernel_rfl) (fun wx ρ hwx h0 hc => by simp [go_sem, h0, hc]) ?_
  refine wpL_run1 (x := .tmp 39) (.pointer (some ⟨q, 1, none⟩)) (.int .u64 (nx : Int)) (by kernel_rfl) (by kernel_rfl) (by kernel_rfl) (by kernel_rfl) (by kernel_rfl) (fun wx ρ hwx h0 hc => by simp [go_sem, h0, hc, Q1.out wx hwx]) ?_
  refine wpL_run2 (x := .tmp 36) (y := .tmp 40) (.int .u64 (nx : Int)) (.int .u64 (nx : Int)) (.bool true) (by kernel_rfl) (by kernel_rfl) (by kernel_rfl) (by kernel_rfl) (by kernel_rfl) (by kernel_rfl) (fun wx ρ hwx h0 h1 hc => by simp [go_sem, h0, h1, hc]) ?_
  refine wpL_run2 (x := .tmp 34) (y := .tmp 41) (.bool true) (.bool true) (.bool true) (by kernel_rfl) (by kernel_rfl) (by kernel_rfl) (by kernel_rfl) (by kernel_rfl) (by kernel_rfl) (fun wx ρ hwx h0 h1 hc => by simp [go_sem, h0, h1]) ?_
  refine wpL_move (.bool true) rfl (by kernel_rfl) (by kernel_rfl) (by kernel_rfl) (by kernel_rfl) ?_
  refine wpL_move (ptr p) rfl (by kernel_rfl) (by kernel_rfl) (by kernel_rfl) (by kernel_rfl) ?_
  refine wpL_fnT (tyRow m (L.map iV)) [ptr p] rfl rfl (by kernel_rfl) (by kernel_rfl) (by kernel_rfl) (by kernel_rfl) (fun _ _ => by simp [go_sem]) (fun wx hwx => CS1.out wx hwx) ?_
  refine wpL_move (ptr q) rfl (by kernel_rfl) (by kernel_rfl) (by kernel_rfl) (by kernel_rfl) ?_
  refine wpL_fnT (tyRow m (L.map iV)) [ptr q] rfl rfl (by kernel_rfl) (by kernel_rfl) (by kernel_rfl) (by kernel_rfl) (fun _ _ => by simp [go_sem]) (fun wx hwx => CS2.out wx hwx) ?_
  refine wpL_fnU2V (.bool true) rfl (by kernel_rfl) (by kernel_rfl) (by kernel_rfl) (by kernel_rfl) (fun _ _ => by simp [go_sem]) (fun u u' wx hwx hu hu' => CI.out u u' wx hu hu') ?_
  refine wpL_run2 (x := .tmp 43) (y := .tmp 48) (.bool true) (.bool true) (.bool true) (by kernel_rfl) (by kernel_rfl) (by kernel_rfl) (by kernel_rfl) (by kernel_rfl) (by kernel_rfl) (fun wx ρ hwx h0 h1 hc => by simp [go_sem, h0, h1]) ?_
  refine wpL_move (.bool true) rfl (by kernel_rfl) (by kernel_rfl) (by kernel_rfl) (by kernel_rfl) ?_
  refine wpL_move (ptr p) rfl (by kernel_rfl) (by kernel_rfl) (by kernel_rfl) (by kernel_rfl) ?_
  refine wpL_fnT (tyRow n (G.flatMap sgC)) [ptr p] rfl rfl (by kernel_rfl) (by kernel_rfl) (by kernel_rfl) (by kernel_rfl) (fun _ _ => by simp [go_sem]) (fun wx hwx => CR1.out wx hwx) ?_
  refine wpL_move (ptr q) rfl (by kernel_rfl) (by kernel_rfl) (by kernel_rfl) (by kernel_rfl) ?_
  refine wpL_run1 (x := .tmp 53) (ptr q) (.pointer (some ⟨q, 0, none⟩)) (by kernel_rfl) (by kernel_rfl) (by kernel_rfl) (by kernel_rfl) (by kernel_rfl) (fun wx ρ hwx h0 hc => by simp [go_sem, h0, hc]) ?_
  refine wpL_run1 (x := .tmp 54) (.pointer (some ⟨q, 0, none⟩)) (.pointer (some ⟨q, 0, none⟩)) (by kernel_rfl) (by kernel_rfl) (by kernel_rfl) (by kernel_rfl) (by kernel_rfl) (fun wx ρ hwx h0 hc => by simp [go_sem, h0, hc]) ?_
  refine wpL_run1 (x := .tmp 55) (.pointer (some ⟨q, 0, none⟩)) v (by kernel_rfl) (by kernel_rfl) (by kernel_rfl) (by kernel_rfl) (by kernel_rfl) (fun wx ρ hwx h0 hc => by simp [go_sem, h0, hc, Q0.out wx hwx]) ?_
  refine wpL_fnUkV v (.bool true) rfl (by kernel_rfl) (by kernel_rfl) (by kernel_rfl) (by kernel_rfl) (by kernel_rfl) (fun _ _ => by simp [go_sem]) (fun u wx hwx hu => CG.out u wx hwx hu) ?_
  refine wpL_run2 (x := .tmp 50) (y := .tmp 57) (.bool true) (.bool true) (.bool true) (by kernel_rfl) (by kernel_rfl) (by kernel_rfl) (by kernel_rfl) (by kernel_rfl) (by kernel_rfl) (fun wx ρ hwx h0 h1 hc => by simp [go_sem, h0, h1]) ?_
  refine wpL_assign (.bool true) rfl (by kernel_rfl) (by kernel_rfl) (by kernel_rfl) (by kernel_rfl) ?_
  refine wpL_end (by kernel_rfl) (fun w5 hw5 => ?_)
  simp only [FinL, setL, List.set_cons_zero, List.set_cons_succ]
  intro u1 _ u2 _ u3 _
  have B5 := Lib.hid (UP.out w5 hw5)
  clear hw5
  go_wp2
  go_ret
  exact ⟨rfl, B5.out⟩
end Tab
end Go.Proofs.Ytlgfddpgmpabcaa

end
section
namespace Go.Proofs.Ytlgfddpgmpabcaa
open Go.RowKit Go.Own
namespace Tab
open Go.TabM
def x1 : T := ⟨[⟨1, 1, 1⟩, ⟨0, 0, 0⟩], 2⟩
def x2 : T := ⟨[⟨2, 1, 1⟩, ⟨0, 0, 0⟩], 2⟩
def x3 : T := ⟨[⟨2, 1, 1⟩, ⟨1, 2, 1⟩], 3⟩
def x4 : T := ⟨[⟨0, 0, 1⟩, ⟨1, 2, 1⟩], 3⟩
def x5 : T := ⟨[⟨0, 0, 1⟩, ⟨2, 2, 1⟩], 3⟩
def x6 : T := ⟨[⟨1, 3, 2⟩, ⟨2, 2, 1⟩], 4⟩
theorem o1 : openT (fresh 2) = (x1, (0, 1, 0)) := rfl
theorem o2 : openT x1 = (x1, (0, 0, 3)) := rfl
theorem s1 : sealT x1 = (x2, 0) := rfl
theorem o3 : openT x2 = (x3, (1, 2, 0)) := rfl
theorem r1 : relT x3 0 = (x4, 0) := rfl
theorem s2 : sealT x4 = (x5, 0) := rfl
theorem o4 : openT x5 = (x6, (0, 3, 0)) := rfl
theorem k0 : Ok (fresh 2) 0 := ok_fresh 2 (by decide)
theorem k1 : Ok x1 1 := by have h := ok_open k0; rw [o1] at h; exact h
theorem k2 : Ok x2 1 := by have h := ok_seal k1; rw [s1] at h; exact h
theorem k3 : Ok x3 2 := by have h := ok_open k2; rw [o3] at h; exact h
theorem k4 : Ok x4 2 := by have h := ok_rel k3 0; rw [r1] at h; exact h
theorem k5 : Ok x5 2 := by have h := ok_seal k4; rw [s2] at h; exact h
set_option maxRecDepth 10000 in
set_option maxHeartbeats 8000000 in
theorem shown_any {W w : World} (K : Kept W) (hW : Below W.heap.size W w) : Calls Try.prog 9 #[] w (RetYes w) := by
  have HW := Lib.hid (fun wx (hwx : Below w.heap.size w wx) => hW.trans (hwx.mono hW.size))
  have C0 := K.new 2 hW (Own.St.start w) (by decide)
  rw [show mayBe 2 = true from rfl] at C0
  simp only [if_true] at C0
  have C0 := Lib.hid C0
  have C1 : Hid (∀ p wx, Own.St w.heap.size w wx [K.A p (fresh 2)] → Calls Try.prog 18 #[ptr p] wx fun e w' => e = .returned (.tuple #[.int .i64 0, .int .u64 1, .int .i64 0]) ∧ Own.St w.heap.size w w' [K.A p x1]) := fun p wx h => by
    have c := K.open_ (HW.out wx h.below) h k0 (by decide)
    rw [o1] at c
    exact c
  have C2 : Hid (∀ p wx, Own.St w.heap.size w wx [K.A p x1] → Calls Try.prog 18 #[ptr p] wx fun e w' => e = .returned (.tuple #[.int .i64 0, .int .u64 0, .int .i64 3]) ∧ Own.St w.heap.size w w' [K.A p x1]) := fun p wx h => by
    have c := K.open_ (HW.out wx h.below) h k1 (by decide)
    rw [o2] at c
    exact c
  have C3 : Hid (∀ p wx, Own.St w.heap.size w wx [K.A p x1] → Calls Try.prog 19 #[ptr p] wx fun e w' => e = .returned (.int .i64 0) ∧ Own.St w.heap.size w w' [K.A p x2]) := fun p wx h => by
    have c := K.seal_ (HW.out wx h.below) h k1 (by decide)
    rw [s1] at c
    exact c
  have C4 : Hid (∀ p wx, Own.St w.heap.size w wx [K.A p x2] → Calls Try.prog 18 #[ptr p] wx fun e w' => e = .returned (.tuple #[.int .i64 1, .int .u64 2, .int .i64 0]) ∧ Own.St w.heap.size w w' [K.A p x3]) := fun p wx h => by
    have c := K.open_ (HW.out wx h.below) h k2 (by decide)
    rw [o3] at c
    exact c
  have C5 : Hid (∀ p wx, Own.St w.heap.size w wx [K.A p x3] → Calls Try.prog 20 #[ptr p, .int .i64 0] wx fun e w' => e = .returned (.int .i64 0) ∧ Own.St w.heap.size w w' [K.A p x4]) := fun p wx h => by
    have c := K.rel 0 (HW.out wx h.below) h k3 (by decide) (by decide)
    rw [r1] at c
    exact c
  have C6 : Hid (∀ p wx, Own.St w.heap.size w wx [K.A p x4] → Calls Try.prog 19 #[ptr p] wx fun e w' => e = .returned (.int .i64 0) ∧ Own.St w.heap.size w w' [K.A p x5]) := fun p wx h => by
    have c := K.seal_ (HW.out wx h.below) h k4 (by decide)
    rw [s2] at c
    exact c
  have C7 : Hid (∀ p wx, Own.St w.heap.size w wx [K.A p x5] → Calls Try.prog 18 #[ptr p] wx fun e w' => e = .returned (.tuple #[.int .i64 0, .int .u64 3, .int .i64 0]) ∧ Own.St w.heap.size w w' [K.A p x6]) := fun p wx h => by
    have c := K.open_ (HW.out wx h.below) h k5 (by decide)
    rw [o4] at c
    exact c
  clear HW hW
  go_enter Try.func9, Try.ntmps9
  go_wp2_with (fail)
  refine C0.out.mono ?_
  clear C0
  rintro e w0 ⟨p, rfl, h⟩
  have H0 := Lib.hid h
  clear h
  go_wp2_with (fail)
  refine (C1.out p w0 H0.out).mono ?_
  rintro e w1 ⟨rfl, h⟩
  have H1 := Lib.hid h
  clear h C1 H0
  go_wp2_with (fail)
  refine (C2.out p w1 H1.out).mono ?_
  rintro e w2 ⟨rfl, h⟩
  have H2 := Lib.hid h
  clear h C2 H1
  go_wp2_with (fail)
  refine (C3.out p w2 H2.out).mono ?_
  rintro e w3 ⟨rfl, h⟩
  have H3 := Lib.hid h
  clear h C3 H2
  go_wp2_with (fail)
  refine (C4.out p w3 H3.out).mono ?_
  rintro e w4 ⟨rfl, h⟩
  have H4 := Lib.hid h
  clear h C4 H3
  go_wp2_with (fail)
  refine (C5.out p w4 H4.out).mono ?_
  rintro e w5 ⟨rfl, h⟩
  have H5 := Lib.hid h
  clear h C5 H4
  go_wp2_with (fail)
  refine (C6.out p w5 H5.out).mono ?_
  rintro e w6 ⟨rfl, h⟩
  have H6 := Lib.hid h
  clear h C6 H5
  go_wp2_with (fail)
  refine (C7.out p w6 H6.out).mono ?_
  rintro e w7 ⟨rfl, h⟩
  have H7 := Lib.hid h
  clear h C7 H6
  go_wp2
  go_ret
  exact ⟨rfl, H7.out.below⟩

set_option maxRecDepth 10000 in
set_option maxHeartbeats 8000000 in
/-- does, of no table -/
theorem does_nil {W : World} (K : Kept W) (a : ActD) (w : World) : Calls Try.prog 13 #[.pointer none, .agg (actVs a).toArray] w fun e w' => e = .returned (.tuple #[.int .i64 0, .int .u64 0, .int .i64 2]) ∧ Below w.heap.size w w' := by
  obtain ⟨w1, hw1⟩ : ∃ w1, w1 = w.alloc (.cells (actVs a).toArray 33) := ⟨_, rfl⟩
  have hbox := (Own.St.start w).boxV 33 (actVs a)
  have C0 := (hbox.cellV 0 rfl 0 (v := .int .u8 (a.kind.toNat : Int)) rfl).1
  have C1 := (hbox.cellV 0 rfl 1 (v := .int .i64 a.seg) rfl).1
  have HB : Hid (Below w.heap.size w w1) := by rw [hw1]; exact hbox.below
  obtain ⟨r, hr⟩ : ∃ r, r = a.kind.toNat % 3 := ⟨_, rfl⟩
  have hr3 : r < 3 := by omega
  have hri : (a.kind.toNat : Int) % 3 = (r : Int) := by omega
  have hkb : a.kind.toNat < 256 := a.kind.toNat_lt
  have CO := Lib.hid (K.nilOpen w1)
  have CS := Lib.hid (K.nilSeal w1)
  have CR := Lib.hid (K.nilRel a.seg w1)
  have BX : Hid (w.alloc (.cells #[.int .u8 (a.kind.toNat : Int), .int .i64 a.seg] 33) = w1) := hw1.symm
  clear hr hbox hw1
  rcases (show r = 0 ∨ r = 1 ∨ r = 2 by omega) with h | h | h
  · have hri0 : (a.kind.toNat : Int) % 3 = 0 := by omega
    clear hri
    go_enter Try.func13, Try.ntmps13
    go_wp2_with (fail)
    rw [BX.out]
    refine CO.out.mono ?_
    rintro e w2 ⟨he, h2⟩
    have he' : e = .returned (.tuple #[.int .i64 0, .int .u64 0, .int .i64 2]) := he
    clear he
    subst he'
    have H9 := Lib.hid (HB.out.trans (h2.mono HB.out.size))
    clear h2
    go_wp2
    go_ret3
    exact ⟨rfl, H9.out⟩
  · have hri0 : (a.kind.toNat : Int) % 3 = 1 := by omega
    clear hri
    go_enter Try.func13, Try.ntmps13
    go_wp2_with (fail)
    rw [BX.out]
    refine CS.out.mono ?_
    rintro e w2 ⟨he, h2⟩
    have he' : e = .returned (.int .i64 2) := he
    clear he
    subst he'
    have H9 := Lib.hid (HB.out.trans (h2.mono HB.out.size))
    clear h2
    go_wp2
    go_ret3
    exact ⟨rfl, H9.out⟩
  · have hri0 : (a.kind.toNat : Int) % 3 = 2 := by omega
    clear hri
    go_enter Try.func13, Try.ntmps13
    go_wp2_with (fail)
    rw [BX.out]
    refine CR.out.mono ?_
    rintro e w2 ⟨he, h2⟩
    have he' : e = .returned (.int .i64 2) := he
    clear he
    subst he'
    have H9 := Lib.hid (HB.out.trans (h2.mono HB.out.size))
    clear h2
    go_wp2
    go_ret3
    exact ⟨rfl, H9.out⟩

set_option maxRecDepth 10000 in
set_option maxHeartbeats 8000000 in
theorem walk_nil (a : ActD) {w : World} (K : Kept w) : Calls Try.prog 7 #[.agg (actVs a).toArray] w (RetYes w) := by
  obtain ⟨vs, hvs⟩ : ∃ vs, vs = actVs a := ⟨_, rfl⟩
  rw [← hvs]
  have VL : Hid (vs.length = 2) := by rw [hvs]; exact rfl
  obtain ⟨b, hb⟩ : ∃ b, b = w.heap.size := ⟨_, rfl⟩
  obtain ⟨w1, hw1⟩ : ∃ w1, w1 = w.alloc (.cells vs.toArray 33) := ⟨_, rfl⟩
  have H0 : Hid (Own.St w.heap.size w w1 [AVals b 33 vs]) := by rw [hb, hw1]; exact (Own.St.start w).boxV _ _
  have CS := Lib.hid (shown_any K H0.out.below)
  have CD : Hid (∀ wx, Calls Try.prog 13 #[.pointer none, .agg vs.toArray] wx fun e w' => e = .returned (.tuple #[.int .i64 0, .int .u64 0, .int .i64 2]) ∧ Below wx.heap.size wx w') := fun wx => by rw [hvs]; exact does_nil K a wx
  have IA : Hid ((Try.prog.info? 33).map (·.size) = some vs.length) := by
    show _ = _
    rw [VL.out]
    kernel_rfl
  have HB := Lib.hid hb
  have HW1 := Lib.hid hw1
  have NC := Lib.hid K.nilCur
  have NF := Lib.hid K.nilFree
  have NS := Lib.hid K.nilSealed
  have NR := Lib.hid K.nilRows
  have NN := Lib.hid K.nilNext
  clear hvs hb hw1 K
  go_enter Try.func7, Try.ntmps7
  go_wp2_with (fail)
  rw [← HW1.out, ← HB.out]
  refine CS.out.mono ?_
  clear CS
  rintro e w2 ⟨rfl, h⟩
  have H2 := Lib.hid (H0.out.later h)
  have R2 : Hid (w2.rangeAt b 0 vs) := fun j v hv => by rw [Nat.zero_add]; exact (H2.out.cellV 0 rfl j hv).1
  clear h H0 HW1
  go_wp2_with (refine wpList_load_mid rfl 33 (.tmp 1) rfl b 0 rfl vs _ R2.out Try.underlying33 rfl IA.out ?_)
  refine (CD.out w2).mono ?_
  clear CD R2
  rintro e w3 ⟨rfl, h⟩
  have H3 := Lib.hid (H2.out.later h)
  clear h H2
  go_wp2_with (fail)
  refine (NC.out w3).mono ?_
  rintro e w4 ⟨rfl, h⟩
  have H4 := Lib.hid (H3.out.later h)
  clear h H3 NC
  go_wp2_with (fail)
  refine (NF.out w4).mono ?_
  rintro e w5 ⟨he, h⟩
  have he' : e = .returned (.int .i64 0) := he
  clear he
  subst he'
  have H5 := Lib.hid (H4.out.later h)
  clear h H4 NF
  go_wp2_with (fail)
  refine (NS.out w5).mono ?_
  rintro e w6 ⟨ao6, cap6, rfl, h⟩
  have H6 := Lib.hid (H5.out.later h)
  clear h H5 NS
  go_wp2_with (fail)
  refine (NR.out w6).mono ?_
  rintro e w7 ⟨ao7, cap7, rfl, h⟩
  have H7 := Lib.hid (H6.out.later h)
  clear h H6 NR
  go_wp2_with (fail)
  refine (NN.out w7).mono ?_
  rintro e w8 ⟨rfl, h⟩
  have H8 := Lib.hid (H7.out.later h)
  clear h H7 NN
  go_wp2
  go_ret
  exact ⟨rfl, H8.out.below⟩
end Tab
end Go.Proofs.Ytlgfddpgmpabcaa

end
section
namespace Go.Own
theorem St.erase {B : Nat} {w0 w : World} {Ps : List Asn} (H : St B w0 w Ps) (i : Nat) {P : Asn} (hi : Ps[i]? = some P) : St B w0 w (Ps.eraseIdx i) := by
  have h := (H.front i hi).drop 1
  simpa using h
end Go.Own
namespace Go.Proofs.Ytlgfddpgmpabcaa
open Go.RowKit Go.Own
namespace Tab
open Go.TabM
abbrev zeroAct : List Value := [.int .u8 0, .int .i64 0]
theorem actVs_len (a : ActD) : (actVs a).length = 2 := rfl
theorem act_one (a : ActD) : ∀ v ∈ actVs a, v.oneCell' = true := by intro v hv; simp at hv; rcases hv with rfl | rfl <;> rfl
theorem info_act : (Try.prog.info? 33).map (·.size) = some zeroAct.length := by
  have h : (Try.prog.info? 33).map (fun i => i.size) = some 2 := by kernel_rfl
  exact h

set_option maxRecDepth 10000 in
set_option maxHeartbeats 16000000 in
theorem walk_plays (num : Int) (wn : (Lit.int .i64 num).wf = true) (a0 : Option Addr) (len0 cap0 : Nat) (l : List ActD) {w : World} (w0 : inSlice 2 inAct l w.heap.size w [.slice a0 len0 cap0]) (K : Kept w) :
    Calls Try.prog 3 #[.int .i64 num, .slice a0 len0 cap0] w (RetYes w) := by
  have hn := wfI wn
  obtain ⟨hlen, hcap, hmax, _, hat⟩ := acts_inE actVs_len w0
  have SH := Lib.hid (shown_any K (Below.refl _ _))
  have HF := Lib.hid (few_any a0 len0 cap0 hcap hmax)
  have HAT := Lib.hid hat
  have HLEN := Lib.hid hlen
  have hmax2 : cap0 ≤ 9223372036854775807 := by unfold maxLen at hmax; omega
  have HNN := Lib.hid hn
  clear hat hlen w0 hmax wn hn
  go_enter Try.func3, Try.ntmps3
  go_wp2_with (fail)
  refine SH.out.mono ?_
  rintro e w1 ⟨rfl, h1⟩
  have H1 := Lib.hid ((Own.St.start w).later h1)
  clear h1 SH
  by_cases hm : mayBe num = true
  · have N1 := Lib.hid (K.new num H1.out.below H1.out HNN.out)
    simp only [hm, if_true] at N1
    go_wp2_with (fail)
    refine N1.out.mono ?_
    clear N1
    rintro e w2 ⟨p, rfl, h2⟩
    have H2 := Lib.hid h2
    clear h2 H1
    have N2 := Lib.hid (newR_any H2.out num HNN.out)
    simp only [hm, if_true] at N2
    have OK0 := Lib.hid (ok_fresh num.toNat (by have := hm; simp [mayBe] at this; omega))
    go_wp2_with (fail)
    refine N2.out.mono ?_
    clear N2
    rintro e w3 ⟨q, v, rfl, h3⟩
    obtain ⟨t0, ht0⟩ : ∃ t, t = fresh num.toNat := ⟨_, rfl⟩
    rw [← ht0] at h3 OK0
    have H3 := Lib.hid h3.swap2
    clear h3 H2 ht0 hm
    go_wp2_with (fail)
    refine (HF.out w3).mono ?_
    rintro e w4 ⟨rfl, rfl⟩
    obtain ⟨k, hk⟩ : ∃ k, k = min len0 300 := ⟨_, rfl⟩
    rw [← hk]
    have hk1 : k ≤ len0 := by omega
    have hk2 : k ≤ 300 := by omega
    clear hk
    go_wp2
    go_loopw [51] (fun v51 wr => ∃ (i : Nat) (t : T), i ≤ k ∧ v51 = .int .i64 (i : Int) ∧ Own.St w.heap.size w wr [K.A p t, ARefT q v t] ∧ Ok t i) (fun v51 _ => k - (intOf v51).toNat)
    case atStart => exact ⟨0, t0, Nat.zero_le _, rfl, H3.out, OK0.out⟩
    case round =>
      obtain ⟨i, t, hik, rfl, hH, hok⟩ := hrel
      have H := Lib.hid hH
      have OK := Lib.hid hok
      clear hH hok H3 OK0
      by_cases hi : (i : Int) < (k : Int)
      · have hi300 : i ≤ 300 := by omega
        have hil : i < l.length := by rw [← HLEN.out]; omega
        obtain ⟨b, o, rfl, hb, hact⟩ := HAT.out (by intro e; rw [e] at hil; simp at hil)
        obtain ⟨a, ha⟩ : ∃ a, a = l[i] := ⟨_, rfl⟩
        obtain ⟨hrng, hfit⟩ := hact wr (fun k hk => H.out.below.block k hk) i hil
        rw [← ha] at hrng hfit
        have HFIT := Lib.hid hfit
        obtain ⟨vs, hvs⟩ : ∃ vs, vs = actVs a := ⟨_, rfl⟩
        rw [← hvs] at hrng
        have RA := Lib.hid (round_E (P := Try.prog) (ty := 33) (z := zeroAct) H.out hrng (by rw [hvs]; rfl) info_act (by rw [hvs]; exact act_one a))
        obtain ⟨bb, hbb⟩ : ∃ bb, bb = wr.heap.size := ⟨_, rfl⟩
        obtain ⟨w5, hw5⟩ : ∃ w5, w5 = (wr.alloc (.cells zeroAct.toArray 33)).setCells wr.heap.size 0 vs.toArray.toList := ⟨_, rfl⟩
        have hst := RA.out.st
        rw [← hw5, ← hbb] at hst
        have H5 := Lib.hid hst
        have R5 : Hid (w5.rangeAt bb 0 vs) := fun j v hv => by rw [Nat.zero_add]; exact (hst.cellV 0 rfl j hv).1
        have HVS := Lib.hid hvs
        have HW5 := Lib.hid hw5
        have HBB := Lib.hid hbb
        clear hst hact hrng hfit ha hvs hw5 hbb hil
        obtain ⟨t2, ht2⟩ : ∃ x, x = (doAct t a).1 := ⟨_, rfl⟩
        obtain ⟨⟨y1, y2, y3⟩, hy⟩ : ∃ x, x = (doAct t a).2 := ⟨_, rfl⟩
        have OK2 : Hid (Ok t2 (i + 1)) := by rw [ht2]; exact ok_act OK.out a
        have D1 : Hid (Calls Try.prog 13 #[ptr p, .agg vs.toArray] w5 fun e w' => e = .returned (.tuple #[.int .i64 (y1 : Int), .int .u64 (y2 : Int), errT y3]) ∧ Own.St w.heap.size w w' [K.A p t2, AVals bb 33 vs, ARefT q v t]) := by
          have h := does_any K H5.out.below a (H5.out.front 1 rfl) OK.out (by omega) HFIT.out
          rw [← HVS.out, ← ht2, ← hy] at h
          exact h
        have D2 : Hid (∀ w6, Own.St w.heap.size w w6 [K.A p t2, AVals bb 33 vs, ARefT q v t] → Calls Try.prog 14 #[ptr q, .agg vs.toArray] w6 fun e w' => e = .returned (.tuple #[.int .i64 (y1 : Int), .int .u64 (y2 : Int), errT y3]) ∧ Own.St w.heap.size w w' [ARefT q v t2, K.A p t2, AVals bb 33 vs]) := by
          intro w6 h6
          have h := model_any a (h6.front 2 rfl) OK.out (by omega) HFIT.out
          rw [← HVS.out, ← ht2, ← hy] at h
          exact h
        clear ht2 hy H H5
        go_wp2_with (first
  | (refine wpList_load_mid rfl 33 (.tmp 53) rfl b (o + i * 2) rfl vs _ RA.out.range Try.underlying33 rfl RA.out.info ?_)
  | (refine wpList_store_mid rfl 33 (.tmp 11) (.tmp 54) rfl wr.heap.size 0 vs.toArray rfl rfl RA.out.there RA.out.info2 RA.out.one ?_; rw [← HW5.out, ← HBB.out])
  | (refine wpList_load_mid rfl 33 (.tmp 11) rfl bb 0 rfl vs _ R5.out Try.underlying33 rfl RA.out.info ?_))
        refine D1.out.mono ?_
        clear D1 RA R5 HW5 HBB
        rintro e w6 ⟨rfl, h6⟩
        have R6 : Hid (w6.rangeAt bb 0 vs) := fun j v hv => by rw [Nat.zero_add]; exact (h6.cellV 1 rfl j hv).1
        have IA : Hid ((Try.prog.info? 33).map (·.size) = some vs.length) := by show _ = _; rw [HVS.out]; exact info_act
        have D2' := Lib.hid (D2.out w6 h6)
        clear D2 h6
        go_wp2_with (refine wpList_load_mid rfl 33 (.tmp 11) rfl bb 0 rfl vs _ R6.out Try.underlying33 rfl IA.out ?_)
        refine D2'.out.mono ?_
        clear D2' R6
        rintro e w7 ⟨rfl, h7⟩
        have H7 := Lib.hid h7.swap2
        have AL := Lib.hid (alike_any K h7.below h7.swap2 OK2.out (by omega))
        clear h7
        go_wp2_with (fail)
        refine AL.out.mono ?_
        clear AL
        rintro e w8 ⟨rfl, h8⟩
        have H8 := Lib.hid ((H7.out.later h8).erase 2 rfl)
        clear h8 H7
        go_wp2
        go_roundw
        case rel => exact ⟨i + 1, t2, by omega, by go_num, H8.out, OK2.out⟩
        case measure => simp [intOf]; omega
      · go_wp2
        go_ret
        exact ⟨rfl, H.out.below⟩
  · have N1 := Lib.hid (K.new num H1.out.below H1.out HNN.out)
    have hm' : mayBe num = false := by simpa using hm
    simp only [hm', Bool.false_eq_true, if_false] at N1
    go_wp2_with (fail)
    refine N1.out.mono ?_
    clear N1
    rintro e w2 ⟨rfl, h2⟩
    have H2 := Lib.hid h2
    clear h2 H1
    have N2 := Lib.hid (newR_any H2.out num HNN.out)
    simp only [hm', Bool.false_eq_true, if_false] at N2
    go_wp2_with (fail)
    refine N2.out.mono ?_
    clear N2
    rintro e w3 ⟨rfl, h3⟩
    subst h3
    clear hm hm'
    go_wp2
    go_ret
    exact ⟨rfl, H2.out.below⟩

set_option maxRecDepth 10000 in
set_option maxHeartbeats 16000000 in
theorem walk_sums (c0 : UInt8) (a0 : Option Addr) (len0 cap0 : Nat) (l : List ActD) {w : World} (w0 : inSlice 2 inAct l w.heap.size w [.slice a0 len0 cap0]) (K : Kept w) :
    Calls Try.prog 8 #[.int .u8 (c0.toNat : Int), .slice a0 len0 cap0] w (RetYes w) := by
  obtain ⟨hlen, hcap, hmax, _, hat⟩ := acts_inE actVs_len w0
  have SH := Lib.hid (shown_any K (Below.refl _ _))
  have HF := Lib.hid (few_any a0 len0 cap0 hcap hmax)
  have HAT := Lib.hid hat
  have HLEN := Lib.hid hlen
  have hmax2 : cap0 ≤ 9223372036854775807 := by unfold maxLen at hmax; omega
  clear hat hlen w0 hmax
  go_enter Try.func8, Try.ntmps8
  go_wp2_with (fail)
  refine SH.out.mono ?_
  rintro e w1 ⟨rfl, h1⟩
  have H1 := Lib.hid ((Own.St.start w).later h1)
  clear h1 SH
  have hmb : mayBe (c0.toNat : Int) = true := by unfold mayBe; have := c0.toNat_lt; simp; omega
  have N1 := Lib.hid (K.new (c0.toNat : Int) H1.out.below H1.out ⟨by omega, by have := c0.toNat_lt; omega⟩)
  simp only [hmb, if_true, Int.toNat_natCast] at N1
  obtain ⟨nn, hnn⟩ : ∃ n, n = c0.toNat := ⟨_, rfl⟩
  have hn255 : nn ≤ 255 := by have := c0.toNat_lt; omega
  rw [← hnn] at N1 ⊢
  have OK0 := Lib.hid (ok_fresh nn (by omega))
  have LO0 := Lib.hid (load_fresh nn (by omega))
  have LE0 : Hid ((fresh nn).rows.length = nn) := by show _ = _; unfold fresh; simp
  have NX0 : Hid ((fresh nn).next = 1) := rfl
  obtain ⟨t0, ht0⟩ : ∃ t, t = fresh nn := ⟨_, rfl⟩
  rw [← ht0] at N1 OK0 LO0 LE0 NX0
  clear hmb ht0 hnn
  go_wp2_with (fail)
  refine N1.out.mono ?_
  clear N1
  rintro e w3 ⟨p, rfl, h3⟩
  have H3 := Lib.hid h3
  clear h3 H1
  go_wp2_with (fail)
  refine (HF.out w3).mono ?_
  rintro e w4 ⟨rfl, rfl⟩
  obtain ⟨k, hk⟩ : ∃ k, k = min len0 300 := ⟨_, rfl⟩
  rw [← hk]
  have hk1 : k ≤ len0 := by omega
  have hk2 : k ≤ 300 := by omega
  clear hk
  go_wp2
  go_loopw [29] (fun v29 wr => ∃ (i : Nat) (t : T), i ≤ k ∧ v29 = .int .i64 (i : Int) ∧ Own.St w.heap.size w wr [K.A p t] ∧ Ok t i ∧ LoadOk t.rows t.next ∧ t.rows.length = nn) (fun v29 _ => k - (intOf v29).toNat)
  case atStart => exact ⟨0, t0, Nat.zero_le _, rfl, H3.out, OK0.out, LO0.out, LE0.out⟩
  case round =>
    obtain ⟨i, t, hik, rfl, hH, hok, hlo, hle⟩ := hrel
    have H := Lib.hid hH
    have OK := Lib.hid hok
    have LO := Lib.hid hlo
    have LE := Lib.hid hle
    clear hH hok hlo hle H3 OK0 LO0 LE0 NX0
    by_cases hi : (i : Int) < (k : Int)
    · have hi300 : i ≤ 300 := by omega
      have hil : i < l.length := by rw [← HLEN.out]; omega
      obtain ⟨b, o, rfl, hb, hact⟩ := HAT.out (by intro e; rw [e] at hil; simp at hil)
      obtain ⟨a, ha⟩ : ∃ a, a = l[i] := ⟨_, rfl⟩
      obtain ⟨hrng, hfit⟩ := hact wr (fun k hk => H.out.below.block k hk) i hil
      rw [← ha] at hrng hfit
      have HFIT := Lib.hid hfit
      obtain ⟨vs, hvs⟩ : ∃ vs, vs = actVs a := ⟨_, rfl⟩
      rw [← hvs] at hrng
      have RA := Lib.hid (round_E (P := Try.prog) (ty := 33) (z := zeroAct) H.out hrng (by rw [hvs]; rfl) info_act (by rw [hvs]; exact act_one a))
      obtain ⟨bb, hbb⟩ : ∃ bb, bb = wr.heap.size := ⟨_, rfl⟩
      obtain ⟨w5, hw5⟩ : ∃ w5, w5 = (wr.alloc (.cells zeroAct.toArray 33)).setCells wr.heap.size 0 vs.toArray.toList := ⟨_, rfl⟩
      have hst := RA.out.st
      rw [← hw5, ← hbb] at hst
      have H5 := Lib.hid hst
      have R5 : Hid (w5.rangeAt bb 0 vs) := fun j v hv => by rw [Nat.zero_add]; exact (hst.cellV 0 rfl j hv).1
      have HVS := Lib.hid hvs
      have HW5 := Lib.hid hw5
      have HBB := Lib.hid hbb
      clear hst hact hrng hfit ha hvs hw5 hbb hil
      obtain ⟨t2, ht2⟩ : ∃ x, x = (doAct t a).1 := ⟨_, rfl⟩
      obtain ⟨⟨y1, y2, y3⟩, hy⟩ : ∃ x, x = (doAct t a).2 := ⟨_, rfl⟩
      have OK2 : Hid (Ok t2 (i + 1)) := by rw [ht2]; exact ok_act OK.out a
      have LO2 : Hid (LoadOk t2.rows t2.next) := by rw [ht2]; exact load_act LO.out a
      have LE2 : Hid (t2.rows.length = nn) := by show _ = _; rw [ht2, len_act]; exact LE.out
      have D1 : Hid (Calls Try.prog 13 #[ptr p, .agg vs.toArray] w5 fun e w' => e = .returned (.tuple #[.int .i64 (y1 : Int), .int .u64 (y2 : Int), errT y3]) ∧ Own.St w.heap.size w w' [K.A p t2, AVals bb 33 vs]) := by
        have h := does_any K H5.out.below a (H5.out.front 1 rfl) OK.out (by omega) HFIT.out
        rw [← HVS.out, ← ht2, ← hy] at h
        exact h
      clear ht2 hy H H5
      go_wp2_with (first
  | (refine wpList_load_mid rfl 33 (.tmp 31) rfl b (o + i * 2) rfl vs _ RA.out.range Try.underlying33 rfl RA.out.info ?_)
  | (refine wpList_store_mid rfl 33 (.tmp 9) (.tmp 32) rfl wr.heap.size 0 vs.toArray rfl rfl RA.out.there RA.out.info2 RA.out.one ?_; rw [← HW5.out, ← HBB.out])
  | (refine wpList_load_mid rfl 33 (.tmp 9) rfl bb 0 rfl vs _ R5.out Try.underlying33 rfl RA.out.info ?_))
      refine D1.out.mono ?_
      clear D1 RA R5 HW5 HBB
      rintro e w6 ⟨rfl, h6⟩
      have H6 := Lib.hid h6.drop2
      clear h6
      obtain ⟨ci, hci⟩ : ∃ x : Nat, x = (cur t2).getD 0 := ⟨_, rfl⟩
      obtain ⟨cb, hcb⟩ : ∃ x, x = (cur t2).isSome := ⟨_, rfl⟩
      have CC : Hid (Calls Try.prog 23 #[ptr p] w6 fun e w' => e = .returned (.tuple #[iV ci, .bool cb]) ∧ Below w6.heap.size w6 w') := by
        have h := K.cur H6.out.below H6.out OK2.out (by omega)
        unfold curV at h
        rw [← hci, ← hcb] at h
        exact h
      obtain ⟨F, hF⟩ : ∃ x, x = freeN t2 := ⟨_, rfl⟩
      obtain ⟨S, hS⟩ : ∃ x, x = (sealedL t2).length := ⟨_, rfl⟩
      have hsum : F + S + (if cb = true then 1 else 0) = nn := by rw [hF, hS, hcb, ← LE2.out]; exact sums LO2.out
      have CF : Hid (∀ wx, Own.St w.heap.size w wx [K.A p t2] → Calls Try.prog 24 #[ptr p] wx fun e w' => e = .returned (.int .i64 (F : Int)) ∧ Below wx.heap.size wx w') := fun wx h => by rw [hF]; exact K.free h.below h OK2.out (by omega)
      have CS : Hid (∀ wx, Own.St w.heap.size w wx [K.A p t2] → Calls Try.prog 25 #[ptr p] wx fun e w' => ∃ ao c, e = .returned (.slice ao S c) ∧ Below wx.heap.size wx w') := fun wx h => by
        rw [hS]
        refine (K.sealed h.below h OK2.out (by omega)).mono ?_
        rintro e w' ⟨v, rfl, ⟨ao, c, rfl, _⟩, hb⟩
        exact ⟨ao, c, rfl, hb⟩
      have CR : Hid (∀ wx, Own.St w.heap.size w wx [K.A p t2] → Calls Try.prog 16 #[ptr p] wx fun e w' => ∃ ao c, e = .returned (.slice ao nn c) ∧ Below wx.heap.size wx w') := fun wx h => by
        have h := K.rows h.below h OK2.out (by omega)
        rw [LE2.out] at h
        refine h.mono ?_
        rintro e w' ⟨ao, c, rfl, _, hb⟩
        exact ⟨ao, c, rfl, hb⟩
      clear hci hcb hF hS
      go_wp2_with (fail)
      refine CC.out.mono ?_
      clear CC
      rintro e w7 ⟨rfl, h7⟩
      have H7 := Lib.hid (H6.out.later h7)
      clear h7 H6
      cases cb
      all_goals
        simp only [Bool.false_eq_true, if_false, if_true, Nat.add_zero] at hsum
        go_wp2_with (fail)
        refine (CF.out w7 H7.out).mono ?_
        clear CF
        rintro e w8 ⟨rfl, h8⟩
        have H8 := Lib.hid (H7.out.later h8)
        clear h8 H7
        go_wp2_with (fail)
        refine (CS.out w8 H8.out).mono ?_
        clear CS
        rintro e w9 ⟨a9, k9, rfl, h9⟩
        have H9 := Lib.hid (H8.out.later h9)
        clear h9 H8
        have hF256 : F ≤ 256 := by omega
        have hS256 : S ≤ 256 := by omega
        first
        | (have hsn : ((F : Int) + (S : Int) != (nn : Int)) = false := by rw [bne_eq_false_iff_eq]; omega)
        | (have hsn : ((F : Int) + (S : Int) + 1 != (nn : Int)) = false := by rw [bne_eq_false_iff_eq]; omega)
        clear hsum
        go_wp2_with (fail)
        refine (CR.out w9 H9.out).mono ?_
        clear CR
        rintro e w10 ⟨a10, k10, rfl, h10⟩
        have H10 := Lib.hid (H9.out.later h10)
        clear h10 H9
        go_wp2
        go_roundw
        case rel => exact ⟨i + 1, t2, by omega, by go_num, H10.out, OK2.out, LO2.out, LE2.out⟩
        case measure => simp [intOf]; omega
    · go_wp2
      go_ret
      exact ⟨rfl, H.out.below⟩

set_option maxRecDepth 10000 in
set_option maxHeartbeats 16000000 in
theorem walk_rises (c0 : UInt8) (a0 : Option Addr) (len0 cap0 : Nat) (l : List ActD) {w : World} (w0 : inSlice 2 inAct l w.heap.size w [.slice a0 len0 cap0]) (K : Kept w) :
    Calls Try.prog 4 #[.int .u8 (c0.toNat : Int), .slice a0 len0 cap0] w (RetYes w) := by
  obtain ⟨hlen, hcap, hmax, _, hat⟩ := acts_inE actVs_len w0
  have SH := Lib.hid (shown_any K (Below.refl _ _))
  have HF := Lib.hid (few_any a0 len0 cap0 hcap hmax)
  have HAT := Lib.hid hat
  have HLEN := Lib.hid hlen
  have hmax2 : cap0 ≤ 9223372036854775807 := by unfold maxLen at hmax; omega
  clear hat hlen w0 hmax
  go_enter Try.func4, Try.ntmps4
  go_wp2_with (fail)
  refine SH.out.mono ?_
  rintro e w1 ⟨rfl, h1⟩
  have H1 := Lib.hid ((Own.St.start w).later h1)
  clear h1 SH
  have hmb : mayBe (c0.toNat : Int) = true := by unfold mayBe; have := c0.toNat_lt; simp; omega
  have N1 := Lib.hid (K.new (c0.toNat : Int) H1.out.below H1.out ⟨by omega, by have := c0.toNat_lt; omega⟩)
  simp only [hmb, if_true, Int.toNat_natCast] at N1
  obtain ⟨nn, hnn⟩ : ∃ n, n = c0.toNat := ⟨_, rfl⟩
  have hn255 : nn ≤ 255 := by have := c0.toNat_lt; omega
  rw [← hnn] at N1 ⊢
  have OK0 := Lib.hid (ok_fresh nn (by omega))
  have LO0 := Lib.hid (load_fresh nn (by omega))
  have LE0 : Hid ((fresh nn).rows.length = nn) := by show _ = _; unfold fresh; simp
  have NX0 : Hid ((fresh nn).next = 1) := rfl
  obtain ⟨t0, ht0⟩ : ∃ t, t = fresh nn := ⟨_, rfl⟩
  rw [← ht0] at N1 OK0 LO0 LE0 NX0
  clear hmb ht0 hnn
  go_wp2_with (fail)
  refine N1.out.mono ?_
  clear N1
  rintro e w3 ⟨p, rfl, h3⟩
  have H3 := Lib.hid h3
  clear h3 H1
  go_wp2_with (fail)
  refine (HF.out w3).mono ?_
  rintro e w4 ⟨rfl, rfl⟩
  obtain ⟨k, hk⟩ : ∃ k, k = min len0 300 := ⟨_, rfl⟩
  rw [← hk]
  have hk1 : k ≤ len0 := by omega
  have hk2 : k ≤ 300 := by omega
  clear hk
  go_wp2
  go_loopw [8, 32] (fun v8 v32 wr => ∃ (i last : Nat) (t : T), i ≤ k ∧ v8 = .int .u64 (last : Int) ∧ v32 = .int .i64 (i : Int) ∧ Own.St w.heap.size w wr [K.A p t] ∧ Ok t i ∧ t.next = last + 1) (fun _ v32 _ => k - (intOf v32).toNat)
  case atStart => exact ⟨0, 0, t0, Nat.zero_le _, rfl, rfl, H3.out, OK0.out, NX0.out⟩
  case round =>
    obtain ⟨i, last, t, hik, rfl, rfl, hH, hok, hnx⟩ := hrel
    have H := Lib.hid hH
    have OK := Lib.hid hok
    have NX := Lib.hid hnx
    have hlast : last ≤ i := by have := hok.next; omega
    clear hH hok hnx H3 OK0 LO0 LE0 NX0
    by_cases hi : (i : Int) < (k : Int)
    · have hi300 : i ≤ 300 := by omega
      have hil : i < l.length := by rw [← HLEN.out]; omega
      obtain ⟨b, o, rfl, hb, hact⟩ := HAT.out (by intro e; rw [e] at hil; simp at hil)
      obtain ⟨a, ha⟩ : ∃ a, a = l[i] := ⟨_, rfl⟩
      obtain ⟨hrng, hfit⟩ := hact wr (fun k hk => H.out.below.block k hk) i hil
      rw [← ha] at hrng hfit
      have HFIT := Lib.hid hfit
      obtain ⟨vs, hvs⟩ : ∃ vs, vs = actVs a := ⟨_, rfl⟩
      rw [← hvs] at hrng
      have RA := Lib.hid (round_E (P := Try.prog) (ty := 33) (z := zeroAct) H.out hrng (by rw [hvs]; rfl) info_act (by rw [hvs]; exact act_one a))
      obtain ⟨bb, hbb⟩ : ∃ bb, bb = wr.heap.size := ⟨_, rfl⟩
      obtain ⟨w5, hw5⟩ : ∃ w5, w5 = (wr.alloc (.cells zeroAct.toArray 33)).setCells wr.heap.size 0 vs.toArray.toList := ⟨_, rfl⟩
      have hst := RA.out.st
      rw [← hw5, ← hbb] at hst
      have H5 := Lib.hid hst
      have R5 : Hid (w5.rangeAt bb 0 vs) := fun j v hv => by rw [Nat.zero_add]; exact (hst.cellV 0 rfl j hv).1
      have HVS := Lib.hid hvs
      have HW5 := Lib.hid hw5
      have HBB := Lib.hid hbb
      clear hst hact hrng hfit ha hvs hw5 hbb hil
      obtain ⟨R, hR⟩ : ∃ x, x = t.rows.length := ⟨_, rfl⟩
      have hR256 : R ≤ 256 := by rw [hR]; exact OK.out.len
      have CR : Hid (Calls Try.prog 16 #[ptr p] w5 fun e w' => ∃ ao c, e = .returned (.slice ao R c) ∧ Own.St w.heap.size w w' [ARow 44 3 (.slice ao R c) R (t.rows.flatMap sgC), K.A p t, AVals bb 33 vs]) := by
        rw [hR]
        refine (K.rows H5.out.below (H5.out.front 1 rfl) OK.out (by omega)).mono ?_
        rintro e w' ⟨ao, c, rfl, h, _⟩
        exact ⟨ao, c, rfl, h⟩
      have HR := Lib.hid hR
      clear hR H H5
      go_wp2_with (first
  | (refine wpList_load_mid rfl 33 (.tmp 34) rfl b (o + i * 2) rfl vs _ RA.out.range Try.underlying33 rfl RA.out.info ?_)
  | (refine wpList_store_mid rfl 33 (.tmp 10) (.tmp 35) rfl wr.heap.size 0 vs.toArray rfl rfl RA.out.there RA.out.info2 RA.out.one ?_; rw [← HW5.out, ← HBB.out])
  | (refine wpList_load_mid rfl 33 (.tmp 10) rfl bb 0 rfl vs _ R5.out Try.underlying33 rfl RA.out.info ?_))
      refine CR.out.mono ?_
      clear CR RA R5 HW5 HBB
      rintro e w6 ⟨a6, k6, rfl, h6⟩
      have H6 := Lib.hid h6
      clear h6
      have R6 : Hid (w6.rangeAt bb 0 vs) := fun j v hv => by rw [Nat.zero_add]; exact (H6.out.cellV 2 rfl j hv).1
      have IA : Hid ((Try.prog.info? 33).map (·.size) = some vs.length) := by show _ = _; rw [HVS.out]; exact info_act
      obtain ⟨t2, ht2⟩ : ∃ x, x = (doAct t a).1 := ⟨_, rfl⟩
      obtain ⟨⟨y1, y2, y3⟩, hy⟩ : ∃ x, x = (doAct t a).2 := ⟨_, rfl⟩
      have OK2 : Hid (Ok t2 (i + 1)) := by rw [ht2]; exact ok_act OK.out a
      have D1 : Hid (Calls Try.prog 13 #[ptr p, .agg vs.toArray] w6 fun e w' => e = .returned (.tuple #[.int .i64 (y1 : Int), .int .u64 (y2 : Int), errT y3]) ∧ Own.St w.heap.size w w' [K.A p t2, ARow 44 3 (.slice a6 R k6) R (t.rows.flatMap sgC), AVals bb 33 vs]) := by
        have h := does_any K H6.out.below a (H6.out.front 1 rfl) OK.out (by omega) HFIT.out
        rw [← HVS.out, ← ht2, ← hy] at h
        exact h
      have NXA := next_act t a
      rw [← ht2, ← hy] at NXA
      simp only at NXA
      obtain ⟨r, hr⟩ : ∃ r, r = a.kind.toNat % 3 := ⟨_, rfl⟩
      have hri : (a.kind.toNat : Int) % 3 = (r : Int) := by omega
      have hkb : a.kind.toNat < 256 := a.kind.toNat_lt
      have KV : Hid (vs[0]? = some (.int .u8 (a.kind.toNat : Int))) := by show _ = _; rw [HVS.out]; rfl
      rw [← hr] at NXA
      have HT2 := Lib.hid ht2
      have HY := Lib.hid hy
      have HRR := Lib.hid hr
      have hr3 : r < 3 := by omega
      clear ht2 hy hr H6
      go_wp2_with (refine wpList_load_mid rfl 33 (.tmp 10) rfl bb 0 rfl vs _ R6.out Try.underlying33 rfl IA.out ?_)
      refine D1.out.mono ?_
      clear D1 R6
      rintro e w7 ⟨rfl, h7⟩
      have H7 := Lib.hid h7
      clear h7
      have q0 := (H7.out.cellV 2 rfl 0 KV.out).1
      have NXT : Hid (∀ wx Ps, Own.St w.heap.size w wx (K.A p t2 :: Ps) → ∀ m, t2.next = m → Calls Try.prog 17 #[ptr p] wx fun e w' => e = .returned (.int .u64 (m : Int)) ∧ Below wx.heap.size wx w') := fun wx Ps h m hm => by rw [← hm]; exact K.next h.below h OK2.out (by omega)
      by_cases hop : r = 0 ∧ y3 = 0
      · obtain ⟨hr0, rfl⟩ := hop
        subst hr0
        rw [if_pos ⟨rfl, rfl⟩] at NXA
        obtain ⟨i0, we, e1, e2, e3, e4, e5⟩ := open_ok (t := t) (a := a) HRR.out.symm (by rw [← HY.out])
        rw [← HY.out] at e1
        simp only [Prod.mk.injEq, and_true] at e1
        obtain ⟨rfl, rfl⟩ := e1
        rw [← HT2.out] at e2
        have hy1R : y1 < R := by rw [HR.out]; exact e3
        have hlen2 : t2.rows.length = R := by rw [e2, HR.out]; simp [opened]
        have CR2 : Hid (Calls Try.prog 16 #[ptr p] w7 fun e w' => ∃ ao c, e = .returned (.slice ao R c) ∧ Own.St w.heap.size w w' [ARow 44 3 (.slice ao R c) R (t2.rows.flatMap sgC), K.A p t2, ARow 44 3 (.slice a6 R k6) R (t.rows.flatMap sgC), AVals bb 33 vs]) := by
          have h := K.rows H7.out.below H7.out OK2.out (by omega)
          rw [hlen2] at h
          refine h.mono ?_
          rintro e w' ⟨ao, c, rfl, h, _⟩
          exact ⟨ao, c, rfl, h⟩
        have E4 := Lib.hid e4
        have E5 : Hid ((at_ t2.rows y1).kind = 1) := by show _ = _; rw [e2]; exact e5
        have E3 := Lib.hid e3
        have HL2 := Lib.hid hlen2
        have NXB : Hid (t2.next = last + 1 + 1) := by show _ = _; rw [NXA, NX.out]
        have hri0 : (a.kind.toNat : Int) % 3 = 0 := hri
        have hnxl := NX.out
        obtain ⟨nx, hnx⟩ : ∃ x, x = t.next := ⟨_, rfl⟩
        rw [← hnx] at hnxl
        subst hnxl
        rw [← hnx]
        clear NXA e2 e3 e4 e5 hlen2 hri HT2 HY HRR hnx
        go_wp2_with (fail)
        refine CR2.out.mono ?_
        clear CR2 H7 q0
        rintro e w8 ⟨a8, k8, rfl, h8⟩
        have h8' : Own.St w.heap.size w w8 [RowG (.slice a8 R k8) t2.rows, K.A p t2, RowG (.slice a6 R k6) t.rows, AVals bb 33 vs] := by
          have e1 : RowG (.slice a8 R k8) t2.rows = ARow 44 3 (.slice a8 R k8) R (t2.rows.flatMap sgC) := by show ARow _ 3 _ t2.rows.length _ = _; rw [HL2.out]
          have e2 : RowG (.slice a6 R k6) t.rows = ARow 44 3 (.slice a6 R k6) R (t.rows.flatMap sgC) := by show ARow _ 3 _ t.rows.length _ = _; rw [← HR.out]
          rw [e1, e2]
          exact h8
        obtain ⟨g8, c8, eq8, ha8⟩ := rowG_at h8' 0 rfl y1 (by rw [HL2.out]; exact hy1R)
        obtain ⟨g6, c6, eq6, ha6⟩ := rowG_at h8' 2 rfl y1 E3.out
        simp only [Value.slice.injEq] at eq8 eq6
        obtain ⟨rfl, hx8, rfl⟩ := eq8
        obtain ⟨rfl, hx6, rfl⟩ := eq6
        have b8 := ha8.c0
        have b6 := ha6.c0
        rw [E5.out] at b8
        rw [E4.out] at b6
        have H8 := Lib.hid (h8'.erase 0 rfl)
        clear h8 h8' ha8 ha6 hx8 hx6
        have d1 : decide ((y1 : Int) < 0) = false := decide_eq_false (by omega)
        have d2 : decide ((R : Int) ≤ (y1 : Int)) = false := decide_eq_false (by omega)
        have d3 : decide (R ≤ y1) = false := decide_eq_false (by omega)
        go_wp2_with (fail)
        refine (NXT.out w8 _ H8.out _ NXB.out).mono ?_
        clear NXT b8 b6
        rintro e w9 ⟨rfl, h9⟩
        have H9 := Lib.hid ((H8.out.later h9).erase 2 rfl |>.erase 1 rfl)
        clear h9 H8
        go_wp2
        go_roundw
        case rel => exact ⟨i + 1, last + 1, t2, by omega, by go_num, by go_num, H9.out, OK2.out, NXB.out⟩
        case measure => simp [intOf]; omega
      · have NXB : Hid (t2.next = last + 1) := by show _ = _; rw [NXA, if_neg hop, NX.out]
        clear NXA HRR HT2 HY
        by_cases hr0 : r = 0
        · subst hr0
          have hri0 : (a.kind.toNat : Int) % 3 = 0 := hri
          have hy3 : ((y3 : Int) == 0) = false := by rw [beq_eq_false_iff_ne]; omega
          clear hop hri
          go_wp2_with (fail)
          refine (NXT.out w7 _ H7.out _ NXB.out).mono ?_
          clear NXT q0
          rintro e w9 ⟨rfl, h9⟩
          have H9 := Lib.hid ((H7.out.later h9).erase 2 rfl |>.erase 1 rfl)
          clear h9 H7
          go_wp2
          go_roundw
          case rel => exact ⟨i + 1, last, t2, by omega, rfl, by go_num, H9.out, OK2.out, NXB.out⟩
          case measure => simp [intOf]; omega
        · have hr1 : ((r : Int) == 0) = false := by rw [beq_eq_false_iff_ne]; omega
          clear hop hr0
          go_wp2_with (fail)
          refine (NXT.out w7 _ H7.out _ NXB.out).mono ?_
          clear NXT q0 hri
          rintro e w9 ⟨rfl, h9⟩
          have H9 := Lib.hid ((H7.out.later h9).erase 2 rfl |>.erase 1 rfl)
          clear h9 H7
          go_wp2
          go_roundw
          case rel => exact ⟨i + 1, last, t2, by omega, rfl, by go_num, H9.out, OK2.out, NXB.out⟩
          case measure => simp [intOf]; omega
    · go_wp2
      go_ret
      exact ⟨rfl, H.out.below⟩
end Tab
end Go.Proofs.Ytlgfddpgmpabcaa

end
section
namespace Go.Proofs.Ytlgfddpgmpabcaa
open Go.RowKit Go.Own
namespace Tab
open Go.TabM
set_option maxRecDepth 10000 in
set_option maxHeartbeats 16000000 in
theorem walk_back (c0 : UInt8) (a0 : Option Addr) (len0 cap0 : Nat) (l : List ActD) (a1 : Option Addr) (len1 cap1 : Nat) (l' : List ActD) {w : World} (w0 : inSlice 2 inAct l w.heap.size w [.slice a0 len0 cap0]) (w1 : inSlice 2 inAct l' w.heap.size w [.slice a1 len1 cap1]) (K : Kept w) :
    Calls Try.prog 6 #[.int .u8 (c0.toNat : Int), .slice a0 len0 cap0, .slice a1 len1 cap1] w (RetYes w) := by
  obtain ⟨hlen, hcap, hmax, _, hat⟩ := acts_inE actVs_len w0
  have SH := Lib.hid (shown_any K (Below.refl _ _))
  have HF := Lib.hid (few_any a0 len0 cap0 hcap hmax)
  have HAT := Lib.hid hat
  have HLEN := Lib.hid hlen
  have hmax2 : cap0 ≤ 9223372036854775807 := by unfold maxLen at hmax; omega
  obtain ⟨hlen', hcap', hmax', _, hat'⟩ := acts_inE actVs_len w1
  have HF' := Lib.hid (few_any a1 len1 cap1 hcap' hmax')
  have HAT' := Lib.hid hat'
  have HLEN' := Lib.hid hlen'
  have hmax3 : cap1 ≤ 9223372036854775807 := by unfold maxLen at hmax'; omega
  clear hat hlen w0 hmax hat' hlen' w1 hmax'
  go_enter Try.func6, Try.ntmps6
  go_wp2_with (fail)
  refine SH.out.mono ?_
  rintro e w1 ⟨rfl, h1⟩
  have H1 := Lib.hid ((Own.St.start w).later h1)
  clear h1 SH
  have hmb : mayBe (c0.toNat : Int) = true := by unfold mayBe; have := c0.toNat_lt; simp; omega
  have N1 := Lib.hid (K.new (c0.toNat : Int) H1.out.below H1.out ⟨by omega, by have := c0.toNat_lt; omega⟩)
  simp only [hmb, if_true, Int.toNat_natCast] at N1
  obtain ⟨nn, hnn⟩ : ∃ n, n = c0.toNat := ⟨_, rfl⟩
  have hn255 : nn ≤ 255 := by have := c0.toNat_lt; omega
  rw [← hnn] at N1 ⊢
  have OK0 := Lib.hid (ok_fresh nn (by omega))
  have LO0 := Lib.hid (load_fresh nn (by omega))
  have LE0 : Hid ((fresh nn).rows.length = nn) := by show _ = _; unfold fresh; simp
  have NX0 : Hid ((fresh nn).next = 1) := rfl
  obtain ⟨t0, ht0⟩ : ∃ t, t = fresh nn := ⟨_, rfl⟩
  rw [← ht0] at N1 OK0 LO0 LE0 NX0
  clear hmb ht0 hnn
  go_wp2_with (fail)
  refine N1.out.mono ?_
  clear N1
  rintro e w3 ⟨p, rfl, h3⟩
  have H3 := Lib.hid h3
  clear h3 H1
  go_wp2_with (fail)
  refine (HF.out w3).mono ?_
  rintro e w4 ⟨rfl, rfl⟩
  obtain ⟨k, hk⟩ : ∃ k, k = min len0 300 := ⟨_, rfl⟩
  rw [← hk]
  have hk1 : k ≤ len0 := by omega
  have hk2 : k ≤ 300 := by omega
  clear hk
  go_wp2
  go_loopw [38] (fun v38 wr => ∃ (i : Nat) (t : T), i ≤ k ∧ v38 = .int .i64 (i : Int) ∧ Own.St w.heap.size w wr [K.A p t] ∧ Ok t i ∧ LoadOk t.rows t.next) (fun v38 _ => k - (intOf v38).toNat)
  case atStart => exact ⟨0, t0, Nat.zero_le _, rfl, H3.out, OK0.out, LO0.out⟩
  case round =>
    obtain ⟨i, t, hik, rfl, hH, hok, hlo⟩ := hrel
    have H := Lib.hid hH
    have OK := Lib.hid hok
    have LO := Lib.hid hlo
    clear hH hok hlo H3 OK0 LO0 LE0 NX0
    by_cases hi : (i : Int) < (k : Int)
    · have hi300 : i ≤ 300 := by omega
      have hil : i < l.length := by rw [← HLEN.out]; omega
      obtain ⟨b, o, rfl, hb, hact⟩ := HAT.out (by intro e; rw [e] at hil; simp at hil)
      obtain ⟨a, ha⟩ : ∃ a, a = l[i] := ⟨_, rfl⟩
      obtain ⟨hrng, hfit⟩ := hact wr (fun k hk => H.out.below.block k hk) i hil
      rw [← ha] at hrng hfit
      have HFIT := Lib.hid hfit
      obtain ⟨vs, hvs⟩ : ∃ vs, vs = actVs a := ⟨_, rfl⟩
      rw [← hvs] at hrng
      have RA := Lib.hid (round_E (P := Try.prog) (ty := 33) (z := zeroAct) H.out hrng (by rw [hvs]; rfl) info_act (by rw [hvs]; exact act_one a))
      obtain ⟨bb, hbb⟩ : ∃ bb, bb = wr.heap.size := ⟨_, rfl⟩
      obtain ⟨w5, hw5⟩ : ∃ w5, w5 = (wr.alloc (.cells zeroAct.toArray 33)).setCells wr.heap.size 0 vs.toArray.toList := ⟨_, rfl⟩
      have hst := RA.out.st
      rw [← hw5, ← hbb] at hst
      have H5 := Lib.hid hst
      have R5 : Hid (w5.rangeAt bb 0 vs) := fun j v hv => by rw [Nat.zero_add]; exact (hst.cellV 0 rfl j hv).1
      have HVS := Lib.hid hvs
      have HW5 := Lib.hid hw5
      have HBB := Lib.hid hbb
      clear hst hact hrng hfit ha hvs hw5 hbb hil
      obtain ⟨t2, ht2⟩ : ∃ x, x = (doAct t a).1 := ⟨_, rfl⟩
      obtain ⟨⟨y1, y2, y3⟩, hy⟩ : ∃ x, x = (doAct t a).2 := ⟨_, rfl⟩
      have OK2 : Hid (Ok t2 (i + 1)) := by rw [ht2]; exact ok_act OK.out a
      have LO2 : Hid (LoadOk t2.rows t2.next) := by rw [ht2]; exact load_act LO.out a
      have D1 : Hid (Calls Try.prog 13 #[ptr p, .agg vs.toArray] w5 fun e w' => e = .returned (.tuple #[.int .i64 (y1 : Int), .int .u64 (y2 : Int), errT y3]) ∧ Own.St w.heap.size w w' [K.A p t2, AVals bb 33 vs]) := by
        have h := does_any K H5.out.below a (H5.out.front 1 rfl) OK.out (by omega) HFIT.out
        rw [← HVS.out, ← ht2, ← hy] at h
        exact h
      clear ht2 hy H H5
      go_wp2_with (first
  | (refine wpList_load_mid rfl 33 (.tmp 40) rfl b (o + i * 2) rfl vs _ RA.out.range Try.underlying33 rfl RA.out.info ?_)
  | (refine wpList_store_mid rfl 33 (.tmp 11) (.tmp 41) rfl wr.heap.size 0 vs.toArray rfl rfl RA.out.there RA.out.info2 RA.out.one ?_; rw [← HW5.out, ← HBB.out])
  | (refine wpList_load_mid rfl 33 (.tmp 11) rfl bb 0 rfl vs _ R5.out Try.underlying33 rfl RA.out.info ?_))
      refine D1.out.mono ?_
      clear D1 RA R5 HW5 HBB
      rintro e w6 ⟨rfl, h6⟩
      have H6 := Lib.hid h6.drop2
      clear h6
      go_wp2
      go_roundw
      case rel => exact ⟨i + 1, t2, by omega, by go_num, H6.out, OK2.out, LO2.out⟩
      case measure => simp [intOf]; omega
    · have hi300 : i ≤ 300 := by omega
      obtain ⟨R, hR⟩ : ∃ x, x = t.rows.length := ⟨_, rfl⟩
      obtain ⟨nx, hnx⟩ : ∃ x, x = t.next := ⟨_, rfl⟩
      have CR : Hid (Calls Try.prog 16 #[ptr p] wr fun e w' => ∃ ao c, e = .returned (.slice ao R c) ∧ Own.St w.heap.size w w' [ARow 44 3 (.slice ao R c) R (t.rows.flatMap sgC), K.A p t]) := by
        rw [hR]
        refine (K.rows H.out.below H.out OK.out (by omega)).mono ?_
        rintro e w' ⟨ao, c, rfl, h, _⟩
        exact ⟨ao, c, rfl, h⟩
      have CN : Hid (∀ wx Ps, Own.St w.heap.size w wx (K.A p t :: Ps) → Calls Try.prog 17 #[ptr p] wx fun e w' => e = .returned (.int .u64 (nx : Int)) ∧ Below wx.heap.size wx w') := fun wx Ps h => by rw [hnx]; exact K.next h.below h OK.out (by omega)
      have CL : Hid (∀ wx ao c, Own.St w.heap.size w wx [ARow 44 3 (.slice ao R c) R (t.rows.flatMap sgC), K.A p t] → Calls Try.prog 21 #[.slice ao R c, .int .u64 (nx : Int)] wx fun e w' => ∃ q, e = .returned (.tuple #[ptr q, errT 0]) ∧ Own.St w.heap.size w w' [K.A q t, K.A p t]) := fun wx ao c h => by
        rw [hnx]
        exact K.load t.rows t.next i ao R c h.below h hR.symm LO.out OK.out (by omega)
      clear hR hnx
      go_wp2_with (fail)
      refine CR.out.mono ?_
      clear CR
      rintro e w5 ⟨a5, k5, rfl, h5⟩
      have H5 := Lib.hid h5
      clear h5
      go_wp2_with (fail)
      refine (CN.out w5 _ (H5.out.front 1 rfl)).mono ?_
      clear CN
      rintro e w6 ⟨rfl, h6⟩
      have H6 := Lib.hid (H5.out.later h6)
      clear h6 H5
      go_wp2_with (fail)
      refine (CL.out w6 a5 k5 H6.out).mono ?_
      clear CL H6
      rintro e w7 ⟨q, rfl, h7⟩
      have H7 := Lib.hid h7
      clear h7 H
      go_wp2_with (fail)
      refine (HF'.out w7).mono ?_
      rintro e w8 ⟨rfl, rfl⟩
      obtain ⟨k', hk'⟩ : ∃ k, k = min len1 300 := ⟨_, rfl⟩
      rw [← hk']
      have hk1' : k' ≤ len1 := by omega
      have hk2' : k' ≤ 300 := by omega
      clear hk'
      go_wp2
      go_loopw [63] (fun v63 wr => ∃ (i : Nat) (t : T), i ≤ k' ∧ v63 = .int .i64 (i : Int) ∧ Own.St w.heap.size w wr [K.A q t, K.A p t] ∧ Ok t (300 + i)) (fun v63 _ => k' - (intOf v63).toNat)
      case atStart => exact ⟨0, t, Nat.zero_le _, rfl, H7.out, OK.out.more (by omega)⟩
      case round =>
        clear H7 OK LO hik hi300
        obtain ⟨i, t, hik, rfl, hH, hok⟩ := hrel
        have H := Lib.hid hH
        have OK := Lib.hid hok
        clear hH hok
        by_cases hi : (i : Int) < (k' : Int)
        · have hi300 : i ≤ 300 := by omega
          have hil : i < l'.length := by rw [← HLEN'.out]; omega
          obtain ⟨b, o, rfl, hb, hact⟩ := HAT'.out (by intro e; rw [e] at hil; simp at hil)
          obtain ⟨a, ha⟩ : ∃ a, a = l'[i] := ⟨_, rfl⟩
          obtain ⟨hrng, hfit⟩ := hact wr (fun k hk => H.out.below.block k hk) i hil
          rw [← ha] at hrng hfit
          have HFIT := Lib.hid hfit
          obtain ⟨vs, hvs⟩ : ∃ vs, vs = actVs a := ⟨_, rfl⟩
          rw [← hvs] at hrng
          have RA := Lib.hid (round_E (P := Try.prog) (ty := 33) (z := zeroAct) H.out hrng (by rw [hvs]; rfl) info_act (by rw [hvs]; exact act_one a))
          obtain ⟨bb, hbb⟩ : ∃ bb, bb = wr.heap.size := ⟨_, rfl⟩
          obtain ⟨w5, hw5⟩ : ∃ w5, w5 = (wr.alloc (.cells zeroAct.toArray 33)).setCells wr.heap.size 0 vs.toArray.toList := ⟨_, rfl⟩
          have hst := RA.out.st
          rw [← hw5, ← hbb] at hst
          have H5 := Lib.hid hst
          have R5 : Hid (w5.rangeAt bb 0 vs) := fun j v hv => by rw [Nat.zero_add]; exact (hst.cellV 0 rfl j hv).1
          have HVS := Lib.hid hvs
          have HW5 := Lib.hid hw5
          have HBB := Lib.hid hbb
          clear hst hact hrng hfit ha hvs hw5 hbb hil
          obtain ⟨t2, ht2⟩ : ∃ x, x = (doAct t a).1 := ⟨_, rfl⟩
          obtain ⟨⟨y1, y2, y3⟩, hy⟩ : ∃ x, x = (doAct t a).2 := ⟨_, rfl⟩
          have OK2 : Hid (Ok t2 (300 + (i + 1))) := by rw [ht2]; exact ok_act OK.out a
          have D1 : Hid (Calls Try.prog 13 #[ptr p, .agg vs.toArray] w5 fun e w' => e = .returned (.tuple #[.int .i64 (y1 : Int), .int .u64 (y2 : Int), errT y3]) ∧ Own.St w.heap.size w w' [K.A p t2, AVals bb 33 vs, K.A q t]) := by
            have h := does_any K H5.out.below a (H5.out.front 2 rfl) OK.out (by omega) HFIT.out
            rw [← HVS.out, ← ht2, ← hy] at h
            exact h
          have D2 : Hid (∀ w6, Own.St w.heap.size w w6 [K.A p t2, AVals bb 33 vs, K.A q t] → Calls Try.prog 13 #[ptr q, .agg vs.toArray] w6 fun e w' => e = .returned (.tuple #[.int .i64 (y1 : Int), .int .u64 (y2 : Int), errT y3]) ∧ Own.St w.heap.size w w' [K.A q t2, K.A p t2, AVals bb 33 vs]) := by
            intro w6 h6
            have h := does_any K h6.below a (h6.front 2 rfl) OK.out (by omega) HFIT.out
            rw [← HVS.out, ← ht2, ← hy] at h
            exact h
          clear ht2 hy H H5
          go_wp2_with (first
  | (refine wpList_load_mid rfl 33 (.tmp 65) rfl b (o + i * 2) rfl vs _ RA.out.range Try.underlying33 rfl RA.out.info ?_)
  | (refine wpList_store_mid rfl 33 (.tmp 15) (.tmp 66) rfl wr.heap.size 0 vs.toArray rfl rfl RA.out.there RA.out.info2 RA.out.one ?_; rw [← HW5.out, ← HBB.out])
  | (refine wpList_load_mid rfl 33 (.tmp 15) rfl bb 0 rfl vs _ R5.out Try.underlying33 rfl RA.out.info ?_))
          refine D1.out.mono ?_
          clear D1 RA R5 HW5 HBB
          rintro e w6 ⟨rfl, h6⟩
          have R6 : Hid (w6.rangeAt bb 0 vs) := fun j v hv => by rw [Nat.zero_add]; exact (h6.cellV 1 rfl j hv).1
          have IA : Hid ((Try.prog.info? 33).map (·.size) = some vs.length) := by show _ = _; rw [HVS.out]; exact info_act
          have D2' := Lib.hid (D2.out w6 h6)
          clear D2 h6
          go_wp2_with (refine wpList_load_mid rfl 33 (.tmp 15) rfl bb 0 rfl vs _ R6.out Try.underlying33 rfl IA.out ?_)
          refine D2'.out.mono ?_
          clear D2' R6
          rintro e w7 ⟨rfl, h7⟩
          have H7 := Lib.hid (h7.erase 2 rfl)
          clear h7
          go_wp2
          go_roundw
          case rel => exact ⟨i + 1, t2, by omega, by go_num, H7.out, OK2.out⟩
          case measure => simp [intOf]; omega
        · have hi300 : i ≤ 300 := by omega
          obtain ⟨R, hR⟩ : ∃ x, x = t.rows.length := ⟨_, rfl⟩
          obtain ⟨G, hG⟩ : ∃ x, x = t.rows := ⟨_, rfl⟩
          obtain ⟨nx, hnx⟩ : ∃ x, x = t.next := ⟨_, rfl⟩
          have hR256 : R ≤ 256 := by rw [hR]; exact OK.out.len
          have CR : Hid (∀ wx, Own.St w.heap.size w wx [K.A q t, K.A p t] → ∀ s, s = p ∨ s = q → Calls Try.prog 16 #[ptr s] wx fun e w' => ∃ u, e = .returned u ∧ RdRow w' u R (G.flatMap sgC) ∧ Below wx.heap.size wx w') := fun wx h s hs => by
            rw [hR, hG]
            rcases hs with rfl | rfl
            · refine (K.rows h.below h.swap2 OK.out (by omega)).mono ?_
              rintro e w' ⟨ao, c, rfl, h, hb⟩
              exact ⟨_, rfl, rd_own h 0 rfl, hb⟩
            · refine (K.rows h.below h OK.out (by omega)).mono ?_
              rintro e w' ⟨ao, c, rfl, h, hb⟩
              exact ⟨_, rfl, rd_own h 0 rfl, hb⟩
          have CN : Hid (∀ wx, Own.St w.heap.size w wx [K.A q t, K.A p t] → ∀ s, s = p ∨ s = q → Calls Try.prog 17 #[ptr s] wx fun e w' => e = .returned (.int .u64 (nx : Int)) ∧ Below wx.heap.size wx w') := fun wx h s hs => by
            rw [hnx]
            rcases hs with rfl | rfl
            · exact K.next h.below h.swap2 OK.out (by omega)
            · exact K.next h.below h OK.out (by omega)
          have hGl : G.length = R := by rw [hG, hR]
          have HGL := Lib.hid hGl
          clear hR hG hnx hGl
          go_wp2_with (fail)
          refine (CR.out wr H.out p (.inl rfl)).mono ?_
          rintro e w5 ⟨u5, rfl, hu5, h5⟩
          have H5 := Lib.hid (H.out.later h5)
          have U5 := Lib.hid hu5
          clear h5 hu5 H
          go_wp2_with (fail)
          refine (CR.out w5 H5.out q (.inr rfl)).mono ?_
          clear CR
          rintro e w6 ⟨u6, rfl, hu6, h6⟩
          have H6 := Lib.hid (H5.out.later h6)
          have CSM := Lib.hid (sameRows_any G R u5 u6 w6 (U5.out.later h6) hu6 HGL.out (by omega))
          clear h6 hu6 H5 U5
          go_wp2_with (fail)
          refine CSM.out.mono ?_
          clear CSM
          rintro e w7 ⟨rfl, h7⟩
          have H7 := Lib.hid (H6.out.later h7)
          clear h7 H6
          go_wp2_with (fail)
          refine (CN.out w7 H7.out p (.inl rfl)).mono ?_
          rintro e w8 ⟨rfl, h8⟩
          have H8 := Lib.hid (H7.out.later h8)
          clear h8 H7
          go_wp2_with (fail)
          refine (CN.out w8 H8.out q (.inr rfl)).mono ?_
          clear CN
          rintro e w9 ⟨rfl, h9⟩
          have H9 := Lib.hid (H8.out.later h9)
          clear h9 H8
          go_wp2
          go_ret
          exact ⟨rfl, H9.out.below⟩
end Tab
end Go.Proofs.Ytlgfddpgmpabcaa

end
section
namespace Go.TabM
def rowW (n k j : Nat) : Sg := ⟨0, 0, k / n + if j < k % n then 1 else 0⟩
def rowsW (n k : Nat) : List Sg := (List.range n).map (rowW n k)
def tabW (n k : Nat) : T := ⟨rowsW n k, k + 1⟩
theorem rowsW_len (n k : Nat) : (rowsW n k).length = n := by simp [rowsW]
theorem rowsW_get (n k j : Nat) (h : j < n) : (rowsW n k)[j]? = some (rowW n k j) := by simp [rowsW, h]
theorem rowsW_mem {n k : Nat} {s : Sg} (h : s ∈ rowsW n k) : ∃ j, j < n ∧ s = rowW n k j := by
  obtain ⟨j, hj, e⟩ := List.mem_map.1 h
  exact ⟨j, List.mem_range.1 hj, e.symm⟩
theorem tabW_zero (n : Nat) : tabW n 0 = fresh n := by
  unfold tabW fresh
  congr 1
  apply List.ext_getElem?
  intro j
  by_cases h : j < n
  · rw [rowsW_get n 0 j h, List.getElem?_replicate, if_pos h]
    simp [rowW, zS]
  · rw [List.getElem?_eq_none (by rw [rowsW_len]; omega), List.getElem?_eq_none (by simp; omega)]
theorem rowsW_step (n k : Nat) (hn : 0 < n) : (rowsW n k).set (k % n) ⟨0, 0, k / n + 1⟩ = rowsW n (k + 1) := by
  have hc : k % n < n := Nat.mod_lt _ hn
  have hdm := Nat.div_add_mod k n
  apply List.ext_getElem?
  intro j
  by_cases h : j < n
  · rw [rowsW_get n (k + 1) j h]
    by_cases hcn : k % n + 1 < n
    · have e1 : (k + 1) / n = k / n := by
        have : k + 1 = (k % n + 1) + n * (k / n) := by omega
        rw [this, Nat.add_mul_div_left _ _ hn, Nat.div_eq_of_lt hcn, Nat.zero_add]
      have e2 : (k + 1) % n = k % n + 1 := by
        have : k + 1 = (k % n + 1) + n * (k / n) := by omega
        rw [this, Nat.add_mul_mod_self_left, Nat.mod_eq_of_lt hcn]
      by_cases hj : k % n = j
      · subst hj
        rw [List.getElem?_set_self (by rw [rowsW_len]; exact hc)]
        unfold rowW
        rw [e1, e2, if_pos (by omega)]
      · rw [List.getElem?_set_ne hj, rowsW_get n k j h]
        unfold rowW
        rw [e1, e2]
        by_cases hl : j < k % n
        · rw [if_pos hl, if_pos (by omega)]
        · rw [if_neg hl, if_neg (by omega)]
    · have hcn2 : k % n + 1 = n := by omega
      have hk1 : k + 1 = n * (k / n + 1) := by rw [Nat.mul_add, Nat.mul_one]; omega
      have e1 : (k + 1) / n = k / n + 1 := by rw [hk1, Nat.mul_div_cancel_left _ hn]; 
      have e2 : (k + 1) % n = 0 := by rw [hk1, Nat.mul_mod_right]
      by_cases hj : k % n = j
      · subst hj
        rw [List.getElem?_set_self (by rw [rowsW_len]; exact hc)]
        unfold rowW
        rw [e1, e2, if_neg (by omega)]
      · rw [List.getElem?_set_ne hj, rowsW_get n k j h]
        unfold rowW
        rw [e1, e2, if_pos (by omega), if_neg (by omega)]
  · rw [List.getElem?_eq_none (by rw [List.length_set, rowsW_len]; omega), List.getElem?_eq_none (by rw [rowsW_len]; omega)]
theorem bestF_append (l1 l2 : List Sg) : ∀ (b : Option (Nat × Nat)) (i : Nat), bestF b i (l1 ++ l2) = bestF (bestF b i l1) (i + l1.length) l2 := by
  induction l1 with
  | nil => intro b i; rfl
  | cons s l ih => intro b i; rw [List.cons_append, bestF, bestF, ih, List.length_cons]; congr 1; omega
theorem bestF_stays : ∀ (l : List Sg) (i0 w i : Nat), (∀ s ∈ l, w ≤ s.wear) → bestF (some (i0, w)) i l = some (i0, w)
  | [], _, _, _, _ => rfl
  | s :: l, i0, w, i, h => by
    rw [bestF, if_neg]
    · exact bestF_stays l i0 w _ (fun x hx => h x (List.mem_cons_of_mem _ hx))
    · unfold takes
      have := h s List.mem_cons_self
      simp; omega
theorem best_W (n k : Nat) (hn : 0 < n) : best (tabW n k) = some (k % n, k / n) := by
  have hc : k % n < n := Nat.mod_lt _ hn
  show bestF none 0 (rowsW n k) = _
  have hsplit : rowsW n k = (rowsW n k).take (k % n) ++ (rowW n k (k % n) :: (rowsW n k).drop (k % n + 1)) := by
    have h1 := (List.take_append_drop (k % n) (rowsW n k)).symm
    rw [List.drop_eq_getElem_cons (by rw [rowsW_len]; exact hc)] at h1
    have h2 : (rowsW n k)[k % n]'(by rw [rowsW_len]; exact hc) = rowW n k (k % n) := by
      have := rowsW_get n k (k % n) hc
      rw [List.getElem?_eq_getElem (by rw [rowsW_len]; exact hc)] at this
      exact Option.some.inj this
    rw [h2] at h1
    exact h1
  have hrest : ∀ s ∈ (rowsW n k).drop (k % n + 1), k / n ≤ s.wear := by
    intro s hs
    obtain ⟨j, _, rfl⟩ := rowsW_mem (List.mem_of_mem_drop hs)
    unfold rowW; simp
  have hmid : rowW n k (k % n) = ⟨0, 0, k / n⟩ := by unfold rowW; rw [if_neg (by omega)]; rfl
  have htl : ((rowsW n k).take (k % n)).length = k % n := by rw [List.length_take, rowsW_len]; omega
  rw [hsplit, bestF_append, htl, hmid]
  cases htk : (rowsW n k).take (k % n) with
  | nil =>
    have h0 : k % n = 0 := by rw [htk] at htl; simpa using htl.symm
    rw [h0]
    have ht : takes none ⟨0, 0, k / n⟩ = true := rfl
    simp only [bestF, ht, if_true, Nat.zero_add]
    rw [h0] at hrest
    exact bestF_stays _ _ _ _ hrest
  | cons x l =>
    have hlow : ∀ s ∈ x :: l, s = ⟨0, 0, k / n + 1⟩ := by
      intro s hs
      rw [← htk] at hs
      obtain ⟨j, hj, e⟩ := List.getElem_of_mem hs
      rw [htl] at hj
      rw [List.getElem_take] at e
      have := rowsW_get n k j (by omega)
      rw [List.getElem?_eq_getElem (by rw [rowsW_len]; omega)] at this
      rw [← e, Option.some.inj this]
      unfold rowW
      rw [if_pos hj]
    have hx := hlow x List.mem_cons_self
    have h1 : bestF none 0 (x :: l) = some (0, k / n + 1) := by
      have ht : takes none ⟨0, 0, k / n + 1⟩ = true := rfl
      rw [bestF, hx, if_pos ht]
      exact bestF_stays _ _ _ _ (fun s hs => by rw [hlow s (List.mem_cons_of_mem _ hs)]; exact Nat.le_refl _)
    rw [h1, bestF, if_pos (by unfold takes; simp)]
    simp only [Nat.zero_add]
    exact bestF_stays _ _ _ _ hrest
theorem curF_noneOf : ∀ (l : List Sg) (j : Nat), (∀ s ∈ l, s.kind ≠ 1) → curF j l = none
  | [], _, _ => rfl
  | s :: l, j, h => by
    rw [curF, if_neg (h s List.mem_cons_self)]
    exact curF_noneOf l _ (fun x hx => h x (List.mem_cons_of_mem _ hx))
theorem curF_set : ∀ (l : List Sg) (i j : Nat) (x : Sg), (∀ s ∈ l, s.kind ≠ 1) → i < l.length → x.kind = 1 → curF j (l.set i x) = some (j + i)
  | [], _, _, _, _, h, _ => by simp at h
  | s :: l, 0, j, x, _, _, hx => by rw [List.set_cons_zero, curF, if_pos hx]; rfl
  | s :: l, i + 1, j, x, h, hi, hx => by
    rw [List.set_cons_succ, curF, if_neg (h s List.mem_cons_self), curF_set l i (j + 1) x (fun y hy => h y (List.mem_cons_of_mem _ hy)) (by simpa using hi) hx]
    congr 1; omega
theorem kind_W {n k : Nat} {s : Sg} (h : s ∈ rowsW n k) : s.kind = 0 := by obtain ⟨j, _, rfl⟩ := rowsW_mem h; rfl
theorem cur_W (n k : Nat) : cur (tabW n k) = none := curF_noneOf _ _ (fun s hs => by rw [kind_W hs]; decide)
theorem open_W (n k : Nat) (hn : 0 < n) : openT (tabW n k) = (opened (tabW n k) (k % n) (k / n), (k % n, k + 1, 0)) := by
  unfold openT; rw [cur_W, best_W n k hn]; rfl
def midW (n k : Nat) : T := ⟨(rowsW n k).set (k % n) ⟨2, k + 1, k / n + 1⟩, k + 2⟩
theorem seal_W (n k : Nat) (hn : 0 < n) : sealT (opened (tabW n k) (k % n) (k / n)) = (midW n k, 0) := by
  have hc : k % n < n := Nat.mod_lt _ hn
  have h1 : cur (opened (tabW n k) (k % n) (k / n)) = some (k % n) := by
    show curF 0 ((rowsW n k).set (k % n) _) = _
    rw [curF_set _ _ _ _ (fun s hs => by rw [kind_W hs]; decide) (by rw [rowsW_len]; exact hc) rfl, Nat.zero_add]
  have h2 : at_ ((rowsW n k).set (k % n) ⟨1, k + 1, k / n + 1⟩) (k % n) = ⟨1, k + 1, k / n + 1⟩ := at_eq (by rw [List.getElem?_set_self (by rw [rowsW_len]; exact hc)])
  unfold sealT
  rw [h1]
  show (T.mk (((rowsW n k).set (k % n) ⟨1, k + 1, k / n + 1⟩).set (k % n) { at_ ((rowsW n k).set (k % n) ⟨1, k + 1, k / n + 1⟩) (k % n) with kind := 2 }) (k + 1 + 1), 0) = _
  rw [h2, List.set_set]
  rfl
theorem rel_W (n k : Nat) (hn : 0 < n) : relT (midW n k) ((k % n : Nat) : Int) = (tabW n (k + 1), 0) := by
  have hc : k % n < n := Nat.mod_lt _ hn
  have h2 : at_ ((rowsW n k).set (k % n) ⟨2, k + 1, k / n + 1⟩) (k % n) = ⟨2, k + 1, k / n + 1⟩ := at_eq (by rw [List.getElem?_set_self (by rw [rowsW_len]; exact hc)])
  have hl : (midW n k).rows.length = n := by show ((rowsW n k).set _ _).length = n; rw [List.length_set, rowsW_len]
  unfold relT
  rw [if_neg (by rw [hl]; omega), Int.toNat_natCast]
  show (if (at_ ((rowsW n k).set (k % n) ⟨2, k + 1, k / n + 1⟩) (k % n)).kind ≠ 2 then _ else ((T.mk (((rowsW n k).set (k % n) ⟨2, k + 1, k / n + 1⟩).set (k % n) ⟨0, 0, (at_ ((rowsW n k).set (k % n) ⟨2, k + 1, k / n + 1⟩) (k % n)).wear⟩) (k + 2)), 0)) = _
  rw [h2, if_neg (by simp), List.set_set, rowsW_step n k hn]
  rfl
theorem ok_W (n k : Nat) (h : n ≤ 256) (hn : 0 < n) : Ok (tabW n k) k := by
  refine ⟨by show (rowsW n k).length ≤ _; rw [rowsW_len]; exact h, ?_, ?_, ?_, by show 1 ≤ k + 1; omega, Nat.le_refl _⟩
  · intro s hs; rw [kind_W hs]; decide
  · intro s hs
    obtain ⟨j, hj, rfl⟩ := rowsW_mem hs
    show k / n + (if j < k % n then 1 else 0) ≤ k
    have hdm := Nat.div_add_mod k n
    have h1 : k / n ≤ n * (k / n) := Nat.le_mul_of_pos_left _ hn
    split <;> omega
  · intro s hs
    obtain ⟨j, hj, rfl⟩ := rowsW_mem hs
    exact Nat.zero_le _
end Go.TabM

end
section
namespace Go.TabM
/-- least, most and sum of the wears of the first j rows -/
def Inv (c w j lo hi al : Nat) : Prop := (j = 0 ∧ lo = 4294967295 ∧ hi = 0 ∧ al = 0) ∨ (0 < j ∧ lo = (if j ≤ c then w + 1 else w) ∧ hi = (if 0 < c then w + 1 else w) ∧ al = j * w + min j c)
theorem inv_step {c w j lo hi al x : Nat} (h : Inv c w j lo hi al) (hw : w ≤ 1000) (hx : x = w + if j < c then 1 else 0) : Inv c w (j + 1) (min lo x) (max hi x) (al + x) := by
  subst hx
  rcases h with ⟨rfl, rfl, rfl, rfl⟩ | ⟨h0, rfl, rfl, rfl⟩
  · refine .inr ⟨by omega, ?_, ?_, ?_⟩
    · split <;> split <;> omega
    · split <;> omega
    · rw [Nat.zero_add, Nat.zero_add, Nat.one_mul]; split <;> omega
  · refine .inr ⟨by omega, ?_, ?_, ?_⟩
    · split <;> split <;> split <;> omega
    · split <;> split <;> omega
    · rw [Nat.add_mul, Nat.one_mul]; split <;> omega
theorem inv_end {c w n lo hi al k : Nat} (h : Inv c w n lo hi al) (hn : 0 < n) (hc : c < n) (hk : k = n * w + c) : lo ≤ hi ∧ hi ≤ lo + 1 ∧ al = k := by
  rcases h with ⟨h0, _⟩ | ⟨h0, rfl, rfl, rfl⟩
  · omega
  · refine ⟨?_, ?_, by omega⟩ <;> split <;> split <;> omega
end Go.TabM
namespace Go.Proofs.Ytlgfddpgmpabcaa
open Go.RowKit Go.Own
namespace Tab
open Go.TabM
theorem add_u32 {o : Oper} {x y : Tmp} (ho : o.op = .binOp .add 42 (.tmp x) (.tmp y) 42) (k j : Nat) (hb : k + j ≤ 1000000) {q : Nat} (hq : q = k + j) (ρ : Operand → Value) (w : World) (h0 : ρ (.tmp x) = .int .u32 (k : Int)) (h1 : ρ (.tmp y) = .int .u32 (j : Int)) : (execOp ρ o).run Try.prog w = .ok (.value (.int .u32 (q : Int))) w := by
  have e : IntKind.u32.wrap ((k : Int) + (j : Int)) = (q : Int) := (IntWalk.u32_in _ (by omega)).trans (by omega)
  simp only [execOp, ho, h0, h1]
  generalize (k : Int) = m at e
  generalize (j : Int) = m2 at e
  simp [go_sem, e]
theorem min_run {o : Oper} {x y : Tmp} (ho : o.op = .call { callee := .builtin .min, args := #[.tmp x, .tmp y], argTypes := #[42, 42] }) (ht : o.type = 42) {a b c : Value} (ρ : Operand → Value) (w : World) (h0 : ρ (.tmp x) = a) (h1 : ρ (.tmp y) = b) (h : ∀ wx, (Builtin.min_ #[42, 42] 42 #[a, b]).run Try.prog wx = .ok c wx) : (execOp ρ o).run Try.prog w = .ok (.value c) w := by
  simp [execOp, ho, ht, resolve, invoke, builtin, h0, h1, h, Result.andThen]
theorem max_run {o : Oper} {x y : Tmp} (ho : o.op = .call { callee := .builtin .max, args := #[.tmp x, .tmp y], argTypes := #[42, 42] }) (ht : o.type = 42) {a b c : Value} (ρ : Operand → Value) (w : World) (h0 : ρ (.tmp x) = a) (h1 : ρ (.tmp y) = b) (h : ∀ wx, (Builtin.max_ #[42, 42] 42 #[a, b]).run Try.prog wx = .ok c wx) : (execOp ρ o).run Try.prog w = .ok (.value c) w := by
  simp [execOp, ho, ht, resolve, invoke, builtin, h0, h1, h, Result.andThen]
theorem seg_one (s : Sg) : ∀ v ∈ sgC s, v.oneCell' = true := by intro v hv; simp at hv; rcases hv with rfl | rfl | rfl <;> rfl
abbrev zeroSeg : List Value := [.int .u8 0, .int .u64 0, .int .u32 0]
theorem info_segZ : (Try.prog.info? 44).map (·.size) = some zeroSeg.length := by
  have h : (Try.prog.info? 44).map (fun i => i.size) = some 3 := by kernel_rfl
  exact h
set_option maxRecDepth 10000 in
set_option maxHeartbeats 16000000 in
theorem walk_worn (c0 c1 : UInt8) {w : World} (K : Kept w) :
    Calls Try.prog 5 #[.int .u8 (c0.toNat : Int), .int .u8 (c1.toNat : Int)] w (RetYes w) := by
  have SH := Lib.hid (shown_any K (Below.refl _ _))
  obtain ⟨c, hc⟩ : ∃ n, n = c0.toNat := ⟨_, rfl⟩
  obtain ⟨m, hm⟩ : ∃ n, n = c1.toNat := ⟨_, rfl⟩
  have hc255 : c ≤ 255 := by have := c0.toNat_lt; omega
  have hm255 : m ≤ 255 := by have := c1.toNat_lt; omega
  rw [← hc, ← hm]
  obtain ⟨d, hd⟩ : ∃ d, d = c % 100 := ⟨_, rfl⟩
  have hdi : (c : Int) % 100 = (d : Int) := by omega
  obtain ⟨n, hn⟩ : ∃ n, n = d + 1 := ⟨_, rfl⟩
  have hni : (d : Int) + 1 = (n : Int) := by omega
  have hn0 : 0 < n := by omega
  have hn100 : n ≤ 100 := by omega
  have hd99 : d ≤ 99 := by omega
  clear hc hm
  have NEW : Hid (∀ wx, Own.St w.heap.size w wx [] → Calls Try.prog 10 #[.int .i64 (n : Int)] wx fun e w' => ∃ p, e = .returned (.tuple #[ptr p, errT 0]) ∧ Own.St w.heap.size w w' [K.A p (tabW n 0)]) := fun wx h => by
    have c := K.new (n : Int) h.below h ⟨by omega, by omega⟩
    rw [show mayBe (n : Int) = true by unfold mayBe; simp; omega] at c
    simp only [if_true, Int.toNat_natCast] at c
    rw [tabW_zero]
    exact c
  have OPN : Hid (∀ p k wx, k ≤ 300 → Own.St w.heap.size w wx [K.A p (tabW n k)] → Calls Try.prog 18 #[ptr p] wx fun e w' => e = .returned (.tuple #[.int .i64 ((k % n : Nat) : Int), .int .u64 ((k + 1 : Nat) : Int), errT 0]) ∧ Own.St w.heap.size w w' [K.A p (opened (tabW n k) (k % n) (k / n))]) := fun p k wx hk h => by
    have c := K.open_ h.below h (ok_W n k (by omega) hn0) (by omega)
    rw [open_W n k hn0] at c
    exact c
  have SEA : Hid (∀ p k wx, k ≤ 300 → Own.St w.heap.size w wx [K.A p (opened (tabW n k) (k % n) (k / n))] → Calls Try.prog 19 #[ptr p] wx fun e w' => e = .returned (errT 0) ∧ Own.St w.heap.size w w' [K.A p (midW n k)]) := fun p k wx hk h => by
    have o := ok_open (ok_W n k (by omega) hn0)
    rw [open_W n k hn0] at o
    have c := K.seal_ h.below h o (by omega)
    rw [seal_W n k hn0] at c
    exact c
  have REL : Hid (∀ p k wx, k ≤ 300 → Own.St w.heap.size w wx [K.A p (midW n k)] → Calls Try.prog 20 #[ptr p, .int .i64 ((k % n : Nat) : Int)] wx fun e w' => e = .returned (errT 0) ∧ Own.St w.heap.size w w' [K.A p (tabW n (k + 1))]) := fun p k wx hk h => by
    have o := ok_open (ok_W n k (by omega) hn0)
    rw [open_W n k hn0] at o
    have o2 := ok_seal o
    rw [seal_W n k hn0] at o2
    have hlt : k % n < n := Nat.mod_lt _ hn0
    have c := K.rel ((k % n : Nat) : Int) h.below h o2 (by omega) ⟨by omega, by omega⟩
    rw [rel_W n k hn0] at c
    exact c
  have ROW : Hid (∀ p k wx, k ≤ 300 → Own.St w.heap.size w wx [K.A p (tabW n k)] → Calls Try.prog 16 #[ptr p] wx fun e w' => ∃ ao c, e = .returned (.slice ao n c) ∧ Own.St w.heap.size w w' [ARow 44 3 (.slice ao n c) n ((rowsW n k).flatMap sgC), K.A p (tabW n k)]) := fun p k wx hk h => by
    have c := K.rows h.below h (ok_W n k (by omega) hn0) (by omega)
    rw [show (tabW n k).rows = rowsW n k from rfl, rowsW_len] at c
    refine c.mono ?_
    rintro e w' ⟨ao, c, rfl, h, _⟩
    exact ⟨ao, c, rfl, h⟩
  have HD := Lib.hid hd
  have HNN := Lib.hid hn
  clear hd hn
  go_enter Try.func5, Try.ntmps5
  go_wp2_with (fail)
  refine SH.out.mono ?_
  rintro e w1 ⟨rfl, h1⟩
  have H1 := Lib.hid ((Own.St.start w).later h1)
  clear h1 SH
  go_wp2_with (fail)
  refine (NEW.out w1 H1.out).mono ?_
  clear NEW
  rintro e w2 ⟨p, rfl, h2⟩
  have H2 := Lib.hid h2
  clear h2 H1
  go_wp2
  go_loopw [35] (fun v35 wr => ∃ i : Nat, i ≤ m ∧ v35 = .int .i64 (i : Int) ∧ Own.St w.heap.size w wr [K.A p (tabW n i)]) (fun v35 _ => m - (intOf v35).toNat)
  case atStart => exact ⟨0, Nat.zero_le _, rfl, H2.out⟩
  case round =>
    obtain ⟨i, him, rfl, hH⟩ := hrel
    have H := Lib.hid hH
    clear hH H2
    by_cases hi0 : (i : Int) < (m : Int)
    · have hi300 : i ≤ 300 := by omega
      have C1 := Lib.hid (OPN.out p i wr hi300 H.out)
      have C2 := Lib.hid (fun wx => SEA.out p i wx hi300)
      have C3 := Lib.hid (fun wx => REL.out p i wx hi300)
      obtain ⟨cc, hcc⟩ : ∃ x, x = i % n := ⟨_, rfl⟩
      have hccb : cc < n := by rw [hcc]; exact Nat.mod_lt _ hn0
      rw [← hcc] at C1 C2 C3
      clear hcc H OPN SEA REL ROW
      go_wp2_with (fail)
      refine C1.out.mono ?_
      clear C1
      rintro e w3 ⟨rfl, h3⟩
      have H3 := Lib.hid h3
      clear h3
      go_wp2_with (fail)
      refine (C2.out w3 H3.out).mono ?_
      clear C2 H3
      rintro e w4 ⟨rfl, h4⟩
      have H4 := Lib.hid h4
      clear h4
      go_wp2_with (fail)
      refine (C3.out w4 H4.out).mono ?_
      clear C3 H4
      rintro e w5 ⟨rfl, h5⟩
      have H5 := Lib.hid h5
      clear h5
      go_wp2
      go_roundw
      case rel => exact ⟨i + 1, by omega, by go_num, H5.out⟩
      case measure => simp [intOf]; omega
    · have hie : i = m := by omega
      subst hie
      have C1 := Lib.hid (ROW.out p i wr (by omega) H.out)
      have C2 := Lib.hid (fun wx => ROW.out p i wx (by omega))
      obtain ⟨cc, hcc⟩ : ∃ x, x = i % n := ⟨_, rfl⟩
      obtain ⟨wq, hwq⟩ : ∃ x, x = i / n := ⟨_, rfl⟩
      have hccb : cc < n := by rw [hcc]; exact Nat.mod_lt _ hn0
      have hdm : i = n * wq + cc := by rw [hcc, hwq]; exact (Nat.div_add_mod i n).symm
      have hwq255 : wq ≤ 255 := by
        have h1 : wq ≤ n * wq := Nat.le_mul_of_pos_left _ hn0
        omega
      have HDM := Lib.hid hdm
      have RW : Hid (∀ j, j < n → at_ (rowsW n i) j = ⟨0, 0, wq + if j < cc then 1 else 0⟩) := fun j hj => by
        rw [at_eq (rowsW_get n i j hj), hcc, hwq]
        rfl
      clear hcc hwq H OPN SEA REL ROW hdm
      go_wp2_with (fail)
      refine C1.out.mono ?_
      clear C1
      rintro e w3 ⟨a3, k3, rfl, h3⟩
      have H3 := Lib.hid h3
      clear h3
      go_wp2
      go_loopw [12, 13, 14, 60] (fun v12 v13 v14 v60 wr => ∃ j lo hi al : Nat, j ≤ n ∧ v12 = .int .u32 (lo : Int) ∧ v13 = .int .u32 (hi : Int) ∧ v14 = .int .u32 (al : Int) ∧ v60 = .int .i64 (j : Int) ∧ Inv cc wq j lo hi al ∧ Own.St w.heap.size w wr [ARow 44 3 (.slice a3 n k3) n ((rowsW n i).flatMap sgC), K.A p (tabW n i)]) (fun _ _ _ v60 _ => n - (intOf v60).toNat)
      case atStart => exact ⟨0, 4294967295, 0, 0, Nat.zero_le _, rfl, rfl, rfl, rfl, .inl ⟨rfl, rfl, rfl, rfl⟩, H3.out⟩
      case round =>
        obtain ⟨j, lo, hi, al, hjn, rfl, rfl, rfl, rfl, hinv, hH⟩ := hrel
        have H := Lib.hid hH
        have INV := Lib.hid hinv
        have hlob : lo ≤ 4294967295 := by
          rcases hinv with ⟨_, rfl, _⟩ | ⟨_, rfl, _⟩
          · exact Nat.le_refl _
          · split <;> omega
        have hhib : hi ≤ 256 := by
          rcases hinv with ⟨_, _, rfl, _⟩ | ⟨_, _, rfl, _⟩
          · omega
          · split <;> omega
        have halb : al ≤ 100000 := by
          rcases hinv with ⟨_, _, _, rfl⟩ | ⟨_, _, _, rfl⟩
          · omega
          · have h1 : j * wq ≤ 100 * 255 := Nat.mul_le_mul (by omega) hwq255
            omega
        clear hH hinv H3
        by_cases hj : (j : Int) < (n : Int)
        · have hjl : j < n := by omega
          obtain ⟨s, hs⟩ : ∃ s, s = at_ (rowsW n i) j := ⟨_, rfl⟩
          obtain ⟨x, hx⟩ : ∃ x, x = wq + if j < cc then 1 else 0 := ⟨_, rfl⟩
          have hse : s = ⟨0, 0, x⟩ := by rw [hs, hx]; exact RW.out j hjl
          have hxb : x ≤ 256 := by rw [hx]; split <;> omega
          have hH' : Own.St w.heap.size w wr [RowG (.slice a3 n k3) (rowsW n i), K.A p (tabW n i)] := by
            have e1 : RowG (.slice a3 n k3) (rowsW n i) = ARow 44 3 (.slice a3 n k3) n ((rowsW n i).flatMap sgC) := by show ARow _ 3 _ (rowsW n i).length _ = _; rw [rowsW_len]
            rw [e1]
            exact H.out
          obtain ⟨g, c9, e9, ha⟩ := rowG_at hH' 0 rfl j (by rw [rowsW_len]; exact hjl)
          simp only [Value.slice.injEq] at e9
          obtain ⟨rfl, hx9, rfl⟩ := e9
          clear hx9
          rw [← hs, hse] at ha
          obtain ⟨vs, hvs⟩ : ∃ vs, vs = sgC ⟨0, 0, x⟩ := ⟨_, rfl⟩
          have RA := Lib.hid (round_E (P := Try.prog) (ty := 44) (z := zeroSeg) (vs := vs) (b := g) (o := j * 3) H.out (by
            rw [hvs]
            intro k v hv
            match k, hv with
            | 0, hv => cases hv; exact ha.c0
            | 1, hv => cases hv; exact ha.c1
            | 2, hv => cases hv; exact ha.c2) (by rw [hvs]; rfl) info_segZ (by rw [hvs]; exact seg_one _))
          obtain ⟨bs, hbs⟩ : ∃ bb, bb = wr.heap.size := ⟨_, rfl⟩
          obtain ⟨w5, hw5⟩ : ∃ w5, w5 = (wr.alloc (.cells zeroSeg.toArray 44)).setCells wr.heap.size 0 vs.toArray.toList := ⟨_, rfl⟩
          have hst := RA.out.st
          rw [← hw5, ← hbs] at hst
          have H5 := Lib.hid hst
          have hx2 := (hst.cellV 0 rfl 2 (v := .int .u32 (x : Int)) (by rw [hvs]; rfl)).1
          have CX : Hid (∀ wx, Below w5.heap.size w5 wx → wx.cell? ⟨bs, 2, none⟩ = some (.int .u32 (x : Int))) := fun wx h => cellLater' hx2 h
          have HW5 := Lib.hid hw5
          have HBS := Lib.hid hbs
          obtain ⟨lo2, hlo2⟩ : ∃ l, l = min lo x := ⟨_, rfl⟩
          obtain ⟨hi2, hhi2⟩ : ∃ l, l = max hi x := ⟨_, rfl⟩
          obtain ⟨al2, hq⟩ : ∃ l, l = al + x := ⟨_, rfl⟩
          have hal2 : al + x ≤ 1000000 := by omega
          have INV2 : Hid (Inv cc wq (j + 1) lo2 hi2 al2) := by rw [hlo2, hhi2, hq]; exact inv_step INV.out (by omega) hx
          have MN : Hid (∀ wx, (Builtin.min_ #[42, 42] 42 #[.int .u32 (lo : Int), .int .u32 (x : Int)]).run Try.prog wx = .ok (.int .u32 (lo2 : Int)) wx) := by
            intro wx
            rw [show (lo2 : Int) = min (lo : Int) (x : Int) by omega]
            simp [Builtin.min_, Builtin.min2, go_sem]
            try omega
          have MX : Hid (∀ wx, (Builtin.max_ #[42, 42] 42 #[.int .u32 (hi : Int), .int .u32 (x : Int)]).run Try.prog wx = .ok (.int .u32 (hi2 : Int)) wx) := by
            intro wx
            rw [show (hi2 : Int) = max (hi : Int) (x : Int) by omega]
            simp [Builtin.max_, Builtin.max2, go_sem]
            try omega
          clear hst hw5 hbs hvs ha hH' hs hse hlo2 hhi2 hx2 H hx
          go_wp2_with (first
            | (refine wpList_load_mid rfl 44 (.tmp 62) rfl g (j * 3) rfl vs _ RA.out.range Try.underlying44 rfl RA.out.info ?_)
            | (refine wpList_store_mid rfl 44 (.tmp 16) (.tmp 63) rfl wr.heap.size 0 vs.toArray rfl rfl RA.out.there RA.out.info2 RA.out.one ?_; rw [← HW5.out, ← HBS.out]))
          refine wp_lax_list (by kernel_rfl) (by kernel_rfl) (by kernel_rfl) ?_
          refine wpL_move (.int .u32 (lo : Int)) rfl (by kernel_rfl) (by kernel_rfl) (by kernel_rfl) (by kernel_rfl) ?_
          refine wpL_run1 (x := .tmp 16) (.pointer (some ⟨bs, 0, none⟩)) (.pointer (some ⟨bs, 2, none⟩)) (by kernel_rfl) (by kernel_rfl) (by kernel_rfl) (by kernel_rfl) (by kernel_rfl) (fun wx ρ hwx h0 hc => by simp [go_sem, h0, hc]) ?_
          refine wpL_run1 (x := .tmp 65) (.pointer (some ⟨bs, 2, none⟩)) (.int .u32 (x : Int)) (by kernel_rfl) (by kernel_rfl) (by kernel_rfl) (by kernel_rfl) (by kernel_rfl) (fun wx ρ hwx h0 hc => by simp [go_sem, h0, hc, CX.out wx hwx]) ?_
          refine wpL_run2 (x := .tmp 64) (y := .tmp 66) (.int .u32 (lo : Int)) (.int .u32 (x : Int)) (.int .u32 (lo2 : Int)) (by kernel_rfl) (by kernel_rfl) (by kernel_rfl) (by kernel_rfl) (by kernel_rfl) (by kernel_rfl) (fun wx ρ hwx h0 h1 hc => min_run rfl rfl ρ wx h0 h1 MN.out) ?_
          refine wpL_move (.int .u32 (hi : Int)) rfl (by kernel_rfl) (by kernel_rfl) (by kernel_rfl) (by kernel_rfl) ?_
          refine wpL_run1 (x := .tmp 16) (.pointer (some ⟨bs, 0, none⟩)) (.pointer (some ⟨bs, 2, none⟩)) (by kernel_rfl) (by kernel_rfl) (by kernel_rfl) (by kernel_rfl) (by kernel_rfl) (fun wx ρ hwx h0 hc => by simp [go_sem, h0, hc]) ?_
          refine wpL_run1 (x := .tmp 69) (.pointer (some ⟨bs, 2, none⟩)) (.int .u32 (x : Int)) (by kernel_rfl) (by kernel_rfl) (by kernel_rfl) (by kernel_rfl) (by kernel_rfl) (fun wx ρ hwx h0 hc => by simp [go_sem, h0, hc, CX.out wx hwx]) ?_
          refine wpL_run2 (x := .tmp 68) (y := .tmp 70) (.int .u32 (hi : Int)) (.int .u32 (x : Int)) (.int .u32 (hi2 : Int)) (by kernel_rfl) (by kernel_rfl) (by kernel_rfl) (by kernel_rfl) (by kernel_rfl) (by kernel_rfl) (fun wx ρ hwx h0 h1 hc => max_run rfl rfl ρ wx h0 h1 MX.out) ?_
          refine wpL_move (.int .u32 (al : Int)) rfl (by kernel_rfl) (by kernel_rfl) (by kernel_rfl) (by kernel_rfl) ?_
          refine wpL_run1 (x := .tmp 16) (.pointer (some ⟨bs, 0, none⟩)) (.pointer (some ⟨bs, 2, none⟩)) (by kernel_rfl) (by kernel_rfl) (by kernel_rfl) (by kernel_rfl) (by kernel_rfl) (fun wx ρ hwx h0 hc => by simp [go_sem, h0, hc]) ?_
          refine wpL_run1 (x := .tmp 73) (.pointer (some ⟨bs, 2, none⟩)) (.int .u32 (x : Int)) (by kernel_rfl) (by kernel_rfl) (by kernel_rfl) (by kernel_rfl) (by kernel_rfl) (fun wx ρ hwx h0 hc => by simp [go_sem, h0, hc, CX.out wx hwx]) ?_
          refine wpL_run2 (x := .tmp 72) (y := .tmp 74) (.int .u32 (al : Int)) (.int .u32 (x : Int)) (.int .u32 (al2 : Int)) (by kernel_rfl) (by kernel_rfl) (by kernel_rfl) (by kernel_rfl) (by kernel_rfl) (by kernel_rfl) (fun wx ρ hwx h0 h1 hc => add_u32 rfl al x hal2 hq ρ wx h0 h1) ?_
          refine wpL_assign (.int .u32 (lo2 : Int)) rfl (by kernel_rfl) (by kernel_rfl) (by kernel_rfl) (by kernel_rfl) ?_
          refine wpL_assign (.int .u32 (hi2 : Int)) rfl (by kernel_rfl) (by kernel_rfl) (by kernel_rfl) (by kernel_rfl) ?_
          refine wpL_assign (.int .u32 (al2 : Int)) rfl (by kernel_rfl) (by kernel_rfl) (by kernel_rfl) (by kernel_rfl) ?_
          refine wpL_end (by kernel_rfl) (fun wd hwd => ?_)
          simp only [FinL, setL, List.set_cons_zero, List.set_cons_succ]
          have H6 := Lib.hid ((H5.out.later hwd).erase 0 rfl)
          clear hwd H5 RA MN MX CX hq HW5 HBS
          go_wp2
          go_roundw
          case rel => exact ⟨j + 1, lo2, hi2, al2, by omega, rfl, rfl, rfl, by go_num, INV2.out, H6.out⟩
          case measure => simp [intOf]; omega
        · have hjn2 : j = n := by omega
          rw [hjn2] at INV
          obtain ⟨f1, f2, f3⟩ := inv_end INV.out hn0 hccb HDM.out
          subst f3
          have H6 := Lib.hid (H.out.erase 0 rfl)
          have g1 : ((hi : Int) - (lo : Int)) ≤ 1 := by omega
          have g1d : decide (((hi : Int) - (lo : Int)) ≤ 1) = true := decide_eq_true g1
          have hlo256 : lo ≤ 256 := by omega
          have C3 := Lib.hid (C2.out wr H6.out)
          clear H INV HDM f2 g1 hjn2 C2
          go_wp2_with (fail)
          refine C3.out.mono ?_
          clear C3
          rintro e w7 ⟨a7, k7, rfl, h7⟩
          have B7 := Lib.hid h7.below
          clear h7 H6
          go_wp2
          go_ret
          exact ⟨rfl, B7.out⟩
end Tab
end Go.Proofs.Ytlgfddpgmpabcaa

end
section
namespace Go.Proofs.Ytlgfddpgmpabcaa
open Go.RowKit Go.Own
namespace Tab
open Go.TabM
theorem in_nil (vs : Array Value) (a : ActD) {w : World} (h : inAct a w.heap.size w vs.toList) (K : Kept w) : Calls Try.prog 7 #[.agg vs] w (RetYes w) := by
  have e : vs = (actVs a).toArray := by rw [← h.1]
  rw [e]
  exact walk_nil a K
theorem in_sums (k : Int) (hk : (Lit.int .u8 k).wf = true) (a0 : Option Addr) (len0 cap0 : Nat) (l : List ActD) {w : World} (h : inSlice 2 inAct l w.heap.size w [.slice a0 len0 cap0]) (K : Kept w) : Calls Try.prog 8 #[.int .u8 k, .slice a0 len0 cap0] w (RetYes w) := by
  obtain ⟨c, rfl⟩ := Byt.u8_byte hk
  exact walk_sums c a0 len0 cap0 l h K
theorem in_rises (k : Int) (hk : (Lit.int .u8 k).wf = true) (a0 : Option Addr) (len0 cap0 : Nat) (l : List ActD) {w : World} (h : inSlice 2 inAct l w.heap.size w [.slice a0 len0 cap0]) (K : Kept w) : Calls Try.prog 4 #[.int .u8 k, .slice a0 len0 cap0] w (RetYes w) := by
  obtain ⟨c, rfl⟩ := Byt.u8_byte hk
  exact walk_rises c a0 len0 cap0 l h K
theorem in_worn (k : Int) (hk : (Lit.int .u8 k).wf = true) (m : Int) (hm : (Lit.int .u8 m).wf = true) {w : World} (K : Kept w) : Calls Try.prog 5 #[.int .u8 k, .int .u8 m] w (RetYes w) := by
  obtain ⟨c, rfl⟩ := Byt.u8_byte hk
  obtain ⟨d, rfl⟩ := Byt.u8_byte hm
  exact walk_worn c d K
theorem in_back (k : Int) (hk : (Lit.int .u8 k).wf = true) (a0 : Option Addr) (len0 cap0 : Nat) (l : List ActD) (a1 : Option Addr) (len1 cap1 : Nat) (l' : List ActD) {w : World} (h : inSlice 2 inAct l w.heap.size w [.slice a0 len0 cap0]) (h' : inSlice 2 inAct l' w.heap.size w [.slice a1 len1 cap1]) (K : Kept w) : Calls Try.prog 6 #[.int .u8 k, .slice a0 len0 cap0, .slice a1 len1 cap1] w (RetYes w) := by
  obtain ⟨c, rfl⟩ := Byt.u8_byte hk
  exact walk_back c a0 len0 cap0 l a1 len1 cap1 l' h h' K
end Tab
end Go.Proofs.Ytlgfddpgmpabcaa

end
section
namespace Go.Own
open Go.RowKit
/-- a type of c cells, its zero value -/
structure Boxy (P : Program) (ty : TypeId) (c : Nat) : Prop where
  zero : ∃ z : Array Value, (P.info? ty).bind (·.zero) = some (.agg z) ∧ z.size = c
  size : (P.info? ty).map (·.size) = some c
theorem boxy_of {P : Program} {ty : TypeId} {c : Nat} (z : Array Value) (h : (P.info? ty).bind (·.zero) = some (.agg z)) (hz : z.size = c) (hs : (P.info? ty).map (·.size) = some c) : Boxy P ty c := ⟨⟨z, h, hz⟩, hs⟩
section
variable {P : Program} {B : Nat} {w0 : World} {Ps : List Asn}
/-- var x: its zero value -/
theorem wpList_newZ {ops : Array Oper} {rest : List Oper} {o : Oper} {a : Act} {w : World} {Q : Exit → Act → World → Prop} {ty : TypeId} (z : List Value) (hz : (P.info? ty).bind (·.zero) = some (.agg z.toArray)) (hg : o.guard = none) (ho : o.op = .alloc ty) (H : St B w0 w Ps)
    (h : ∀ b w', St B w0 w' (AVals b ty z :: Ps) → wpList P ops Q rest (a.put o.dst (.pointer (some ⟨b, 0, none⟩))) w') : wpList P ops Q (o :: rest) a w :=
  wpList_allocZ hg ty ho z.toArray hz (h _ _ (H.boxV ty z))
/-- x = value -/
theorem wpList_fill {ops : Array Oper} {rest : List Oper} {o : Oper} {a : Act} {w : World} {Q : Exit → Act → World → Prop} {ty : TypeId} {c b : Nat} (O : Boxy P ty c) (hg : o.guard = none) (x y : Operand) (ho : o.op = .store ty x y) (hd : o.dst = none) (H : St B w0 w Ps) (i : Nat) {vs : List Value} (hi : Ps[i]? = some (AVals b ty vs)) (hv : vs.length = c)
    (cs : List Value) (hx : a.eval x = .pointer (some ⟨b, 0, none⟩)) (hy : a.eval y = .agg cs.toArray) (hc : cs.length = c) (h1 : ∀ u ∈ cs, u.oneCell' = true)
    (h : ∀ w', St B w0 w' (Ps.set i (AVals b ty cs)) → wpList P ops Q rest a w') : wpList P ops Q (o :: rest) a w := by
  have ht : w.there b 0 cs.toArray.size := H.thereV i hi (by rw [List.size_toArray, hc, hv]; exact Nat.le_refl _)
  refine wpList_store_mid hg ty x y ho b 0 cs.toArray hx hy ht (by rw [List.size_toArray, hc]; exact O.size) (all_oneCell_toArray h1) ?_
  have hs := St.setAll i cs 0 w Ps vs H hi (by rw [Nat.zero_add, hc, hv])
  simp only [List.take_zero, List.nil_append] at hs
  rw [hd, List.toList_toArray]
  exact h _ hs
end
end Go.Own

end
