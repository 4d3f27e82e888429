/- What the landed package back keeps (a premise of the walks: 'Kept'; to be proved of the landed code); does. -/
import Derived.Test.YtkddeccgoamopaaBakA
import Derived.Test.YtkddeccgoamopaaLaxF
import Derived.Laws.Rows
namespace Go.Proofs.Ytkddeccgoamopaa
open Go.RowKit Go.Own
namespace Bak
open Go.BakM Byt

abbrev qtr (p : Nat) : Value := .pointer (some ⟨p, 0, none⟩)
abbrev errW (n : Nat) : Value := .int .i64 (n : Int)
/-- bytes that a call may read: a part of an object of the call's own, or old memory -/
structure LiesB (B : Nat) (w : World) (Ps : List Asn) (ao : Option Addr) (n cap : Nat) (x : Bs) : Prop where
  given : Given w ao n cap x
  where_ : (∃ (j g c k : Nat) (l : Bs), Ps[j]? = some (AB (some ⟨g, 0, none⟩) l.length c l) ∧ ao = some ⟨g, k, none⟩ ∧ x = l.drop k) ∨ View w (fun k => k < B) ao x

structure Kept (W : World) where
  A : Nat → DS → Asn
  new : ∀ {B : Nat} {w0 w : World} {Ps : List Asn} (num : Int), Below W.heap.size W w → Own.St B w0 w Ps → i64A num →
    Calls Try.prog 9 #[.int .i64 num] w fun e w' => if mayBe num = true then ∃ p, e = .returned (.tuple #[qtr p, errW 0]) ∧ Own.St B w0 w' (A p (fresh num.toNat) :: Ps) else e = .returned (.tuple #[.pointer none, errW 1]) ∧ Own.St B w0 w' Ps
  write : ∀ {B : Nat} {w0 w : World} {Ps : List Asn} {p : Nat} {s : DS} {N : Nat} (pos : Int) (ao : Option Addr) (n cap : Nat) (x : Bs), Below W.heap.size W w → Own.St B w0 w (A p s :: Ps) → Ok s N → N ≤ 10000 → i64A pos → LiesB B w Ps ao n cap x → n ≤ 20000 →
    Calls Try.prog 14 #[qtr p, .int .i64 pos, .slice ao n cap] w fun e w' => e = .returned (errW (write s pos x).2) ∧ Own.St B w0 w' (A p (write s pos x).1 :: Ps)
  barrier : ∀ {B : Nat} {w0 w : World} {Ps : List Asn} {p : Nat} {s : DS} {N : Nat}, Below W.heap.size W w → Own.St B w0 w (A p s :: Ps) → Ok s N → N ≤ 10000 →
    Calls Try.prog 32 #[qtr p] w fun e w' => e = .returned (errW (barrier s).2) ∧ Own.St B w0 w' (A p (barrier s).1 :: Ps)
  read : ∀ {B : Nat} {w0 w : World} {Ps : List Asn} {p : Nat} {s : DS} {N : Nat} (pos : Int), Below W.heap.size W w → Own.St B w0 w (A p s :: Ps) → Ok s N → N ≤ 10000 → i64A pos →
    Calls Try.prog 21 #[qtr p, .int .i64 pos] w fun e w' => ∃ ao cap, e = .returned (.tuple #[.slice ao (BakM.read s pos).1.length cap, errW (BakM.read s pos).2]) ∧ Own.St B w0 w' (AB ao (BakM.read s pos).1.length cap (BakM.read s pos).1 :: A p s :: Ps)
  cut : ∀ {B : Nat} {w0 w : World} {Ps : List Asn} {p : Nat} {s : DS} {N : Nat} (after : Int), Below W.heap.size W w → Own.St B w0 w (A p s :: Ps) → Ok s N → N ≤ 10000 → i64A after →
    Calls Try.prog 23 #[qtr p, .int .i64 after] w fun e w' => e = .returned (.tuple #[]) ∧ Own.St B w0 w' (A p (cut s after) :: Ps)
  crash : ∀ {B : Nat} {w0 w : World} {Ps : List Asn} {p : Nat} {s : DS} {N : Nat} (t : Nat), Below W.heap.size W w → Own.St B w0 w (A p s :: Ps) → Ok s N → N ≤ 10000 → t ≤ 18446744073709551615 →
    Calls Try.prog 13 #[qtr p, .int .u64 (t : Int)] w fun e w' => e = .returned (.tuple #[]) ∧ Own.St B w0 w' (A p (crash s t) :: Ps)
  copy : ∀ {B : Nat} {w0 w : World} {Ps : List Asn} {p : Nat} {s : DS} {N : Nat}, Below W.heap.size W w → Own.St B w0 w (A p s :: Ps) → Ok s N → N ≤ 10000 →
    Calls Try.prog 12 #[qtr p] w fun e w' => ∃ q, e = .returned (qtr q) ∧ Own.St B w0 w' (A q s :: A p s :: Ps)
  blocks : ∀ {B : Nat} {w0 w : World} {Ps : List Asn} {p : Nat} {s : DS} {N : Nat}, Below W.heap.size W w → Own.St B w0 w (A p s :: Ps) → Ok s N → N ≤ 10000 → Calls Try.prog 18 #[qtr p] w fun e w' => e = .returned (errW s.safe.length) ∧ Below w.heap.size w w'
  dead : ∀ {B : Nat} {w0 w : World} {Ps : List Asn} {p : Nat} {s : DS} {N : Nat}, Below W.heap.size W w → Own.St B w0 w (A p s :: Ps) → Ok s N → N ≤ 10000 → Calls Try.prog 19 #[qtr p] w fun e w' => e = .returned (.bool s.off) ∧ Below w.heap.size w w'
  done : ∀ {B : Nat} {w0 w : World} {Ps : List Asn} {p : Nat} {s : DS} {N : Nat}, Below W.heap.size W w → Own.St B w0 w (A p s :: Ps) → Ok s N → N ≤ 10000 → Calls Try.prog 20 #[qtr p] w fun e w' => e = .returned (errW s.n) ∧ Below w.heap.size w w'
  nilWrite : ∀ (pos : Int) (v : Value) (w : World), Calls Try.prog 14 #[.pointer none, .int .i64 pos, v] w fun e w' => e = .returned (errW 2) ∧ Below w.heap.size w w'
  nilBarrier : ∀ (w : World), Calls Try.prog 32 #[.pointer none] w fun e w' => e = .returned (errW 2) ∧ Below w.heap.size w w'
  nilRead : ∀ (pos : Int) (w : World), Calls Try.prog 21 #[.pointer none, .int .i64 pos] w fun e w' => ∃ ao cap, e = .returned (.tuple #[.slice ao 0 cap, errW 2]) ∧ Below w.heap.size w w'
  nilCut : ∀ (after : Int) (w : World), Calls Try.prog 23 #[.pointer none, .int .i64 after] w fun e w' => e = .returned (.tuple #[]) ∧ Below w.heap.size w w'
  nilCrash : ∀ (v : Value) (w : World), Calls Try.prog 13 #[.pointer none, v] w fun e w' => e = .returned (.tuple #[]) ∧ Below w.heap.size w w'
  nilCopy : ∀ (w : World), Calls Try.prog 12 #[.pointer none] w fun e w' => e = .returned (.pointer none) ∧ Below w.heap.size w w'
  nilBlocks : ∀ (w : World), Calls Try.prog 18 #[.pointer none] w fun e w' => e = .returned (errW 0) ∧ Below w.heap.size w w'
  nilDead : ∀ (w : World), Calls Try.prog 19 #[.pointer none] w fun e w' => e = .returned (.bool false) ∧ Below w.heap.size w w'
  nilDone : ∀ (w : World), Calls Try.prog 20 #[.pointer none] w fun e w' => e = .returned (errW 0) ∧ Below w.heap.size w w'

/-- an act -/
def doAct (s : DS) (a : ActD) : DS × Nat :=
  match a.kind.toNat % 5 with
  | 0 => write s a.pos (bytesOf a)
  | 1 => barrier s
  | 2 => (cut s a.n, 0)
  | 3 => (crash s a.there, 0)
  | _ => (s, 0)
theorem ok_act {s : DS} {N : Nat} (h : Ok s N) (a : ActD) (ha : i64A a.n) : Ok (doAct s a).1 (N + 1) := by
  unfold doAct
  split
  · exact ok_write h _ _
  · exact ok_barrier h
  · exact (ok_cut h _ ha.2).more (by omega)
  · exact (ok_crash h _).more (by omega)
  · exact h.more (by omega)

/-- what 'block' and 'bytes' answer, in a slot: a new block's bytes, from k on -/
def tyBl (b0 : Nat) (c : UInt8) (k : Nat) : Ty where
  holds v w := ∃ g, v = .slice (some ⟨g, k, none⟩) (256 - k) (256 - k) ∧ ∃ T, (AB (some ⟨g, 0, none⟩) 256 256 (List.replicate 256 c)).holds T w ∧ ∀ j, T j → b0 ≤ j
  keep := fun ⟨g0, h1, T, h4, h5⟩ g => ⟨g0, h1, T, (AB _ _ _ _).keep h4 (T := fun _ => False) (U := fun _ => False) ⟨g.os, g.tape, g.output, g.size, fun k hk _ => g.block k hk, fun _ h => h.elim⟩ (fun _ _ h => h), h5⟩
theorem bytes_fresh (b0 : Nat) (a : ActD) (w : World) (hb0 : b0 ≤ w.heap.size) :
    Calls Try.prog 24 #[.agg (actVs a).toArray] w fun e w' => ∃ v, e = .returned v ∧ (tyBl b0 a.c (gapOf a)).holds v w' ∧ Below w.heap.size w w' := by
  refine (bytes_any a (Own.St.start w)).mono ?_
  rintro e w' ⟨g, he, h2⟩
  obtain ⟨S, hS, hB, _⟩ := h2.at 0 rfl
  exact ⟨_, he, ⟨g, rfl, S, hS, fun k hk => Nat.le_trans hb0 (hB k hk)⟩, h2.below⟩
theorem block_fresh (b0 : Nat) (c : UInt8) (w : World) (hb0 : b0 ≤ w.heap.size) :
    Calls Try.prog 15 #[.int .u8 (c.toNat : Int)] w fun e w' => ∃ v, e = .returned v ∧ (tyBl b0 c 0).holds v w' ∧ Below w.heap.size w w' := by
  refine (block_any c (Own.St.start w)).mono ?_
  rintro e w' ⟨g, he, h2⟩
  obtain ⟨S, hS, hB, _⟩ := h2.at 0 rfl
  exact ⟨_, he, ⟨g, rfl, S, hS, fun k hk => Nat.le_trans hb0 (hB k hk)⟩, h2.below⟩
theorem load_actV {o : Oper} {x : Tmp} (ho : o.op = .load 34 (.tmp x)) {W w : World} {b : Nat} {vs : List Value} (hl : vs.length = 6) (hb : W.heap[b]? = some (.cells vs.toArray 34 (0, 0))) (hw : Below W.heap.size W w) (ρ : Operand → Value) (h0 : ρ (.tmp x) = .pointer (some ⟨b, 0, none⟩)) :
    (execOp ρ o).run Try.prog w = .ok (.value (.agg vs.toArray)) w := by
  have hb2 : w.heap[b]? = some (.cells vs.toArray 34 (0, 0)) := (hw.block b (lt_of_block hb)).trans hb
  have hr : w.rangeAt b 0 vs := fun j v hv => by rw [Nat.zero_add]; exact cell_of_block hb2 (by simpa using hv)
  have hi : (Try.prog.info? 34).map (·.size) = some vs.length := by rw [hl]; kernel_rfl
  have := run_loadAt_mid (P := Try.prog) w b 0 34 vs _ hr Try.underlying34 rfl hi
  unfold execOp
  simp only [ho, h0, Sem.run_bind, this, Result.andThen_ok, Sem.run_pure]
/-- a part of a block of one's own may be read -/
theorem lies_part {B : Nat} {w0 w : World} {P : Asn} {Ps : List Asn} {g k : Nat} {c : UInt8} (H : Own.St B w0 w (P :: AB (some ⟨g, 0, none⟩) 256 256 (List.replicate 256 c) :: Ps)) (hk : k ≤ 256) :
    LiesB B w (AB (some ⟨g, 0, none⟩) 256 256 (List.replicate 256 c) :: Ps) (some ⟨g, k, none⟩) (256 - k) (256 - k) (List.replicate (256 - k) c) := by
  have e : List.replicate (256 - k) c = (List.replicate 256 c).drop k := by rw [List.drop_replicate]
  refine ⟨⟨?_, by simp, ⟨Nat.le_refl _, by unfold maxLen; omega⟩, fun h => by cases h⟩, .inl ⟨0, g, 256, k, List.replicate 256 c, by rw [List.length_replicate]; rfl, rfl, e⟩⟩
  rw [e]
  have hv := (given_own H 1 rfl).view
  rcases hv with h | ⟨b, o, e1, h1, h2, h3⟩
  · have hh := congrArg List.length h
    rw [List.length_replicate] at hh
    exact absurd hh (by decide)
  · cases e1
    rcases Nat.lt_or_ge k 256 with hk2 | hk2
    · refine .inr ⟨g, k, rfl, h1, h2, fun j hj => ?_⟩
      rw [List.length_drop, List.length_replicate] at hj
      have := h3 (k + j) (by rw [List.length_replicate]; omega)
      rw [Nat.zero_add] at this
      rw [this]
      have e3 : ∀ m, m < 256 → (List.replicate 256 c).getD m 0 = c := fun m hm => by rw [List.getD_eq_getElem?_getD, List.getElem?_replicate, if_pos hm]; rfl
      rw [e3 _ (by omega), ← e, List.getD_eq_getElem?_getD, List.getElem?_replicate, if_pos hj]; rfl
    · left
      rw [List.drop_eq_nil_iff, List.length_replicate]; exact hk2

section
variable {W : World} (K : Kept W)
set_option maxHeartbeats 4000000 in
theorem does_any {B : Nat} {w0 w : World} {Ps : List Asn} {p : Nat} {s : DS} {N : Nat} (a : ActD) (hW : Below W.heap.size W w) (H : Own.St B w0 w (K.A p s :: Ps)) (ok : Ok s N) (hN : N ≤ 10000) (hf : a.Fits) :
    Calls Try.prog 16 #[qtr p, .agg (actVs a).toArray] w fun e w' => e = .returned (errW (doAct s a).2) ∧ Own.St B w0 w' (K.A p (doAct s a).1 :: Ps) := by
  obtain ⟨vs, hvs⟩ : ∃ vs, vs = actVs a := ⟨_, rfl⟩
  rw [← hvs]
  have VL : Hid (vs.length = 6) := by rw [hvs]; exact rfl
  obtain ⟨b, hbd⟩ : ∃ b, b = w.heap.size := ⟨_, rfl⟩
  obtain ⟨w1, hw1⟩ : ∃ w1, w1 = w.alloc (.cells vs.toArray 34) := ⟨_, rfl⟩
  have hbox := H.boxV 34 vs
  rw [← hbd, ← hw1] at hbox
  have H1 := Lib.hid hbox.swap2
  have g1 : Below w.heap.size w w1 := by rw [hw1]; exact ((Own.St.start w).alloc _).below
  have HW1 := Lib.hid (hW.trans (g1.mono hW.size))
  have hcl : ∀ j v, vs[j]? = some v → ∀ wx, Below w1.heap.size w1 wx → wx.cell? ⟨b, j, none⟩ = some v := fun j v hv wx hwx => cellLater (hbox.cellV 0 rfl j hv).1 hwx
  have C0 := hcl 0 (.int .u8 (a.kind.toNat : Int)) (by rw [hvs]; rfl) w1 (Below.refl _ _)
  have C1 := Lib.hid (hcl 1 (.int .i64 a.pos) (by rw [hvs]; rfl))
  have C2 := Lib.hid (hcl 2 (.int .i64 a.n) (by rw [hvs]; rfl))
  have C5 := Lib.hid (hcl 5 (.int .u64 (a.there : Int)) (by rw [hvs]; rfl))
  have BLK : Hid (w1.heap[b]? = some (.cells vs.toArray 34 (0, 0))) := hbox.rowV 0 rfl
  have CB : Hid (∀ wx, Below w1.heap.size w1 wx → Calls Try.prog 24 #[.agg vs.toArray] wx fun e w' => ∃ v, e = .returned v ∧ (tyBl w1.heap.size a.c (gapOf a)).holds v w' ∧ Below wx.heap.size wx w') := by
    intro wx hwx
    rw [hvs]
    exact bytes_fresh w1.heap.size a wx hwx.size
  have POS := Lib.hid hf.pos
  have NB := Lib.hid hf.n
  have TB := Lib.hid hf.there
  have OKS := Lib.hid ok
  obtain ⟨r, hr⟩ : ∃ r, r = a.kind.toNat % 5 := ⟨_, rfl⟩
  have hr5 : r < 5 := by omega
  have hri : (a.kind.toNat : Int) % 5 = (r : Int) := by omega
  have hkb : a.kind.toNat < 256 := a.kind.toNat_lt
  have HR := Lib.hid hr.symm
  clear hcl ok hr hbox hW H g1 hvs hf
  match r, hr5 with
  | 0, _ =>
    have hri0 : (a.kind.toNat : Int) % 5 = 0 := hri
    have HD : Hid (doAct s a = write s a.pos (bytesOf a)) := by
      show doAct s a = _
      unfold doAct
      rw [HR.out]
      rfl
    rw [HD.out]
    clear hri HD HR
    go_enter Try.func16, Try.ntmps16
    rw [hw1, hbd] at C0
    go_wp2_with (fail)
    rw [← hw1, ← hbd]
    clear C0 hw1 hbd
    refine wp_laxW_list 5 (by kernel_rfl) (by kernel_rfl) (by kernel_rfl) (by kernel_rfl) (by kernel_rfl) ?_
    simp only [List.take_succ_cons, List.take_zero, List.drop_succ_cons, List.drop_zero]
    refine wpL_move (qtr p) rfl (by kernel_rfl) (by kernel_rfl) (by kernel_rfl) (by kernel_rfl) ?_
    refine wpL_run1 (x := .tmp 3) (.pointer (some ⟨b, 0, none⟩)) (.pointer (some ⟨b, 1, none⟩)) (by kernel_rfl) (by kernel_rfl) (by kernel_rfl) (by kernel_rfl) (by kernel_rfl) (fun wx ρ hwx h0 hc => by simp [go_sem, h0, hc]) ?_
    refine wpL_run1 (x := .tmp 11) (.pointer (some ⟨b, 1, none⟩)) (.int .i64 a.pos) (by kernel_rfl) (by kernel_rfl) (by kernel_rfl) (by kernel_rfl) (by kernel_rfl) (fun wx ρ hwx h0 hc => by simp [go_sem, h0, hc, C1.out wx hwx]) ?_
    refine wpL_run1 (x := .tmp 3) (.pointer (some ⟨b, 0, none⟩)) (.agg vs.toArray) (by kernel_rfl) (by kernel_rfl) (by kernel_rfl) (by kernel_rfl) (by kernel_rfl) (fun wx ρ hwx h0 hc => load_actV rfl VL.out BLK.out hwx ρ h0) ?_
    refine wpL_fnT (tyBl w1.heap.size a.c (gapOf a)) [.agg vs.toArray] rfl rfl (by kernel_rfl) (by kernel_rfl) (by kernel_rfl) (by kernel_rfl) (fun _ _ => by simp [go_sem]) (fun wx hwx => CB.out wx hwx) ?_
    refine wpL_end (by kernel_rfl) (fun wd hwd => ?_)
    simp only [FinL, setL, List.set_cons_zero, List.set_cons_succ]
    intro v hv _
    have HWD := Lib.hid (HW1.out.trans (hwd.mono HW1.out.size))
    obtain ⟨g, rfl, T, h2, h3⟩ := hv
    obtain ⟨k, hk⟩ : ∃ k, k = gapOf a := ⟨_, rfl⟩
    have hk1 : k ≤ 1 := by rw [hk]; exact gap_le a
    have hby : bytesOf a = List.replicate (256 - k) a.c := by rw [hk]; rfl
    rw [← hk]
    have H3 := (H1.out.adopt hwd (AB (some ⟨g, 0, none⟩) 256 256 (List.replicate 256 a.c)) h2 h3).swap2
    have PR : Hid (Calls Try.prog 14 #[qtr p, .int .i64 a.pos, .slice (some ⟨g, k, none⟩) (256 - k) (256 - k)] wd fun e w' => e = .returned (errW (write s a.pos (bytesOf a)).2) ∧ Own.St B w0 w' (K.A p (write s a.pos (bytesOf a)).1 :: Ps)) := by
      refine (K.write a.pos (some ⟨g, k, none⟩) (256 - k) (256 - k) (bytesOf a) HWD.out H3 OKS.out hN POS.out (by rw [hby]; exact lies_part H3 (by omega)) (by omega)).mono ?_
      rintro e w' ⟨he, h4⟩
      exact ⟨he, h4.drop2.drop2⟩
    obtain ⟨m, hm⟩ : ∃ m, m = 256 - k := ⟨_, rfl⟩
    rw [← hm] at PR ⊢
    clear hwd HWD hby hk hm H3 h2 h3
    go_wp2_with (fail)
    refine PR.out.mono ?_
    rintro e w2 ⟨rfl, h2⟩
    have H9 := Lib.hid h2
    clear h2 PR
    go_wp2
    go_ret
    exact ⟨rfl, H9.out⟩
  | 1, _ =>
    have hri0 : (a.kind.toNat : Int) % 5 = 1 := hri
    have HD : Hid (doAct s a = barrier s) := by
      show doAct s a = _
      unfold doAct
      rw [HR.out]
      rfl
    rw [HD.out]
    clear hri HD HR
    go_enter Try.func16, Try.ntmps16
    rw [hw1, hbd] at C0
    go_wp2_with (fail)
    rw [← hw1]
    clear C0 hw1 hbd
    refine (K.barrier HW1.out H1.out OKS.out hN).mono ?_
    rintro e w2 ⟨rfl, h2⟩
    have H9 := Lib.hid h2.drop2
    clear h2
    go_wp2
    go_ret
    exact ⟨rfl, H9.out⟩
  | 2, _ =>
    have hri0 : (a.kind.toNat : Int) % 5 = 2 := hri
    have HD : Hid (doAct s a = (cut s a.n, 0)) := by
      show doAct s a = _
      unfold doAct
      rw [HR.out]
      rfl
    rw [HD.out]
    clear hri HD HR
    have D := C2.out w1 (Below.refl _ _)
    go_enter Try.func16, Try.ntmps16
    rw [hw1, hbd] at C0 D
    go_wp2_with (fail)
    rw [← hw1]
    clear C0 hw1 hbd D
    refine (K.cut a.n HW1.out H1.out OKS.out hN NB.out).mono ?_
    rintro e w2 ⟨rfl, h2⟩
    have H9 := Lib.hid h2.drop2
    clear h2
    go_wp2
    go_ret
    exact ⟨rfl, H9.out⟩
  | 3, _ =>
    have hri0 : (a.kind.toNat : Int) % 5 = 3 := hri
    have HD : Hid (doAct s a = (crash s a.there, 0)) := by
      show doAct s a = _
      unfold doAct
      rw [HR.out]
      rfl
    rw [HD.out]
    clear hri HD HR
    have D := C5.out w1 (Below.refl _ _)
    go_enter Try.func16, Try.ntmps16
    rw [hw1, hbd] at C0 D
    go_wp2_with (fail)
    rw [← hw1]
    clear C0 hw1 hbd D
    refine (K.crash a.there HW1.out H1.out OKS.out hN TB.out).mono ?_
    rintro e w2 ⟨rfl, h2⟩
    have H9 := Lib.hid h2.drop2
    clear h2
    go_wp2
    go_ret
    exact ⟨rfl, H9.out⟩
  | 4, _ =>
    have hri0 : (a.kind.toNat : Int) % 5 = 4 := hri
    have HD : Hid (doAct s a = (s, 0)) := by
      show doAct s a = _
      unfold doAct
      rw [HR.out]
      rfl
    rw [HD.out]
    clear hri HD HR
    go_enter Try.func16, Try.ntmps16
    rw [hw1, hbd] at C0
    go_wp2_with (fail)
    go_ret
    rw [← hw1]
    exact ⟨rfl, H1.out.drop2⟩
end
end Bak
end Go.Proofs.Ytkddeccgoamopaa
