/- What the landed package flash keeps (a premise of the walks: 'Kept'; to be proved of the landed code); does. -/
import Derived.Test.YtepllhfofhehaaaFlaB
import Derived.Test.YtepllhfofhehaaaLaxF
import Derived.Laws.Rows
namespace Go.Proofs.Ytepllhfofhehaaa
open Go.RowKit Go.Own
namespace Fla
open Go.FlaM Byt

def RetYes (w : World) (e : Ending) (w' : World) : Prop := e = .returned (.bool true) ∧ Below w.heap.size w w'
abbrev ptr (p : Nat) : Value := .pointer (some ⟨p, 0, none⟩)
abbrev errV (n : Nat) : Value := .int .i64 (n : Int)
/-- numbers that a call may read: an object of the call's own, or old memory -/
structure LiesI (B : Nat) (w : World) (Ps : List Asn) (ao : Option Addr) (n cap : Nat) (l : List Int) : Prop where
  size : l.length = n
  room : n ≤ cap ∧ cap ≤ maxLen
  nil : ao = none → cap = 0
  ints : ∀ j, j < n → i64B (l.getD j 0)
  where_ : (∃ (j : Nat) (b : Nat), Ps[j]? = some (AVals b 3 (l.map (Value.int .i64))) ∧ ao = some ⟨b, 0, none⟩) ∨ IView w B ao l

structure Kept (W : World) where
  A : Nat → FS → Asn
  new : ∀ {B : Nat} {w0 w : World} {Ps : List Asn} (segs pages : Int), Below W.heap.size W w → Own.St B w0 w Ps → i64B segs → i64B pages →
    Calls Try.prog 12 #[.int .i64 segs, .int .i64 pages] w fun e w' => if mayBe segs pages = true then ∃ p, e = .returned (.tuple #[ptr p, errV 0]) ∧ Own.St B w0 w' (A p (fresh segs.toNat pages.toNat) :: Ps) else e = .returned (.tuple #[.pointer none, errV 1]) ∧ Own.St B w0 w' Ps
  program : ∀ {B : Nat} {w0 w : World} {Ps : List Asn} {p : Nat} {s : FS} {N : Nat} (seg page : Int) (ao : Option Addr) (n cap : Nat) (x : Bs), Below W.heap.size W w → Own.St B w0 w (A p s :: Ps) → Ok s N → N ≤ 10000 → i64B seg → i64B page → Lies B w Ps ao n cap x → n ≤ 20000 →
    Calls Try.prog 18 #[ptr p, .int .i64 seg, .int .i64 page, .slice ao n cap] w fun e w' => e = .returned (errV (progF s seg page x).2) ∧ Own.St B w0 w' (A p (progF s seg page x).1 :: Ps)
  erase : ∀ {B : Nat} {w0 w : World} {Ps : List Asn} {p : Nat} {s : FS} {N : Nat} (seg : Int), Below W.heap.size W w → Own.St B w0 w (A p s :: Ps) → Ok s N → N ≤ 10000 → i64B seg →
    Calls Try.prog 17 #[ptr p, .int .i64 seg] w fun e w' => e = .returned (errV (erase s seg).2) ∧ Own.St B w0 w' (A p (erase s seg).1 :: Ps)
  barrier : ∀ {B : Nat} {w0 w : World} {Ps : List Asn} {p : Nat} {s : FS} {N : Nat}, Below W.heap.size W w → Own.St B w0 w (A p s :: Ps) → Ok s N → N ≤ 10000 →
    Calls Try.prog 25 #[ptr p] w fun e w' => e = .returned (errV (barrier s).2) ∧ Own.St B w0 w' (A p (barrier s).1 :: Ps)
  read : ∀ {B : Nat} {w0 w : World} {Ps : List Asn} {p : Nat} {s : FS} {N : Nat} (seg page : Int), Below W.heap.size W w → Own.St B w0 w (A p s :: Ps) → Ok s N → N ≤ 10000 → i64B seg → i64B page →
    Calls Try.prog 23 #[ptr p, .int .i64 seg, .int .i64 page] w fun e w' => ∃ ao cap, e = .returned (.tuple #[.slice ao (read s seg page).1.length cap, errV (read s seg page).2]) ∧ Own.St B w0 w' (AB ao (read s seg page).1.length cap (read s seg page).1 :: A p s :: Ps)
  cut : ∀ {B : Nat} {w0 w : World} {Ps : List Asn} {p : Nat} {s : FS} {N : Nat} (after : Int), Below W.heap.size W w → Own.St B w0 w (A p s :: Ps) → Ok s N → N ≤ 10000 → i64B after →
    Calls Try.prog 26 #[ptr p, .int .i64 after] w fun e w' => e = .returned (.tuple #[]) ∧ Own.St B w0 w' (A p (cut s after) :: Ps)
  crash : ∀ {B : Nat} {w0 w : World} {Ps : List Asn} {p : Nat} {s : FS} {N : Nat} (ao : Option Addr) (n cap : Nat) (l : List Int), Below W.heap.size W w → Own.St B w0 w (A p s :: Ps) → Ok s N → N ≤ 10000 → LiesI B w Ps ao n cap l →
    Calls Try.prog 16 #[ptr p, .slice ao n cap] w fun e w' => e = .returned (.tuple #[]) ∧ Own.St B w0 w' (A p (crash s l) :: Ps)
  copy : ∀ {B : Nat} {w0 w : World} {Ps : List Asn} {p : Nat} {s : FS} {N : Nat}, Below W.heap.size W w → Own.St B w0 w (A p s :: Ps) → Ok s N → N ≤ 10000 →
    Calls Try.prog 15 #[ptr p] w fun e w' => ∃ q, e = .returned (ptr q) ∧ Own.St B w0 w' (A q s :: A p s :: Ps)
  segs : ∀ {B : Nat} {w0 w : World} {Ps : List Asn} {p : Nat} {s : FS} {N : Nat}, Below W.heap.size W w → Own.St B w0 w (A p s :: Ps) → Ok s N → N ≤ 10000 → Calls Try.prog 30 #[ptr p] w fun e w' => e = .returned (errV s.safe.length) ∧ Below w.heap.size w w'
  pages : ∀ {B : Nat} {w0 w : World} {Ps : List Asn} {p : Nat} {s : FS} {N : Nat}, Below W.heap.size W w → Own.St B w0 w (A p s :: Ps) → Ok s N → N ≤ 10000 → Calls Try.prog 31 #[ptr p] w fun e w' => e = .returned (errV s.pp) ∧ Below w.heap.size w w'
  wear : ∀ {B : Nat} {w0 w : World} {Ps : List Asn} {p : Nat} {s : FS} {N : Nat} (seg : Int), Below W.heap.size W w → Own.St B w0 w (A p s :: Ps) → Ok s N → N ≤ 10000 → i64B seg → Calls Try.prog 28 #[ptr p, .int .i64 seg] w fun e w' => e = .returned (errV (wearOf s seg)) ∧ Below w.heap.size w w'
  dead : ∀ {B : Nat} {w0 w : World} {Ps : List Asn} {p : Nat} {s : FS} {N : Nat}, Below W.heap.size W w → Own.St B w0 w (A p s :: Ps) → Ok s N → N ≤ 10000 → Calls Try.prog 29 #[ptr p] w fun e w' => e = .returned (.bool s.off) ∧ Below w.heap.size w w'
  done : ∀ {B : Nat} {w0 w : World} {Ps : List Asn} {p : Nat} {s : FS} {N : Nat}, Below W.heap.size W w → Own.St B w0 w (A p s :: Ps) → Ok s N → N ≤ 10000 → Calls Try.prog 27 #[ptr p] w fun e w' => e = .returned (errV s.n) ∧ Below w.heap.size w w'
  nilProgram : ∀ (seg page : Int) (v : Value) (w : World), Calls Try.prog 18 #[.pointer none, .int .i64 seg, .int .i64 page, v] w fun e w' => e = .returned (errV 2) ∧ Below w.heap.size w w'
  nilErase : ∀ (seg : Int) (w : World), Calls Try.prog 17 #[.pointer none, .int .i64 seg] w fun e w' => e = .returned (errV 2) ∧ Below w.heap.size w w'
  nilBarrier : ∀ (w : World), Calls Try.prog 25 #[.pointer none] w fun e w' => e = .returned (errV 2) ∧ Below w.heap.size w w'
  nilRead : ∀ (seg page : Int) (w : World), Calls Try.prog 23 #[.pointer none, .int .i64 seg, .int .i64 page] w fun e w' => ∃ ao cap, e = .returned (.tuple #[.slice ao 0 cap, errV 2]) ∧ Below w.heap.size w w'
  nilCut : ∀ (after : Int) (w : World), Calls Try.prog 26 #[.pointer none, .int .i64 after] w fun e w' => e = .returned (.tuple #[]) ∧ Below w.heap.size w w'
  nilCrash : ∀ (v : Value) (w : World), Calls Try.prog 16 #[.pointer none, v] w fun e w' => e = .returned (.tuple #[]) ∧ Below w.heap.size w w'
  nilCopy : ∀ (w : World), Calls Try.prog 15 #[.pointer none] w fun e w' => e = .returned (.pointer none) ∧ Below w.heap.size w w'
  nilSegs : ∀ (w : World), Calls Try.prog 30 #[.pointer none] w fun e w' => e = .returned (errV 0) ∧ Below w.heap.size w w'
  nilPages : ∀ (w : World), Calls Try.prog 31 #[.pointer none] w fun e w' => e = .returned (errV 0) ∧ Below w.heap.size w w'
  nilWear : ∀ (seg : Int) (w : World), Calls Try.prog 28 #[.pointer none, .int .i64 seg] w fun e w' => e = .returned (errV 0) ∧ Below w.heap.size w w'
  nilDead : ∀ (w : World), Calls Try.prog 29 #[.pointer none] w fun e w' => e = .returned (.bool false) ∧ Below w.heap.size w w'
  nilDone : ∀ (w : World), Calls Try.prog 27 #[.pointer none] w fun e w' => e = .returned (errV 0) ∧ Below w.heap.size w w'

/-- an act -/
def doAct (s : FS) (a : ActD) : FS × Nat :=
  match a.kind.toNat % 6 with
  | 0 => progF s a.seg a.page (bytesOf a)
  | 1 => erase s a.seg
  | 2 => barrier s
  | 3 => (cut s a.n, 0)
  | 4 => (crash s a.fates, 0)
  | _ => (s, 0)
theorem ok_act {s : FS} {N : Nat} (h : Ok s N) (a : ActD) (ha : i64B a.n) : Ok (doAct s a).1 (N + 1) := by
  unfold doAct
  split
  · exact ok_program h _ _ _
  · exact ok_erase h _
  · exact ok_barrier h
  · exact (ok_cut h _ ha.2).more (by omega)
  · exact (ok_crash h _).more (by omega)
  · exact h.more (by omega)

/-- what 'bytes' answers, in a slot: its own and new, or as it came in -/
def tyBy (b0 : Nat) (a : ActD) (ab : Option Addr) (cb : Nat) : Ty where
  holds v w := ∃ ao cap, v = .slice ao (bytesOf a).length cap ∧ ((a.b.length ≤ 128 ∧ ∃ T, (AB ao (bytesOf a).length cap (bytesOf a)).holds T w ∧ ∀ k, T k → b0 ≤ k) ∨ (128 < a.b.length ∧ ao = ab ∧ cap = cb))
  keep := fun ⟨ao, cap, h1, h2⟩ g => ⟨ao, cap, h1, h2.imp (fun ⟨h3, T, h4, h5⟩ => ⟨h3, T, (AB _ _ _ _).keep h4 (T := fun _ => False) (U := fun _ => False) ⟨g.os, g.tape, g.output, g.size, fun k hk _ => g.block k hk, fun _ h => h.elim⟩ (fun _ _ h => h), h5⟩) id⟩
theorem bytes_fresh (b0 : Nat) (a : ActD) (ab af : Option Addr) (cb cf : Nat) (w : World) (hb0 : b0 ≤ w.heap.size) (hin : View w (fun k => k < w.heap.size) ab a.b ∧ a.b.length ≤ cb ∧ cb ≤ maxLen ∧ (ab = none → cb = 0)) :
    Calls Try.prog 24 #[.agg (actVs a (.slice ab a.b.length cb) (.slice af a.fates.length cf)).toArray] w fun e w' => ∃ v, e = .returned v ∧ (tyBy b0 a ab cb).holds v w' ∧ Below w.heap.size w w' := by
  refine (bytes_any a ab af cb cf (Own.St.start w) hin).mono ?_
  rintro e w' ⟨ao, cap, he, ⟨h1, h2⟩ | ⟨h1, h2, h3, h4⟩⟩
  · obtain ⟨S, hS, hB, _⟩ := h2.at 0 rfl
    exact ⟨_, he, ⟨ao, cap, rfl, .inl ⟨h1, S, hS, fun k hk => Nat.le_trans hb0 (hB k hk)⟩⟩, h2.below⟩
  · exact ⟨_, he, ⟨ao, cap, rfl, .inr ⟨h1, h2, h3⟩⟩, h4.below⟩
theorem load_actV {o : Oper} {x : Tmp} (ho : o.op = .load 35 (.tmp x)) {W w : World} {b : Nat} {vs : List Value} (hl : vs.length = 7) (hb : W.heap[b]? = some (.cells vs.toArray 35 (0, 0))) (hw : Below W.heap.size W w) (ρ : Operand → Value) (h0 : ρ (.tmp x) = .pointer (some ⟨b, 0, none⟩)) :
    (execOp ρ o).run Try.prog w = .ok (.value (.agg vs.toArray)) w := by
  have hb2 : w.heap[b]? = some (.cells vs.toArray 35 (0, 0)) := (hw.block b (lt_of_block hb)).trans hb
  have hr : w.rangeAt b 0 vs := fun j v hv => by rw [Nat.zero_add]; exact cell_of_block hb2 (by simpa using hv)
  have hi : (Try.prog.info? 35).map (·.size) = some vs.length := by rw [hl]; kernel_rfl
  have := run_loadAt_mid (P := Try.prog) w b 0 35 vs _ hr Try.underlying35 rfl hi
  unfold execOp
  simp only [ho, h0, Sem.run_bind, this, Result.andThen_ok, Sem.run_pure]
end Fla
end Go.Proofs.Ytepllhfofhehaaa
