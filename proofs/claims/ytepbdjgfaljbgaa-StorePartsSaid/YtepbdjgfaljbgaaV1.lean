/- Merged: StoM Own Heap Obj Arr Str In Byt Gri Giv RecM Lax Cpy ArrEq -/
import Derived.WalkKit
import Derived.Deep.RegionLaw
import Derived.Deep.Draws
import Derived.Deep.MidRow
import Derived.Laws.Rows
import Derived.Lib.SlBytesRow
import Derived.Lib.Strings
import Derived.Deep.Slices
import Derived.OpenShut
import Derived.Test.YtepbdjgfaljbgaaRows
import Derived.OwnWalk
import Derived.Still
import Derived.Laws.IdiomCopy
import Derived.Laws.StructEq
import Derived.Laws.Cover2
set_option linter.unusedVariables false
section
namespace Go.StoM
structure Ky where
  sum : List UInt8
  n : Nat
  deriving DecidableEq
structure Pl where
  seg : Int
  page : Int
  pages : Int
  deriving DecidableEq
structure Ch where
  key : Ky
  place : Pl
  refs : Int
  deriving DecidableEq
def zCh : Ch := ⟨⟨[], 0⟩, ⟨0, 0, 0⟩, 0⟩
/-- which of two lists of bytes stands ahead -/
def ltB : List UInt8 → List UInt8 → Bool
  | _, [] => false
  | [], _ :: _ => true
  | x :: l, y :: m => decide (x.toNat < y.toNat) || (decide (x.toNat = y.toNat) && ltB l m)
/-- does a key stand ahead of another one? -/
def lessK (a b : Ky) : Bool := ltB a.sum b.sum || (decide (a.sum = b.sum) && decide (a.n < b.n))
/-- where a key stands, or would -/
def posK (k : Ky) : List Ch → Nat
  | [] => 0
  | c :: l => if lessK c.key k then posK k l + 1 else 0
def isAt (l : List Ch) (k : Ky) : Bool := match l[posK k l]? with | none => false | some c => decide (c.key = k)
def putAt (l : List Ch) (i : Nat) (c : Ch) : List Ch := l.take i ++ c :: l.drop i
/-- the place of a store's chunks: what an act leaves, what it answers (gone, error) -/
def addS (l : List Ch) (k : Ky) (p : Pl) : List Ch × Nat := if isAt l k then (l, 3) else (putAt l (posK k l) ⟨k, p, 1⟩, 0)
def atS (l : List Ch) (k : Ky) : Ch := l.getD (posK k l) zCh
def refS (l : List Ch) (k : Ky) : List Ch × Nat := if isAt l k then (l.set (posK k l) { atS l k with refs := (atS l k).refs + 1 }, 0) else (l, 2)
def unrefS (l : List Ch) (k : Ky) : List Ch × Bool × Nat :=
  if isAt l k then (if (atS l k).refs - 1 > 0 then (l.set (posK k l) { atS l k with refs := (atS l k).refs - 1 }, false, 0) else (l.eraseIdx (posK k l), true, 0)) else (l, false, 2)
def moveS (l : List Ch) (k : Ky) (p : Pl) : List Ch × Nat := if isAt l k then (l.set (posK k l) { atS l k with place := p }, 0) else (l, 2)
structure ActD where
  kind : UInt8
  k : Ky
  p : Pl
def doAct (l : List Ch) (a : ActD) : List Ch × Bool × Nat :=
  match a.kind.toNat % 4 with
  | 0 => ((addS l a.k a.p).1, false, (addS l a.k a.p).2)
  | 1 => ((refS l a.k).1, false, (refS l a.k).2)
  | 2 => unrefS l a.k
  | _ => ((moveS l a.k a.p).1, false, (moveS l a.k a.p).2)
def twins (l : List Ch) (d : List UInt8) : List Ch := l.filter fun c => decide (c.key.sum = d)
/-- how many of a part come ahead of a page -/
def aheadP (pg : Int) : List Ch → Nat
  | [] => 0
  | c :: l => if c.place.page ≤ pg then aheadP pg l + 1 else 0
def liveF (seg : Int) : List Ch → List Ch → List Ch
  | acc, [] => acc
  | acc, c :: l => liveF seg (if c.place.seg = seg then putAt acc (aheadP c.place.page acc) c else acc) l
def live (seg : Int) (l : List Ch) : List Ch := liveF seg [] l

/-! ### the order of keys -/
theorem ltB_irrefl : ∀ l : List UInt8, ltB l l = false
  | [] => rfl
  | x :: l => by simp [ltB, ltB_irrefl l]
theorem ltB_trans : ∀ a b c : List UInt8, ltB a b = true → ltB b c = true → ltB a c = true
  | _, [], _, h, _ => by cases ‹List UInt8› <;> simp [ltB] at h
  | _, _ :: _, [], _, h => by simp [ltB] at h
  | [], _ :: _, _ :: _, _, _ => rfl
  | x :: a, y :: b, z :: c, h1, h2 => by
    simp only [ltB, Bool.or_eq_true, Bool.and_eq_true, decide_eq_true_eq] at h1 h2 ⊢
    rcases h1 with h1 | ⟨h1, h1'⟩ <;> rcases h2 with h2 | ⟨h2, h2'⟩
    · exact .inl (by omega)
    · exact .inl (by omega)
    · exact .inl (by omega)
    · exact .inr ⟨by omega, ltB_trans a b c h1' h2'⟩
theorem ltB_total : ∀ a b : List UInt8, ltB a b = true ∨ a = b ∨ ltB b a = true
  | [], [] => .inr (.inl rfl)
  | [], _ :: _ => .inl rfl
  | _ :: _, [] => .inr (.inr rfl)
  | x :: a, y :: b => by
    simp only [ltB, Bool.or_eq_true, Bool.and_eq_true, decide_eq_true_eq, List.cons.injEq]
    rcases Nat.lt_trichotomy x.toNat y.toNat with h | h | h
    · exact .inl (.inl h)
    · rcases ltB_total a b with h2 | h2 | h2
      · exact .inl (.inr ⟨h, h2⟩)
      · exact .inr (.inl ⟨UInt8.toNat_inj.1 h, h2⟩)
      · exact .inr (.inr (.inr ⟨h.symm, h2⟩))
    · exact .inr (.inr (.inl h))
theorem less_irrefl (k : Ky) : lessK k k = false := by simp [lessK, ltB_irrefl]
theorem less_trans {a b c : Ky} (h1 : lessK a b = true) (h2 : lessK b c = true) : lessK a c = true := by
  simp only [lessK, Bool.or_eq_true, Bool.and_eq_true, decide_eq_true_eq] at h1 h2 ⊢
  rcases h1 with h1 | ⟨h1, h1'⟩ <;> rcases h2 with h2 | ⟨h2, h2'⟩
  · exact .inl (ltB_trans _ _ _ h1 h2)
  · exact .inl (h2 ▸ h1)
  · exact .inl (h1 ▸ h2)
  · exact .inr ⟨h1.trans h2, by omega⟩
theorem less_total (a b : Ky) : lessK a b = true ∨ a = b ∨ lessK b a = true := by
  simp only [lessK, Bool.or_eq_true, Bool.and_eq_true, decide_eq_true_eq]
  rcases ltB_total a.sum b.sum with h | h | h
  · exact .inl (.inl h)
  · rcases Nat.lt_trichotomy a.n b.n with h2 | h2 | h2
    · exact .inl (.inr ⟨h, h2⟩)
    · exact .inr (.inl (by cases a; cases b; simp only at h h2; rw [h, h2]))
    · exact .inr (.inr (.inr ⟨h.symm, h2⟩))
  · exact .inr (.inr (.inl h))
/-- the chunks stand in order, each key once -/
def Sorted (l : List Ch) : Prop := l.Pairwise fun a b => lessK a.key b.key = true
theorem pos_le (k : Ky) : ∀ l : List Ch, posK k l ≤ l.length
  | [] => Nat.le_refl _
  | c :: l => by
    unfold posK
    split
    · have := pos_le k l; simp; omega
    · exact Nat.zero_le _
/-- ahead of its place all are less, from there on none is -/
theorem pos_ahead (k : Ky) : ∀ (l : List Ch) (i : Nat) (c : Ch), l[i]? = some c → i < posK k l → lessK c.key k = true
  | [], _, _, h, _ => by cases h
  | d :: l, i, c, h, hi => by
    unfold posK at hi
    by_cases hd : lessK d.key k = true
    · rw [if_pos hd] at hi
      cases i with
      | zero => cases h; exact hd
      | succ i => exact pos_ahead k l i c h (by omega)
    · rw [if_neg hd] at hi; omega
theorem pos_behind (k : Ky) : ∀ (l : List Ch), Sorted l → ∀ (i : Nat) (c : Ch), l[i]? = some c → posK k l ≤ i → lessK c.key k = false
  | [], _, _, _, h, _ => by cases h
  | d :: l, hs, i, c, h, hi => by
    have hs' := List.pairwise_cons.1 hs
    unfold posK at hi
    by_cases hd : lessK d.key k = true
    · rw [if_pos hd] at hi
      cases i with
      | zero => omega
      | succ i => exact pos_behind k l hs'.2 i c h (by omega)
    · have hdf : lessK d.key k = false := by simpa using hd
      cases i with
      | zero => cases h; exact hdf
      | succ i =>
        have hm : c ∈ l := List.mem_of_getElem? h
        have := hs'.1 c hm
        cases hck : lessK c.key k
        · rfl
        · exact absurd (less_trans this hck) (by rw [hdf]; simp)
theorem sorted_set {l : List Ch} (hs : Sorted l) {i : Nat} {c : Ch} (d : Ch) (hi : l[i]? = some c) (hk : d.key = c.key) : Sorted (l.set i d) := by
  unfold Sorted at *
  rw [List.pairwise_iff_getElem] at hs ⊢
  obtain ⟨hil, hic⟩ := List.getElem?_eq_some_iff.1 hi
  have hkey : ∀ j (hj : j < l.length), ((l.set i d)[j]'(by simpa using hj)).key = l[j].key := by
    intro j hj
    rw [List.getElem_set]
    split
    · rename_i e; subst e; rw [hk, hic]
    · rfl
  intro a b ha hb hab
  rw [hkey a (by simpa using ha), hkey b (by simpa using hb)]
  exact hs a b _ _ hab
theorem sorted_put {l : List Ch} (hs : Sorted l) (c : Ch) (hno : isAt l c.key = false) : Sorted (putAt l (posK c.key l) c) := by
  unfold putAt Sorted
  rw [List.pairwise_append, List.pairwise_cons]
  refine ⟨hs.sublist (List.take_sublist _ _), ⟨fun d hd => ?_, hs.sublist (List.drop_sublist _ _)⟩, fun a ha d hd => ?_⟩
  · obtain ⟨j, hj, e⟩ := List.getElem_of_mem hd
    have hjl : posK c.key l + j < l.length := by rw [List.length_drop] at hj; omega
    rw [List.getElem_drop] at e
    have h1 : l[posK c.key l + j]? = some d := by rw [List.getElem?_eq_getElem hjl, e]
    have h2 := pos_behind c.key l hs _ d h1 (Nat.le_add_right _ _)
    rcases less_total c.key d.key with h | h | h
    · exact h
    · -- the same key: it would stand at its place
      exfalso
      have hp : posK c.key l < l.length := by omega
      have h0 := List.getElem?_eq_getElem hp
      have hj0 : j = 0 := by
        rcases Nat.eq_zero_or_pos j with hz | hz
        · exact hz
        · exfalso
          have hh := (List.pairwise_iff_getElem.1 hs) (posK c.key l) (posK c.key l + j) hp hjl (by omega)
          rw [e, ← h] at hh
          have := pos_behind c.key l hs _ _ h0 (Nat.le_refl _)
          rw [this] at hh
          cases hh
      subst hj0
      unfold isAt at hno
      rw [Nat.add_zero] at h1
      rw [h1] at hno
      simp [h] at hno
    · rw [h2] at h; cases h
  · have haS : lessK a.key c.key = true := by
      obtain ⟨j, hj, e⟩ := List.getElem_of_mem ha
      rw [List.length_take] at hj
      rw [List.getElem_take] at e
      exact pos_ahead c.key l j a (by rw [List.getElem?_eq_getElem (by omega), e]) (by omega)
    rcases List.mem_cons.1 hd with rfl | hd
    · exact haS
    · have hdd : d ∈ l := List.mem_of_mem_drop hd
      obtain ⟨i, hi, ei⟩ := List.getElem_of_mem ha
      obtain ⟨j, hj, ej⟩ := List.getElem_of_mem hd
      rw [List.length_take] at hi
      rw [List.length_drop] at hj
      rw [List.getElem_take] at ei
      rw [List.getElem_drop] at ej
      have := (List.pairwise_iff_getElem.1 hs) i (posK c.key l + j) (by omega) (by omega) (by omega)
      rwa [ei, ej] at this
theorem at_some {l : List Ch} {k : Ky} (h : isAt l k = true) : posK k l < l.length ∧ l[posK k l]? = some (atS l k) ∧ (atS l k).key = k := by
  unfold isAt at h
  cases hc : l[posK k l]? with
  | none => rw [hc] at h; cases h
  | some c =>
    rw [hc] at h
    have e : atS l k = c := by unfold atS; rw [List.getD_eq_getElem?_getD, hc]; rfl
    exact ⟨(List.getElem?_eq_some_iff.1 hc).1, by rw [e], by rw [e]; simpa using h⟩
end Go.StoM

end
section
namespace Go.Own
open Go.RowKit

/-- From w to w' only blocks of S have turned among those that were there; T (what the object holds now) is S and new blocks. -/
structure Step (S T : Nat → Prop) (w w' : World) : Prop where
  os : w'.os = w.os
  tape : w'.tape = w.tape
  output : w'.output = w.output
  size : w.heap.size ≤ w'.heap.size
  block : ∀ k, k < w.heap.size → ¬ S k → w'.heap[k]? = w.heap[k]?
  new : ∀ k, T k → S k ∨ w.heap.size ≤ k

theorem Step.refl (S : Nat → Prop) (w : World) : Step S S w w := ⟨rfl, rfl, rfl, Nat.le_refl _, fun _ _ _ => rfl, fun _ h => Or.inl h⟩

theorem Step.trans {S T U : Nat → Prop} {w w1 w2 : World} (h : Step S T w w1) (g : Step T U w1 w2) : Step S U w w2 :=
  ⟨g.os.trans h.os, g.tape.trans h.tape, g.output.trans h.output, Nat.le_trans h.size g.size,
   fun k hk hs => (g.block k (Nat.lt_of_lt_of_le hk h.size) (fun ht => (h.new k ht).elim hs (fun h1 => absurd h1 (by omega)))).trans (h.block k hk hs),
   fun k hu => (g.new k hu).elim (fun h1 => h.new k h1) (fun h1 => Or.inr (Nat.le_trans h.size h1))⟩

theorem Step.drewN {S T : Nat → Prop} {w w' : World} (h : Step S T w w') (n : Nat) : Step S T w (w'.drewN n) := ⟨h.os, h.tape, h.output, h.size, h.block, h.new⟩
theorem Step.drew {S T : Nat → Prop} {w w' : World} (h : Step S T w w') : Step S T w w'.drew := ⟨h.os, h.tape, h.output, h.size, h.block, h.new⟩

/-- A store into one of the object's own blocks. -/
theorem Step.setCell {S T : Nat → Prop} {w w' : World} (h : Step S T w w') {a : Addr} (ha : S a.block ∨ w.heap.size ≤ a.block) (u : Value) : Step S T w (w'.setCell a u) :=
  ⟨h.os, h.tape, h.output, by simpa using h.size, fun k hk hs => by
    have hne : k ≠ a.block := by
      intro e; subst e
      exact ha.elim hs (fun h1 => absurd h1 (by omega))
    rw [Below.heap_setCell _ _ _ _ hne]; exact h.block k hk hs, h.new⟩

/-- A new block, the object's or nobody's. -/
theorem Step.alloc {S T : Nat → Prop} {w w' : World} (h : Step S T w w') (o : Obj) : Step S T w (w'.alloc o) :=
  ⟨h.os, h.tape, h.output, by have := h.size; simp; omega, fun k hk hs => by
    rw [Below.heap_alloc _ _ _ (by have := h.size; omega)]; exact h.block k hk hs, h.new⟩

/-- What the object holds may be said otherwise. -/
theorem Step.to {S T U : Nat → Prop} {w w' : World} (h : Step S T w w') (hu : ∀ k, U k → S k ∨ w.heap.size ≤ k) : Step S U w w' := ⟨h.os, h.tape, h.output, h.size, h.block, hu⟩

/-- Behind an append onto a row of the object's own. -/
theorem Step.grown {S T : Nat → Prop} {w w1 w' : World} {row : Option Nat} (h : Step S T w w1) (hg : w1.grownBy w' row) (hr : ∀ k, row = some k → S k ∨ w.heap.size ≤ k) : Step S T w w' :=
  ⟨hg.os.trans h.os, hg.tape.trans h.tape, hg.output.trans h.output, Nat.le_trans h.size hg.size,
   fun k hk hs => (hg.block k (by have := h.size; omega) (fun e => (hr k e.symm).elim hs (fun h1 => absurd h1 (by omega)))).trans (h.block k hk hs), h.new⟩

theorem Step.below {S T : Nat → Prop} {w w' : World} (h : Step S T w w') {B : Nat} (hB : B ≤ w.heap.size) (hS : ∀ k, S k → B ≤ k) : Below B w w' :=
  ⟨h.os, h.tape, h.output, h.size, fun k hk => h.block k (by omega) (fun hs => by have := hS k hs; omega)⟩

def Dis (S T : Nat → Prop) : Prop := ∀ k, S k → ¬ T k

theorem cell_of_block {w : World} {b i : Nat} {c : Array Value} {t : TypeId} {fz : Nat × Nat} {v : Value} (h : w.heap[b]? = some (.cells c t fz)) (hv : c[i]? = some v) : w.cell? ⟨b, i, none⟩ = some v := by
  simp [World.cell?, h, hv]

theorem frozen_of_block {w : World} {b i : Nat} {c : Array Value} {t : TypeId} (h : w.heap[b]? = some (.cells c t (0, 0))) : w.frozen? ⟨b, i, none⟩ = false := by
  simp [World.frozen?, h]

theorem lt_of_block {w : World} {b : Nat} {o : Obj} (h : w.heap[b]? = some o) : b < w.heap.size := (Array.getElem?_eq_some_iff.1 h).1

theorem block_setCell {w : World} {b i : Nat} {c : Array Value} {t : TypeId} {fz : Nat × Nat} (h : w.heap[b]? = some (.cells c t fz)) (u : Value) :
    (w.setCell ⟨b, i, none⟩ u).heap[b]? = some (.cells (c.setIfInBounds i u) t fz) := by
  simp [World.setCell, Array.getElem?_modify, h]

def byteV (c : UInt8) : Value := .int .u8 (c.toNat : Int)
theorem byteV_one (l : List UInt8) : ∀ u ∈ l.map byteV, u.oneCell' = true := by
  intro u hu; obtain ⟨c, _, rfl⟩ := List.mem_map.1 hu; rfl

/-- A row of an object's own: n elements (size cells each) in the cells xs; T: the block that holds them, if there is one. -/
structure Row (w : World) (e : TypeId) (size : Nat) (T : Nat → Prop) (v : Value) (n : Nat) (xs : List Value) : Prop where
  own : w.ownsRow 0 e size v n xs
  set : ∀ k, T k ↔ v.ownBlock = some k

section
variable {w w' : World} {e : TypeId} {size : Nat} {S T U : Nat → Prop} {v : Value} {n : Nat} {xs : List Value}

theorem Row.nil (w : World) (e : TypeId) (size : Nat) : Row w e size (fun _ => False) (.slice none 0 0) 0 [] := ⟨World.ownsRow_nil w 0 e size, fun k => by simp [Value.ownBlock]⟩

theorem Row.form (h : Row w e size T v n xs) : ∃ ao cap, v = .slice ao n cap ∧ n ≤ cap ∧ cap ≤ maxLen ∧ (ao = none → n = 0 ∧ cap = 0 ∧ xs = []) ∧ ∀ a, ao = some a → ∃ g, a = ⟨g, 0, none⟩ ∧ T g := by
  have hs := h.set
  have hx := h.own.1
  rcases h.own.2 with ⟨rfl, rfl⟩ | ⟨g, cap, cur, rfl, _, _, h1, h2, _⟩
  · exact ⟨none, 0, rfl, Nat.le_refl _, by unfold maxLen; omega, fun _ => ⟨rfl, rfl, List.eq_nil_of_length_eq_zero (by simpa using hx)⟩, fun a h => by cases h⟩
  · exact ⟨_, cap, rfl, h1, h2, fun h => by (cases h), fun a ha => ⟨g, by cases ha; rfl, (hs g).2 rfl⟩⟩

theorem Row.lt (h : Row w e size T v n xs) : ∀ k, T k → k < w.heap.size := fun k hk => (h.own.lt k ((h.set k).1 hk)).2

/-- What others turn turns no row of mine. -/
theorem Row.step (h : Row w e size T v n xs) (g : Step S U w w') (hd : Dis T S) : Row w' e size T v n xs := by
  refine ⟨⟨h.own.1, ?_⟩, h.set⟩
  rcases h.own.2 with h1 | ⟨b, cap, cur, rfl, h0, hb, r⟩
  · exact .inl h1
  · exact .inr ⟨b, cap, cur, rfl, h0, (g.block b (lt_of_block hb) (hd b ((h.set b).2 rfl))).trans hb, r⟩

theorem Row.alloc (h : Row w e size T v n xs) (o : Obj) : Row (w.alloc o) e size T v n xs := ⟨h.own.alloc o, h.set⟩
theorem Row.drew (h : Row w e size T v n xs) : Row w.drew e size T v n xs := ⟨h.own.drew, h.set⟩

theorem Row.cells {b cap : Nat} (h : Row w e size T (.slice (some ⟨b, 0, none⟩) n cap) n xs) (j : Nat) (hj : j < n * size) : w.cell? ⟨b, j, none⟩ = xs[j]? := h.own.cellAt j hj
end

/-- append ONTO A ROW OF ONE's OWN: the row that comes is the old one's block or a new one. -/
theorem run_append_row {P : Program} (w : World) (t ty e : TypeId) (i : TypeInfo) (z : Value) (size bytes : Nat) (ht : P.underlying t = some (.slice e)) (hi : P.info? e = some i) (hz : i.zero = some z)
    (hsize : i.size = size) (hby : i.bytes = bytes) (hzs : z.cells.size = size) (hsz : 0 < size)
    {T : Nat → Prop} (v : Value) (n : Nat) (xs : List Value) (hrow : Row w e size T v n xs)
    (ao : Option Addr) (m c : Nat) (news : List Value) (hno : ao = none → m = 0 ∧ c = 0) (hl : news.length = m * size) (hnews : ∀ a, ao = some a → ∀ j u, news[j]? = some u → w.cell? (a.add j) = some u) (h1 : ∀ u ∈ news, u.oneCell' = true)
    (h63 : n + m ≤ maxLen) (hbytes : (n + m) * bytes ≤ 140737488355328) :
    ∃ v' w' T', (Builtin.append_ #[t, t] ty #[v, .slice ao m c]).run P w = .ok v' w' ∧ Row w' e size T' v' (n + m) (xs ++ news) ∧ Step T T' w w' := by
  cases ao with
  | none =>
    obtain ⟨rfl, rfl⟩ := hno rfl
    obtain rfl : news = [] := List.eq_nil_of_length_eq_zero (by simpa using hl)
    exact ⟨v, w, T, run_append_owned_none (P := P) w 0 t ty e i size ht hi v n xs hrow.own, by simpa using hrow, Step.refl _ _⟩
  | some a =>
    rcases hrow.own.2 with ⟨rfl, rfl⟩ | ⟨g, cap, cur, rfl, hbg, hg, hnc, hcm, hcs, htake⟩
    · obtain rfl : xs = [] := List.eq_nil_of_length_eq_zero (by simpa using hrow.own.1)
      obtain ⟨v', w', hr, r1, r2, _⟩ := run_append_own (P := P) w w.heap.size t ty e i z size bytes ht hi hz hsize hby hzs hsz _ 0 [] (World.ownsRow_nil w _ e size) a m c news hl (hnews a rfl) h1 h63 hbytes (Nat.le_refl _)
      have hlt := r1.lt
      refine ⟨v', w', fun k => v'.ownBlock = some k, hr, ⟨⟨r1.1, ?_⟩, fun _ => Iff.rfl⟩, ⟨r2.os, r2.tape, r2.output, r2.size, fun k hk _ => r2.block k hk (by simp [Value.ownBlock]), fun k hk => .inr (hlt k hk).1⟩⟩
      rcases r1.2 with h | ⟨g, cap, cur, h⟩
      · exact .inl h
      · exact .inr ⟨g, cap, cur, h.1, Nat.zero_le _, h.2.2⟩
    · by_cases hroom : n + m ≤ cap
      · obtain ⟨w', hr, r1, r2⟩ := run_append_fits (P := P) w 0 t ty e i size ht hi hsize g n cap xs hrow.own a m c news hl (hnews a rfl) h1 hroom
        exact ⟨_, w', T, hr, ⟨r1, fun k => by rw [hrow.set k]; simp [Value.ownBlock]⟩, ⟨r2.os, r2.tape, r2.output, r2.size, fun k hk hT => r2.block k hk (fun e => hT ((hrow.set k).2 (by simpa [Value.ownBlock] using e.symm))), fun k hk => .inl hk⟩⟩
      · have holds : ∀ j u, xs[j]? = some u → w.cell? ((⟨g, 0, none⟩ : Addr).add j) = some u := hrow.own.cells (g := g) rfl
        obtain ⟨v', w', hr, r1, r2⟩ := run_append_arg_grows (P := P) w t ty e i z size bytes ht hi hz hsize hby hzs hsz ⟨g, 0, none⟩ n cap xs hrow.own.1 holds a m c news hl (hnews a rfl) (by omega) h63 hbytes
        have hlt := r1.lt
        refine ⟨v', w', fun k => v'.ownBlock = some k, hr, ⟨⟨r1.1, ?_⟩, fun _ => Iff.rfl⟩, ⟨r2.os, r2.tape, r2.output, r2.size, fun k hk _ => r2.block k hk (by simp), fun k hk => .inr (hlt k hk).1⟩⟩
        rcases r1.2 with h | ⟨g, cap, cur, h⟩
        · exact .inl h
        · exact .inr ⟨g, cap, cur, h.1, Nat.zero_le _, h.2.2⟩

/-- A slice value in the region S of memory reads as these bytes. -/
def View (w : World) (S : Nat → Prop) (ao : Option Addr) (l : List UInt8) : Prop :=
  l = [] ∨ ∃ b o, ao = some ⟨b, o, none⟩ ∧ S b ∧ b < w.heap.size ∧ ∀ j, j < l.length → w.cell? ⟨b, o + j, none⟩ = some (.int .u8 ((l.getD j 0).toNat : Int))

theorem View.step {w w' : World} {S T U : Nat → Prop} {ao : Option Addr} {l : List UInt8} (h : View w S ao l) (g : Step T U w w') (hd : Dis S T) : View w' S ao l := by
  rcases h with h | ⟨b, o, e, hS, hb, hc⟩
  · exact .inl h
  · exact .inr ⟨b, o, e, hS, Nat.lt_of_lt_of_le hb g.size, fun j hj => (World.cell?_of_block (w := w) (g.block b hb (hd b hS))).trans (hc j hj)⟩

theorem View.live {w : World} {D : Nat → Prop} {ao : Option Addr} {l : List UInt8} (h : View w D ao l) : View w (fun k => D k ∧ k < w.heap.size) ao l := by
  rcases h with h | ⟨b, o, e, hS, hb, hc⟩
  · exact .inl h
  · exact .inr ⟨b, o, e, ⟨hS, hb⟩, hb, hc⟩

theorem Dis.step {D S T : Nat → Prop} {w w' : World} (hd : Dis D S) (hs : Step S T w w') : Dis (fun k => D k ∧ k < w.heap.size) T :=
  fun k hk ht => (hs.new k ht).elim (hd k hk.1) (fun h => absurd hk.2 (by omega))

theorem Dis.symm {S T : Nat → Prop} (h : Dis S T) : Dis T S := fun k ht hs => h k hs ht

/-- two objects stay apart when one of them grows -/
theorem Dis.grow {S T U : Nat → Prop} {w w' : World} (hd : Dis S U) (hu : ∀ k, U k → k < w.heap.size) (hs : Step S T w w') : Dis T U :=
  fun k ht hk => (hs.new k ht).elim (fun h => hd k h hk) (fun h => absurd (hu k hk) (by omega))

/-- all that an object holds lies from B on -/
theorem Step.from {S T : Nat → Prop} {w w' : World} {B : Nat} (hs : Step S T w w') (h : ∀ k, S k → B ≤ k) (hB : B ≤ w.heap.size) : ∀ k, T k → B ≤ k :=
  fun k ht => (hs.new k ht).elim (h k) (fun g => Nat.le_trans hB g)

theorem Row.view {w : World} {e : TypeId} {T : Nat → Prop} {ao : Option Addr} {n cap : Nat} {l : List UInt8} (h : Row w e 1 T (.slice ao n cap) n (l.map byteV)) : View w T ao l := by
  have hl : l.length = n := by simpa using h.own.1
  obtain ⟨ao', cap', hv, _, _, h0, h1⟩ := h.form
  simp only [Value.slice.injEq, true_and] at hv
  obtain ⟨rfl, rfl⟩ := hv
  cases ao with
  | none => have := (h0 rfl).1; exact .inl (List.eq_nil_of_length_eq_zero (by omega))
  | some a =>
    obtain ⟨g, rfl, hT⟩ := h1 a rfl
    refine .inr ⟨g, 0, rfl, hT, h.lt g hT, fun j hj => ?_⟩
    rw [Nat.zero_add, h.cells j (by rw [Nat.mul_one]; omega)]
    simp [byteV, hj]

end Go.Own

end
section
namespace Go.Own
open Go.RowKit

/-- an object: what is so of it, given the blocks that it holds; what others turn does not touch it -/
structure Asn where
  holds : (Nat → Prop) → World → Prop
  keep : ∀ {S T U : Nat → Prop} {w w' : World}, holds S w → Step T U w w' → Dis S T → holds S w'
  lt : ∀ {S : Nat → Prop} {w : World}, holds S w → ∀ k, S k → k < w.heap.size

/-- the objects lie apart, and hold the blocks S together -/
def Apart (w : World) : List Asn → (Nat → Prop) → Prop
  | [], S => ∀ k, ¬ S k
  | P :: Ps, S => ∃ S1 S2, P.holds S1 w ∧ Apart w Ps S2 ∧ Dis S1 S2 ∧ ∀ k, S k ↔ (S1 k ∨ S2 k)

theorem Apart.lt {w : World} : ∀ {Ps : List Asn} {S : Nat → Prop}, Apart w Ps S → ∀ k, S k → k < w.heap.size
  | [], _, h, k, hk => absurd hk (h k)
  | P :: _, _, ⟨_, _, h1, h2, _, h4⟩, k, hk => ((h4 k).1 hk).elim (P.lt h1 k) (fun h => h2.lt k h)

theorem Apart.keep {w w' : World} {T U : Nat → Prop} (g : Step T U w w') : ∀ {Ps : List Asn} {S : Nat → Prop}, Apart w Ps S → Dis S T → Apart w' Ps S
  | [], _, h, _ => h
  | P :: _, _, ⟨S1, S2, h1, h2, h3, h4⟩, hd => ⟨S1, S2, P.keep h1 g (fun k hk => hd k ((h4 k).2 (.inl hk))), h2.keep g (fun k hk => hd k ((h4 k).2 (.inr hk))), h3, h4⟩

/-- one of them is looked at, turned into something else, and put back -/
theorem Apart.at {w : World} : ∀ {Ps : List Asn} {S : Nat → Prop} (i : Nat) {P : Asn}, Apart w Ps S → Ps[i]? = some P →
    ∃ Si, P.holds Si w ∧ (∀ k, Si k → S k) ∧ (∀ (j : Nat) (R : Asn), j ≠ i → Ps[j]? = some R → ∃ Sj, R.holds Sj w ∧ Dis Sj Si) ∧
      ∀ (S' : Nat → Prop) (w' : World) (Q : Asn), Q.holds S' w' → Step Si S' w w' → ∃ S'', Apart w' (Ps.set i Q) S'' ∧ (∀ k, S'' k → S k ∨ S' k)
  | [], _, i, _, _, hi => by simp at hi
  | P :: Ps, S, 0, P', ⟨S1, S2, h1, h2, h3, h4⟩, hi => by
    obtain rfl : P = P' := by simpa using hi
    refine ⟨S1, h1, fun k hk => (h4 k).2 (.inl hk), fun j R hj hR => ?_, fun S' w' Q hQ hs => ⟨fun k => S' k ∨ S2 k, ⟨S', S2, hQ, h2.keep hs h3.symm, h3.grow h2.lt hs, fun k => Iff.rfl⟩, fun k hk => hk.elim .inr (fun h => .inl ((h4 k).2 (.inr h)))⟩⟩
    match j, hj with
    | j + 1, _ =>
      obtain ⟨Sj, g1, g2, _⟩ := h2.at j (by simpa using hR)
      exact ⟨Sj, g1, fun k hk hk' => h3 k hk' (g2 k hk)⟩
  | P :: Ps, S, i + 1, P', ⟨S1, S2, h1, h2, h3, h4⟩, hi => by
    obtain ⟨Si, g1, g2, g4, g3⟩ := h2.at i (by simpa using hi)
    refine ⟨Si, g1, fun k hk => (h4 k).2 (.inr (g2 k hk)), fun j R hj hR => ?_, fun S' w' Q hQ hs => ?_⟩
    · match j, hj with
      | 0, _ =>
        obtain rfl : P = R := by simpa using hR
        exact ⟨S1, h1, fun k hk hk' => h3 k hk (g2 k hk')⟩
      | j + 1, hj => exact g4 j R (by omega) (by simpa using hR)
    obtain ⟨S'', k1, k2⟩ := g3 S' w' Q hQ hs
    have hd : Dis S1 Si := fun k hk hk' => h3 k hk (g2 k hk')
    have hd' : Dis S1 S' := (hd.symm.grow (P.lt h1) hs).symm
    exact ⟨fun k => S1 k ∨ S'' k, ⟨S1, S'', P.keep h1 hs hd, k1, fun k hk hk' => (k2 k hk').elim (h3 k hk) (hd' k hk), fun k => Iff.rfl⟩, fun k hk => hk.elim (fun h => .inl ((h4 k).2 (.inl h))) (fun h => (k2 k h).imp (fun g => (h4 k).2 (.inr g)) id)⟩

/-- THE STATE OF A CALL: since w0 nothing below B has turned; these objects lie apart, from B on. -/
structure St (B : Nat) (w0 w : World) (Ps : List Asn) : Prop where
  below : Below B w0 w
  size : B ≤ w.heap.size
  own : ∃ S, Apart w Ps S ∧ ∀ k, S k → B ≤ k

theorem St.start (w : World) : St w.heap.size w w [] := ⟨Below.refl _ _, Nat.le_refl _, fun _ => False, fun _ h => h, fun _ h => h.elim⟩

section
variable {B : Nat} {w0 w w' : World} {Ps : List Asn}

theorem St.at (h : St B w0 w Ps) (i : Nat) {P : Asn} (hi : Ps[i]? = some P) :
    ∃ Si, P.holds Si w ∧ (∀ k, Si k → B ≤ k) ∧ ∀ (S' : Nat → Prop) (w' : World) (Q : Asn), Q.holds S' w' → Step Si S' w w' → St B w0 w' (Ps.set i Q) := by
  obtain ⟨hb, hs, S, ha, hB⟩ := h
  obtain ⟨Si, g1, g2, _, g3⟩ := ha.at i hi
  refine ⟨Si, g1, fun k hk => hB k (g2 k hk), fun S' w' Q hQ hst => ?_⟩
  obtain ⟨S'', k1, k2⟩ := g3 S' w' Q hQ hst
  exact ⟨hb.trans (hst.below hs (fun k hk => hB k (g2 k hk))), Nat.le_trans hs hst.size, S'', k1, fun k hk => (k2 k hk).elim (hB k) (fun g => (hst.new k g).elim (fun g => hB k (g2 k g)) (Nat.le_trans hs))⟩

/-- one of them has turned, and something new is there -/
theorem St.more (h : St B w0 w Ps) (i : Nat) {P : Asn} (hi : Ps[i]? = some P) :
    ∃ Si, P.holds Si w ∧ ∀ (S' T' : Nat → Prop) (w' : World) (Q R : Asn), Q.holds S' w' → R.holds T' w' → Step Si S' w w' → (∀ k, T' k → w.heap.size ≤ k) → (∀ k, S' k → k < w.heap.size) → St B w0 w' (R :: Ps.set i Q) := by
  obtain ⟨hb, hs, S, ha, hB⟩ := h
  obtain ⟨Si, g1, g2, _, g3⟩ := ha.at i hi
  refine ⟨Si, g1, fun S' T' w' Q R hQ hR hst hT hS' => ?_⟩
  obtain ⟨S'', k1, k2⟩ := g3 S' w' Q hQ hst
  refine ⟨hb.trans (hst.below hs (fun k hk => hB k (g2 k hk))), Nat.le_trans hs hst.size, fun k => T' k ∨ S'' k, ⟨T', S'', hR, k1, fun k ht hk => ?_, fun k => Iff.rfl⟩, fun k hk => ?_⟩
  · have := hT k ht
    exact (k2 k hk).elim (fun g => by have := ha.lt k g; omega) (fun g => by have := hS' k g; omega)
  · exact hk.elim (fun g => Nat.le_trans hs (hT k g)) (fun g => (k2 k g).elim (hB k) (fun g => (hst.new k g).elim (fun g => hB k (g2 k g)) (Nat.le_trans hs)))

/-- something new -/
theorem St.new (h : St B w0 w Ps) {S' : Nat → Prop} (Q : Asn) (hQ : Q.holds S' w') (hst : Step (fun _ => False) S' w w') : St B w0 w' (Q :: Ps) := by
  obtain ⟨hb, hs, S, ha, hB⟩ := h
  refine ⟨hb.trans (hst.below hs (fun _ h => h.elim)), Nat.le_trans hs hst.size, fun k => S' k ∨ S k, ⟨S', S, hQ, ha.keep hst (fun _ _ h => h), fun k h1 h2 => (hst.new k h1).elim (fun h => h) (fun h => by have := ha.lt k h2; omega), fun k => Iff.rfl⟩, fun k hk => hk.elim (fun h => (hst.new k h).elim (fun h => h.elim) (Nat.le_trans hs)) (hB k)⟩

/-- nothing that is held has turned -/
theorem St.quiet (h : St B w0 w Ps) {T : Nat → Prop} (hst : Step (fun _ => False) T w w') : St B w0 w' Ps := by
  obtain ⟨hb, hs, S, ha, hB⟩ := h
  exact ⟨hb.trans (hst.below hs (fun _ h => h.elim)), Nat.le_trans hs hst.size, S, ha.keep hst (fun _ _ h => h), hB⟩

theorem St.alloc (h : St B w0 w Ps) (o : Obj) : St B w0 (w.alloc o) Ps := h.quiet ((Step.refl (fun _ => False) w).alloc o)
theorem St.drew (h : St B w0 w Ps) : St B w0 w.drew Ps := h.quiet ((Step.refl (fun _ => False) w).drew)
theorem St.drewN (h : St B w0 w Ps) (n : Nat) : St B w0 (w.drewN n) Ps := h.quiet ((Step.refl (fun _ => False) w).drewN n)

/-- something is let go -/
theorem Apart.drop {w : World} : ∀ {Ps : List Asn} {S : Nat → Prop} (n : Nat), Apart w Ps S → ∃ S', Apart w (Ps.drop n) S' ∧ ∀ k, S' k → S k
  | Ps, S, 0, h => ⟨S, by simpa using h, fun _ h => h⟩
  | [], S, n + 1, h => ⟨S, by simpa using h, fun _ h => h⟩
  | _ :: _, _, n + 1, ⟨_, _, _, h2, _, h4⟩ => by
    obtain ⟨S', g1, g2⟩ := h2.drop n
    exact ⟨S', by simpa using g1, fun k hk => (h4 k).2 (.inr (g2 k hk))⟩
theorem St.drop (h : St B w0 w Ps) (n : Nat) : St B w0 w (Ps.drop n) := by
  obtain ⟨hb, hs, S, ha, hB⟩ := h
  obtain ⟨S', g1, g2⟩ := ha.drop n
  exact ⟨hb, hs, S', g1, fun k hk => hB k (g2 k hk)⟩

end

/-- old memory reads as it did -/
theorem View.below {w w' : World} {B : Nat} {ao : Option Addr} {l : List UInt8} (h : View w (fun k => k < B) ao l) (g : Below B w w') : View w' (fun k => k < B) ao l := by
  rcases h with h | ⟨b, o, e, hS, hb, hc⟩
  · exact .inl h
  · exact .inr ⟨b, o, e, hS, Nat.lt_of_lt_of_le hb g.size, fun j hj => (World.cell?_of_block (w := w) (g.block b hS)).trans (hc j hj)⟩

theorem View.same {w w' : World} {B : Nat} {ao : Option Addr} {l : List UInt8} (h : View w (fun k => k < B) ao l) (g : ∀ k, k < B → w'.heap[k]? = w.heap[k]?) : View w' (fun k => k < B) ao l := by
  rcases h with h | ⟨b, o, e, hS, hb, hc⟩
  · exact .inl h
  · refine .inr ⟨b, o, e, hS, ?_, fun j hj => (World.cell?_of_block (w := w) (g b hS)).trans (hc j hj)⟩
    have := g b hS
    rw [Array.getElem?_eq_getElem hb] at this
    exact (Array.getElem?_eq_some_iff.1 this).1

theorem View.mono {w : World} {D D' : Nat → Prop} {ao : Option Addr} {l : List UInt8} (h : View w D ao l) (hd : ∀ k, D k → D' k) : View w D' ao l := by
  rcases h with h | ⟨b, o, e, hS, hb, hc⟩
  · exact .inl h
  · exact .inr ⟨b, o, e, hd b hS, hb, hc⟩

/-- a row as an object -/
def ARow (e : TypeId) (size : Nat) (v : Value) (n : Nat) (xs : List Value) : Asn where
  holds S w := Row w e size S v n xs
  keep h g hd := h.step g hd
  lt h := h.lt

/-- a block of one's own, known whole -/
def ABlk (b : Nat) (o : Obj) : Asn where
  holds S w := w.heap[b]? = some o ∧ ∀ k, S k ↔ k = b
  keep h g hd := ⟨(g.block _ (lt_of_block h.1) (hd _ ((h.2 _).2 rfl))).trans h.1, h.2⟩
  lt h k hk := by rw [(h.2 k).1 hk]; exact lt_of_block h.1

theorem St.block {B : Nat} {w0 w : World} {Ps : List Asn} (h : St B w0 w Ps) (i : Nat) {b : Nat} {o : Obj} (hi : Ps[i]? = some (ABlk b o)) : w.heap[b]? = some o := by
  obtain ⟨S, hS, _⟩ := h.at i hi
  exact hS.1

theorem St.box {B : Nat} {w0 w : World} {Ps : List Asn} (h : St B w0 w Ps) (o : Obj) : St B w0 (w.alloc o) (ABlk w.heap.size o :: Ps) :=
  h.new (S' := fun k => k = w.heap.size) (ABlk w.heap.size o) ⟨heap_alloc_new w o, fun _ => Iff.rfl⟩ (((Step.refl (fun _ => False) w).alloc o).to (fun k hk => Or.inr (Nat.le_of_eq hk.symm)))

end Go.Own

end
section
namespace Go.Own
open Go.RowKit

theorem Apart.iff {w : World} : ∀ {Ps : List Asn} {S T : Nat → Prop}, Apart w Ps S → (∀ k, S k ↔ T k) → Apart w Ps T
  | [], _, _, h, e => fun k hk => h k ((e k).2 hk)
  | _ :: _, _, _, ⟨S1, S2, h1, h2, h3, h4⟩, e => ⟨S1, S2, h1, h2, h3, fun k => (e k).symm.trans (h4 k)⟩
theorem Apart.append {w : World} : ∀ {Ps Qs : List Asn} {S T : Nat → Prop}, Apart w Ps S → Apart w Qs T → Dis S T → Apart w (Ps ++ Qs) (fun k => S k ∨ T k)
  | [], Qs, S, T, h, g, _ => g.iff fun k => ⟨.inr, fun x => x.elim (fun y => (h k y).elim) id⟩
  | P :: Ps, Qs, S, T, ⟨S1, S2, h1, h2, h3, h4⟩, g, hd => ⟨S1, fun k => S2 k ∨ T k, h1, Apart.append h2 g (fun k hk => hd k ((h4 k).2 (.inr hk))), fun k hk hk' => hk'.elim (h3 k hk) (hd k ((h4 k).2 (.inl hk))), fun k => by show (S k ∨ T k) ↔ (S1 k ∨ S2 k ∨ T k); rw [h4 k, or_assoc]⟩
theorem Apart.split {w : World} : ∀ {Ps Qs : List Asn} {S : Nat → Prop}, Apart w (Ps ++ Qs) S → ∃ S1 S2, Apart w Ps S1 ∧ Apart w Qs S2 ∧ Dis S1 S2 ∧ ∀ k, S k ↔ (S1 k ∨ S2 k)
  | [], Qs, S, h => ⟨fun _ => False, S, fun _ h => h, h, fun _ h => h.elim, fun k => ⟨.inr, fun x => x.elim (fun y => y.elim) id⟩⟩
  | P :: Ps, Qs, S, ⟨S1, S2, h1, h2, h3, h4⟩ => by
    obtain ⟨T1, T2, g1, g2, g3, g4⟩ := Apart.split h2
    exact ⟨fun k => S1 k ∨ T1 k, T2, ⟨S1, T1, h1, g1, fun k hk hk' => h3 k hk ((g4 k).2 (.inl hk')), fun k => Iff.rfl⟩, g2, fun k hk hk' => hk.elim (fun x => h3 k x ((g4 k).2 (.inr hk'))) (fun x => g3 k x hk'), fun k => by rw [h4 k, g4 k, or_assoc]⟩

theorem Apart.perm {w : World} {Ps Qs : List Asn} (h : Ps.Perm Qs) : ∀ {S : Nat → Prop}, Apart w Ps S → Apart w Qs S := by
  induction h with
  | nil => exact fun h => h
  | cons x _ ih => rintro S ⟨S1, S2, h1, h2, h3, h4⟩; exact ⟨S1, S2, h1, ih h2, h3, h4⟩
  | swap x y l =>
    rintro S ⟨S1, S2, h1, ⟨T1, T2, g1, g2, g3, g4⟩, h3, h4⟩
    refine ⟨T1, fun k => S1 k ∨ T2 k, g1, ⟨S1, T2, h1, g2, fun k a b => h3 k a ((g4 k).2 (.inr b)), fun k => Iff.rfl⟩, fun k a b => b.elim (fun c => h3 k c ((g4 k).2 (.inl a))) (g3 k a), fun k => ?_⟩
    rw [h4 k, g4 k]
    constructor
    · rintro (a | a | a)
      · exact .inr (.inl a)
      · exact .inl a
      · exact .inr (.inr a)
    · rintro (a | a | a)
      · exact .inr (.inl a)
      · exact .inl a
      · exact .inr (.inr a)
  | trans _ _ ih1 ih2 => exact fun h => ih2 (ih1 h)

/-- an object made of objects -/
def AJoin (Qs : List Asn) : Asn := ⟨fun S w => Apart w Qs S, fun h g hd => h.keep g hd, fun h => h.lt⟩

section
variable {B : Nat} {w0 w w' : World} {Ps Qs : List Asn}
theorem St.perm (h : St B w0 w Ps) (e : Ps.Perm Qs) : St B w0 w Qs := by
  obtain ⟨hb, hs, S, ha, hB⟩ := h
  exact ⟨hb, hs, S, ha.perm e, hB⟩
theorem St.openJ (h : St B w0 w (AJoin Qs :: Ps)) : St B w0 w (Qs ++ Ps) := by
  obtain ⟨hb, hs, S, ⟨S1, S2, h1, h2, h3, h4⟩, hB⟩ := h
  exact ⟨hb, hs, _, Apart.append h1 h2 h3, fun k hk => hB k ((h4 k).2 hk)⟩
theorem St.closeJ (h : St B w0 w (Qs ++ Ps)) : St B w0 w (AJoin Qs :: Ps) := by
  obtain ⟨hb, hs, S, ha, hB⟩ := h
  obtain ⟨S1, S2, h1, h2, h3, h4⟩ := ha.split
  exact ⟨hb, hs, S, ⟨S1, S2, h1, h2, h3, h4⟩, hB⟩
end
end Go.Own

end
section
namespace Go.Own
open Go.RowKit

/-- a block of one's own with these cells -/
def AVals (b : Nat) (t : TypeId) (vs : List Value) : Asn := ABlk b (.cells vs.toArray t (0, 0))

section
variable {B : Nat} {w0 w : World} {Ps : List Asn} {b : Nat} {t : TypeId} {vs : List Value}

theorem St.cellV (h : St B w0 w Ps) (i : Nat) (hi : Ps[i]? = some (AVals b t vs)) (j : Nat) {v : Value} (hj : vs[j]? = some v) : w.cell? ⟨b, j, none⟩ = some v ∧ w.frozen? ⟨b, j, none⟩ = false := by
  have hb := h.block i hi
  exact ⟨cell_of_block hb (by simpa using hj), frozen_of_block hb⟩

theorem St.storeV (h : St B w0 w Ps) (i : Nat) (hi : Ps[i]? = some (AVals b t vs)) (j : Nat) (v : Value) : St B w0 (w.setCell ⟨b, j, none⟩ v) (Ps.set i (AVals b t (vs.set j v))) := by
  obtain ⟨S, hS, _, put⟩ := h.at i hi
  refine put S _ (AVals b t (vs.set j v)) ⟨?_, hS.2⟩ ((Step.refl S w).setCell (a := ⟨b, j, none⟩) (Or.inl ((hS.2 b).2 rfl)) _)
  rw [block_setCell hS.1]
  simp

theorem St.boxV (h : St B w0 w Ps) (t : TypeId) (vs : List Value) : St B w0 (w.alloc (.cells vs.toArray t)) (AVals w.heap.size t vs :: Ps) := h.box _

/-- all its cells are written -/
theorem St.setAll (i : Nat) : ∀ (r : List Value) (o : Nat) (w : World) (Ps : List Asn) (vs : List Value), St B w0 w Ps → Ps[i]? = some (AVals b t vs) → o + r.length = vs.length → St B w0 (w.setCells b o r) (Ps.set i (AVals b t (vs.take o ++ r)))
  | [], o, w, Ps, vs, h, hi, hl => by
    have e : vs.take o ++ [] = vs := by rw [List.append_nil, List.take_of_length_le (by simp at hl; omega)]
    rw [e]
    have : Ps.set i (AVals b t vs) = Ps := by
      apply List.ext_getElem?
      intro j
      by_cases hj : j = i
      · subst hj
        have hlt : j < Ps.length := (List.getElem?_eq_some_iff.1 hi).1
        rw [List.getElem?_set_self hlt, hi]
      · rw [List.getElem?_set_ne (Ne.symm hj)]
    rw [this]
    exact h
  | v :: r, o, w, Ps, vs, h, hi, hl => by
    have hlt : i < Ps.length := (List.getElem?_eq_some_iff.1 hi).1
    have h1 := h.storeV i hi o v
    have h2 := St.setAll i r (o + 1) _ _ (vs.set o v) h1 (by rw [List.getElem?_set_self hlt]) (by simp at hl ⊢; omega)
    rw [List.set_set] at h2
    have e : (vs.set o v).take (o + 1) ++ r = vs.take o ++ v :: r := by
      have ho : o < vs.length := by simp at hl; omega
      have e0 : (vs.set o v).take o = vs.take o := by
        apply List.ext_getElem?
        intro j
        by_cases hj : j < o
        · rw [List.getElem?_take_of_lt hj, List.getElem?_take_of_lt hj, List.getElem?_set_ne (by omega)]
        · rw [List.getElem?_eq_none (by simp; omega), List.getElem?_eq_none (by simp; omega)]
      rw [List.take_succ_eq_append_getElem (by simpa using ho), e0]
      simp
    rw [e] at h2
    exact h2

/-- the block whole, as the laws on rows want it -/
theorem St.rowV (h : St B w0 w Ps) (i : Nat) (hi : Ps[i]? = some (AVals b t vs)) : w.heap[b]? = some (.cells vs.toArray t (0, 0)) := h.block i hi
theorem St.thereV (h : St B w0 w Ps) (i : Nat) (hi : Ps[i]? = some (AVals b t vs)) {n : Nat} (hn : n ≤ vs.length) : w.there b 0 n := by
  intro j hj
  obtain ⟨h1, h2⟩ := h.cellV i hi j (v := vs[j]) (by simp [show j < vs.length by omega])
  rw [Nat.zero_add]
  exact ⟨by rw [h1]; rfl, h2⟩

/-- nothing that is there has turned -/
theorem St.later {w' : World} (h : St B w0 w Ps) (hb : Below w.heap.size w w') : St B w0 w' Ps :=
  h.quiet (T := fun _ => False) ⟨hb.os, hb.tape, hb.output, hb.size, fun k hk _ => hb.block k hk, fun _ h => h.elim⟩

/-- which block it is: apart from every older one -/
theorem St.ltV (h : St B w0 w Ps) (i : Nat) (hi : Ps[i]? = some (AVals b t vs)) : B ≤ b ∧ b < w.heap.size := by
  obtain ⟨S, hS, hB, _⟩ := h.at i hi
  exact ⟨hB b ((hS.2 b).2 rfl), lt_of_block hS.1⟩
end
end Go.Own

end
section
namespace Go.Own
open Go.RowKit

def strB (l : List UInt8) : ByteArray := ⟨l.toArray⟩

theorem strB_nums (l : List UInt8) : strOfNums (l.map fun c => (c.toNat : Int)) = strB l := by
  apply ByteArray.ext
  apply Array.toList_inj.1
  show (strOfNums _).data.toList = (strB l).data.toList
  rw [strOfNums_data, List.map_map]
  show _ = l
  conv => rhs; rw [← List.map_id l]
  apply List.map_congr_left
  intro x _
  simp

theorem strB_toList (l : List UInt8) : (strB l).toList = l := by
  rw [Lib.toList_data]; rfl

theorem run_str {P : Program} {w : World} {D : Nat → Prop} {ao : Option Addr} {l : List UInt8} (src e dst : TypeId) (hs : P.underlying src = some (.slice e)) (he : P.underlying e = some (.int .u8)) (hd : P.underlying dst = some .string) (h : View w D ao l) (cap : Nat) :
    (convert src dst (.slice ao l.length cap)).run P w = .ok (.string (strB l)) w := by
  cases ao with
  | none =>
    rcases h with rfl | ⟨b, o, h, _⟩
    · exact run_convert_bytes_nil w src e hs he _ _ dst hd
    · cases h
  | some a =>
    rcases h with rfl | ⟨b, o, h, _, _, hc⟩
    · rw [run_convert_bytes_string w src dst e _ _ _ hs he hd]
      have := run_bytesToString (P := P) w a 0 cap [] (by simp [loadCells, loadCellsFrom])
      exact this
    · cases h
      have := run_convert_bytes_arg (P := P) w src e hs he b o l.length cap (l.map fun c => (c.toNat : Int)) (by simp) (fun i hi => by rw [hc i hi]; simp [List.getD, hi]) dst hd
      rw [this, strB_nums]

end Go.Own

end
section
namespace Go.Own
open Go.RowKit Go.ChangeShapes Go.WideShapes Go.Deep

/-- what is so of the cells of a value of one type, in a world, for plain data -/
abbrev InT (α : Type) := α → Nat → World → List Value → Prop

def inInt (k : IntKind) : InT Int := fun n _ _ cs => cs = [.int k n] ∧ (Lit.int k n).wf = true
/-- a slice: nil, or empty, or leading to its elements -/
def inSlice {α : Type} (size : Nat) (R : InT α) : InT (List α) := fun xs B w cs =>
  ∃ ao cap, cs = [.slice ao xs.length cap] ∧ xs.length ≤ cap ∧ cap ≤ maxLen ∧ (ao = none → cap = 0) ∧
    (xs = [] ∨ ∃ b o, ao = some ⟨b, o, none⟩ ∧ b < B ∧ b < w.heap.size ∧ ∀ i (hi : i < xs.length), ∃ cs', cs'.length = size ∧ (∀ j, j < size → w.cell? ⟨b, o + (i * size + j), none⟩ = cs'[j]?) ∧ R xs[i] B w cs')
/-- the form's own reading of a value of type t gives it -/
def Opens {α : Type} (P : Program) (t : TypeId) (R : InT α) : Prop :=
  ∀ (H : Type) (enc : TypeId × Value → H) (w : World) (fuel : Nat) (cs : List Value) (x : DataW H × List MemPlace),
    DataW.trod enc P w 0 (fun _ => true) true fuel t cs = some x → ∃ a, R a w.heap.size w cs

theorem opens_int {P : Program} {t : TypeId} {k : IntKind} (ht : P.underlying t = some (.int k)) : Opens P t (inInt k) := by
  intro H enc w fuel cs x h
  obtain ⟨n, rfl, _, hw⟩ := DataW.trod_int ht h
  exact ⟨n, rfl, hw⟩
theorem add_of (b o j : Nat) : (⟨b, o, none⟩ : Addr).add j = ⟨b, o + j, none⟩ := by unfold Addr.add; split <;> simp_all

/-- elements, one by one, as one list -/
theorem list_of {α : Type} {n : Nat} {p : Nat → α → Prop} (h : ∀ i, i < n → ∃ x, p i x) : ∃ xs : List α, xs.length = n ∧ ∀ i (hi : i < xs.length), p i xs[i] := by
  induction n with
  | zero => exact ⟨[], rfl, fun i hi => absurd hi (Nat.not_lt_zero _)⟩
  | succ n ih =>
    obtain ⟨xs, h1, h2⟩ := ih (fun i hi => h i (by omega))
    obtain ⟨x, hx⟩ := h n (by omega)
    refine ⟨xs ++ [x], by simp [h1], fun i hi => ?_⟩
    by_cases hin : i < xs.length
    · rw [List.getElem_append_left hin]; exact h2 i hin
    · have : i = n := by simp at hi; omega
      subst this
      rw [List.getElem_append_right (by omega)]
      simpa [h1] using hx

theorem opens_slice {α : Type} {P : Program} {t e : TypeId} {R : InT α} (size : Nat) (ht : P.underlying t = some (.slice e)) (hc : P.cellsOf e = size) (hpos : 0 < size) (hR : Opens P e R) : Opens P t (inSlice size R) := by
  intro H enc w fuel cs x h
  rcases open_slice ht h with ⟨rfl, _⟩ | ⟨a, len, cap, m, n, D, Pl, rfl, _, h1, h2, hm, _, hel⟩
  · exact ⟨[], none, 0, rfl, Nat.le_refl _, by unfold maxLen; omega, fun _ => rfl, .inl rfl⟩
  · simp only [if_true] at hm
    subst hm
    rw [hc] at hel
    obtain ⟨xs, k1, k2⟩ := list_of (n := len) (p := fun i (y : α) => ∃ cs', cs'.length = size ∧ (∀ j, j < size → w.cell? ((a.add (i * size)).add j) = cs'[j]?) ∧ R y w.heap.size w cs') (fun i hi => by
      obtain ⟨cs', hcs, hd⟩ := hel i (by omega)
      obtain ⟨y, hy⟩ := hR H enc w n cs' _ hd
      obtain ⟨_, g1, g2⟩ := World.cells?_some hcs
      exact ⟨y, cs', g1, g2, hy⟩)
    subst k1
    refine ⟨xs, some a, m, rfl, h1, h2, fun h => by (cases h), ?_⟩
    rcases Nat.eq_zero_or_pos xs.length with hz | hz
    · exact .inl (List.eq_nil_of_length_eq_zero hz)
    · right
      obtain ⟨b, o, sp⟩ := a
      obtain ⟨cs', g1, g2, _⟩ := k2 0 hz
      have g3 := g2 0 hpos
      have e0 : ((⟨b, o, sp⟩ : Addr).add (0 * size)).add 0 = ⟨b, o, sp⟩ := by simp [Addr.add]
      rw [e0] at g3
      obtain ⟨u, hu⟩ : ∃ u, cs'[0]? = some u := ⟨cs'[0]'(by omega), by simp [show 0 < cs'.length by omega]⟩
      rw [hu] at g3
      have hsp : sp = none := by
        cases sp with
        | none => rfl
        | some s =>
          unfold World.cell? at g3
          split at g3 <;> simp at g3
      subst hsp
      have hlt := World.block_lt_of_cell? w _ g3
      refine ⟨b, o, rfl, hlt, hlt, fun i hi => ?_⟩
      obtain ⟨cs'', f1, f2, f3⟩ := k2 i hi
      exact ⟨cs'', f1, fun j hj => by rw [← f2 j hj, add_of, add_of, Nat.add_assoc], f3⟩

/-- the fields of a struct, one behind the other -/
theorem opens_fields {P : Program} {t : TypeId} {fs : Array Field} {H : Type} {enc : TypeId × Value → H} {w : World} {fuel : Nat} {cs : List Value} {x : DataW H × List MemPlace} (ht : P.underlying t = some (.struct fs))
    (h : DataW.trod enc P w 0 (fun _ => true) true fuel t cs = some x) :
    cs.length = P.cellsOf t ∧ ∀ (i : Nat) (f : Field), fs[i]? = some f → ∃ n y, DataW.trod enc P w 0 (fun _ => true) true n f.type ((cs.drop f.offset).take (P.cellsOf f.type)) = some y := by
  obtain ⟨xs, n, _, _, hl, hlen, hf⟩ := DataW.trod_struct ht h
  refine ⟨hl, fun i f hi => ?_⟩
  have := hf i f hi
  have hlt : i < xs.length := by rw [hlen]; exact (Array.getElem?_eq_some_iff.1 hi).1
  rw [List.getElem?_eq_getElem hlt] at this
  exact ⟨n, _, this⟩

/-- an array of numbers, by value -/
def inInts (k : IntKind) (n : Nat) : InT (List Int) := fun l _ _ cs => cs = l.map (Value.int k) ∧ l.length = n ∧ ∀ i (h : i < l.length), (Lit.int k l[i]).wf = true
theorem opens_ints {P : Program} {t e : TypeId} {k : IntKind} {n : Nat} (ht : P.underlying t = some (.array n e)) (he : P.underlying e = some (.int k)) (hce : P.cellsOf e = 1) (hct : P.cellsOf t = n) : Opens P t (inInts k n) := by
  intro H enc w fuel cs x h
  obtain ⟨xs, m, _, _, hl, hlen, hf⟩ := DataW.trod_array ht h
  rw [hct] at hl
  rw [hce] at hf
  obtain ⟨zs, h1, h2⟩ := list_of (n := n) (p := fun i (z : Int) => cs[i]? = some (.int k z) ∧ (Lit.int k z).wf = true) (fun i hi => by
    have h3 := hf i hi
    rw [List.getElem?_eq_getElem (show i < xs.length by omega)] at h3
    obtain ⟨z, hz, _, hw⟩ := DataW.trod_int he h3
    refine ⟨z, ?_, hw⟩
    have hi' : i < cs.length := by omega
    rw [Nat.mul_one, List.drop_eq_getElem_cons hi'] at hz
    rw [List.getElem?_eq_getElem hi']
    rw [List.take_succ_cons] at hz
    exact congrArg some (List.cons.inj hz).1)
  refine ⟨zs, ?_, h1, fun i hi => (h2 i hi).2⟩
  apply List.ext_getElem?
  intro i
  by_cases hi : i < n
  · rw [(h2 i (by omega)).1]
    simp [show i < zs.length by omega]
  · rw [List.getElem?_eq_none (by omega), List.getElem?_eq_none (by simp; omega)]

/-- an array of bytes, by value -/
def inBytesA (n : Nat) : InT (List UInt8) := fun l _ _ cs => cs = l.map byteV ∧ l.length = n
theorem opens_bytesA {P : Program} {t e : TypeId} {n : Nat} (ht : P.underlying t = some (.array n e)) (he : P.underlying e = some (.int .u8)) (hce : P.cellsOf e = 1) (hct : P.cellsOf t = n) : Opens P t (inBytesA n) := by
  intro H enc w fuel cs x h
  obtain ⟨zs, h1, h2, h3⟩ := opens_ints ht he hce hct H enc w fuel cs x h
  refine ⟨zs.map fun z => UInt8.ofNat z.toNat, ?_, by simpa using h2⟩
  rw [h1, List.map_map]
  apply List.ext_getElem?
  intro i
  by_cases hi : i < zs.length
  · have hw : 0 ≤ zs[i] ∧ zs[i] ≤ 255 := by simpa [Lit.wf, IntKind.min, IntKind.max, IntKind.signed, IntKind.bits] using h3 i hi
    simp [hi, byteV]
    omega
  · simp [hi]

end Go.Own

end
section
namespace Go.Proofs.Ytepbdjgfaljbgaa
open Go.RowKit Go.Own
namespace Byt

/-- a slice of bytes of one's own -/
def AB (ao : Option Addr) (n cap : Nat) (l : List UInt8) : Asn := ARow 5 1 (.slice ao n cap) n (l.map byteV)
theorem AB.view {w : World} {S : Nat → Prop} {ao : Option Addr} {n cap : Nat} {l : List UInt8} (h : (AB ao n cap l).holds S w) : View w S ao l := Row.view h
theorem AB.len {w : World} {S : Nat → Prop} {ao : Option Addr} {n cap : Nat} {l : List UInt8} (h : (AB ao n cap l).holds S w) : l.length = n ∧ n ≤ cap ∧ cap ≤ maxLen ∧ (ao = none → n = 0 ∧ cap = 0) := by
  obtain ⟨ao', cap', hv, h1, h2, h3, _⟩ := Row.form h
  simp only [Value.slice.injEq, true_and] at hv
  obtain ⟨rfl, rfl⟩ := hv
  exact ⟨by have := h.own.1; simpa using this, h1, h2, fun e => ⟨(h3 e).1, (h3 e).2.1⟩⟩
section
variable {B : Nat} {w0 w : World} {Ps : List Asn} {ao : Option Addr} {n cap : Nat} {l : List UInt8}
end

/-- an array of bytes in a block of one's own -/
def A8 (b : Nat) (t : TypeId) (l : List UInt8) : Asn := AVals b t (l.map byteV)
section
variable {B : Nat} {w0 w : World} {Ps : List Asn} {b : Nat} {t : TypeId} {l : List UInt8}
theorem A8.cell (h : St B w0 w Ps) (i : Nat) (hi : Ps[i]? = some (A8 b t l)) (j : Nat) (hj : j < l.length) : w.cell? ⟨b, j, none⟩ = some (.int .u8 ((l.getD j 0).toNat : Int)) ∧ w.frozen? ⟨b, j, none⟩ = false :=
  h.cellV i hi j (by simp [byteV, hj])
theorem A8.store (h : St B w0 w Ps) (i : Nat) (hi : Ps[i]? = some (A8 b t l)) (j : Nat) (c : UInt8) : St B w0 (w.setCell ⟨b, j, none⟩ (.int .u8 (c.toNat : Int))) (Ps.set i (A8 b t (l.set j c))) := by
  have := h.storeV i hi j (byteV c)
  unfold A8
  rw [List.map_set]
  exact this
theorem A8.box (h : St B w0 w Ps) (t : TypeId) (l : List UInt8) : St B w0 (w.alloc (.cells (l.map byteV).toArray t)) (A8 w.heap.size t l :: Ps) := h.boxV t _
theorem A8.row (h : St B w0 w Ps) (i : Nat) (hi : Ps[i]? = some (A8 b t l)) : w.heap[b]? = some (.cells (l.map byteV).toArray t (0, 0)) := h.rowV i hi
theorem A8.there (h : St B w0 w Ps) (i : Nat) (hi : Ps[i]? = some (A8 b t l)) (r : List UInt8) (hl : r.length = l.length) : w.there b 0 (r.map byteV).toArray.size := h.thereV i hi (by simp [hl])
theorem A8.setAll (h : St B w0 w Ps) (i : Nat) (hi : Ps[i]? = some (A8 b t l)) (r : List UInt8) (hl : r.length = l.length) : St B w0 (w.setCells b 0 (r.map byteV).toArray.toList) (Ps.set i (A8 b t r)) := by
  have := Own.St.setAll i (r.map byteV) 0 w Ps (l.map byteV) h hi (by simp [hl])
  simpa [A8] using this
theorem A8.view (h : St B w0 w Ps) (i : Nat) (hi : Ps[i]? = some (A8 b t l)) : View w (fun k => B ≤ k) (some ⟨b, 0, none⟩) l := by
  obtain ⟨h1, h2⟩ := h.ltV i hi
  exact .inr ⟨b, 0, rfl, h1, h2, fun j hj => by rw [Nat.zero_add]; exact (A8.cell h i hi j hj).1⟩
end
/-- an operation that is carried out, also behind a guard -/
theorem wpList_want {P : Program} {ops : Array Oper} {rest : List Oper} {o : Oper} {a : Act} {w : World} {Q : Exit → Act → World → Prop} (hw : Region.wanted o (yielded ops a.tmps) = true) (h : o.wp P a w (fun a' w' => wpList P ops Q rest a' w') Q) : wpList P ops Q (o :: rest) a w := by
  unfold wpList
  rw [if_pos hw]
  exact .inl h
/-- an operation whose value is known -/
theorem wpList_val {P : Program} {ops : Array Oper} {rest : List Oper} {o : Oper} {a : Act} {w : World} {Q : Exit → Act → World → Prop} (hw : Region.wanted o (yielded ops a.tmps) = true) {v : Value} (hrun : (execOp a.eval o).run P w = .ok (.value v) w) (h : wpList P ops Q rest (a.put o.dst v) w) : wpList P ops Q (o :: rest) a w := by
  refine wpList_want hw ?_
  unfold Oper.wp
  rw [hrun]
  exact h
section
variable {ao : Option Addr} {l : List UInt8} {m cap : Nat}
end

end Byt
end Go.Proofs.Ytepbdjgfaljbgaa

end
section
namespace Go.Own
open Go.RowKit

/-- an object with some choice in it -/
def AEx {α : Type} (P : α → Asn) : Asn := ⟨fun S w => ∃ x, (P x).holds S w, fun ⟨x, h⟩ g hd => ⟨x, (P x).keep h g hd⟩, fun ⟨x, h⟩ => (P x).lt h⟩
section
variable {B : Nat} {w0 w w' : World} {Ps Qs : List Asn} {α : Type} {P : α → Asn}
theorem St.openE (h : St B w0 w (AEx P :: Ps)) : ∃ x, St B w0 w (P x :: Ps) := by
  obtain ⟨hb, hs, S, ⟨S1, S2, ⟨x, h1⟩, h2, h3, h4⟩, hB⟩ := h
  exact ⟨x, hb, hs, S, ⟨S1, S2, h1, h2, h3, h4⟩, hB⟩
theorem St.closeE (x : α) (h : St B w0 w (P x :: Ps)) : St B w0 w (AEx P :: Ps) := by
  obtain ⟨hb, hs, S, ⟨S1, S2, h1, h2, h3, h4⟩, hB⟩ := h
  exact ⟨hb, hs, S, ⟨S1, S2, ⟨x, h1⟩, h2, h3, h4⟩, hB⟩

variable {e : TypeId} {size n cap : Nat} {ao : Option Addr} {xs : List Value}
theorem St.rowLen (H : St B w0 w Ps) (i : Nat) (hi : Ps[i]? = some (ARow e size (.slice ao n cap) n xs)) : xs.length = n * size ∧ n ≤ cap ∧ cap ≤ maxLen ∧ (ao = none → n = 0 ∧ cap = 0) := by
  obtain ⟨S, hS, _⟩ := H.at i hi
  obtain ⟨ao', cap', hv, h1, h2, h3, _⟩ := Row.form hS
  simp only [Value.slice.injEq, true_and] at hv
  obtain ⟨rfl, rfl⟩ := hv
  exact ⟨hS.own.1, h1, h2, fun h => ⟨(h3 h).1, (h3 h).2.1⟩⟩
/-- one cell of a row of one's own: read, stored -/
theorem St.rowAt (H : St B w0 w Ps) (i : Nat) (hi : Ps[i]? = some (ARow e size (.slice ao n cap) n xs)) (j : Nat) (hj : j < n * size) :
    ∃ g, ao = some ⟨g, 0, none⟩ ∧ (∃ u, xs[j]? = some u ∧ w.cell? ⟨g, j, none⟩ = some u) ∧ w.frozen? ⟨g, j, none⟩ = false ∧
      ∀ u : Value, St B w0 (w.setCell ⟨g, j, none⟩ u) (Ps.set i (ARow e size (.slice ao n cap) n (xs.set j u))) := by
  obtain ⟨S, hS, _, put⟩ := H.at i hi
  have hlen := (H.rowLen i hi).1
  obtain ⟨hown, hset⟩ := hS
  rcases hown.2 with ⟨hv, rfl⟩ | ⟨g, cap', cur, hv, h0, hb, hnc, hcm, hcs, htake⟩
  · omega
  · simp only [Value.slice.injEq, true_and] at hv
    obtain ⟨rfl, rfl⟩ := hv
    have hx : xs[j]? = some xs[j] := List.getElem?_eq_getElem (by omega)
    have hcur : cur[j]? = some xs[j] := by
      have : (cur.toList.take (n * size))[j]? = xs[j]? := by rw [htake]
      rw [List.getElem?_take_of_lt hj] at this
      rw [← Array.getElem?_toList, this, hx]
    refine ⟨g, rfl, ⟨_, hx, cell_of_block hb hcur⟩, frozen_of_block hb, fun u => ?_⟩
    exact put S _ (ARow e size (.slice (some ⟨g, 0, none⟩) n cap) n (xs.set j u)) ⟨(hown.stored j u).1, hset⟩ ((Step.refl S w).setCell (a := ⟨g, j, none⟩) (Or.inl ((hset g).2 rfl)) _)
/-- two cells side by side -/
theorem St.rowFresh (H : St B w0 w Ps) : St B w0 w (ARow e size (.slice none 0 0) 0 [] :: Ps) :=
  H.new (S' := fun _ => False) (ARow e size _ 0 []) (Row.nil w e size) (Step.refl (fun _ => False) w)
end

/-! ### a table of rows: [][]T, where an element of T has one cell -/
section
variable {t e : TypeId} {α : Type} {enc : α → Value}
variable {B : Nat} {w0 w w' : World} {Ps Qs : List Asn} {v : Value} {rows : List (List α)}
end

/-! ### one more: onto a row of elements of one cell, onto a table -/
section
variable {P : Program} {t e : TypeId} {z : Value} {bytes : Nat} {B : Nat} {w0 w : World} {Ps : List Asn} {v : Value}
end
end Go.Own

end
section
namespace Go.Proofs.Ytepbdjgfaljbgaa
open Go.RowKit Go.Own
namespace Byt

/-- bytes that a call may be given -/
structure Given (w : World) (ao : Option Addr) (len cap : Nat) (l : List UInt8) : Prop where
  view : View w (fun k => k < w.heap.size) ao l
  size : l.length = len
  room : len ≤ cap ∧ cap ≤ maxLen
  nil : ao = none → cap = 0
theorem Given.later {w w' : World} {ao : Option Addr} {len cap : Nat} {l : List UInt8} (h : Given w ao len cap l) (g : Below w.heap.size w w') : Given w' ao len cap l :=
  ⟨(View.below h.view g).mono (fun k hk => by have := g.size; omega), h.size, h.room, h.nil⟩

theorem u8_byte {a : Int} (h : (Lit.int .u8 a).wf = true) : ∃ c : UInt8, a = (c.toNat : Int) := by
  have h' : 0 ≤ a ∧ a ≤ 255 := by simpa [Lit.wf, IntKind.min, IntKind.max, IntKind.signed, IntKind.bits] using h
  exact ⟨UInt8.ofNat a.toNat, by simp; omega⟩
end Byt
end Go.Proofs.Ytepbdjgfaljbgaa

end
section
namespace Go.RecM
abbrev Bs := List UInt8
/-- the many lowest bytes of n, the least significant one first (as Cod.le) -/
def le (n : Nat) : Nat → Bs
  | 0 => []
  | k + 1 => le n k ++ [UInt8.ofNat (n / 2 ^ (8 * k))]
structure Nte where
  kind : UInt8
  addr : Nat
  seq : Nat
  sum : Bs
  kn : Nat
  data : Bs
def zsum : Bs := List.replicate 32 0
def zeroN : Nte := ⟨0, 0, 0, zsum, 0, []⟩
/-- the fields are of their widths -/
structure Fits (n : Nte) : Prop where
  addr : n.addr < 4294967296
  seq : n.seq < 18446744073709551616
  sum : n.sum.length = 32
  kn : n.kn < 4294967296
def right (n : Nte) : Bool :=
  decide (n.data.length ≤ 300) &&
    (if n.kind = 1 then true
     else if n.kind = 2 then decide (n.sum = zsum) && decide (n.kn = 0) && decide (n.data.length = 0)
     else if n.kind = 3 then decide (n.addr = 0) && (decide (n.sum = zsum) && decide (n.kn = 0)) && decide (n.data.length = 0)
     else if n.kind = 4 then decide (n.addr = 0) && decide (n.seq = 0) && decide (0 < n.data.length)
     else false)
def tail (n : Nte) : Bs := n.sum ++ (le n.kn 4 ++ (le n.data.length 2 ++ n.data))
def laid (n : Nte) : Bs :=
  n.kind :: (if n.kind = 1 then le n.addr 4 ++ (le n.seq 8 ++ tail n)
    else if n.kind = 2 then le n.addr 4 ++ le n.seq 8
    else if n.kind = 3 then le n.seq 8
    else tail n)
/-- bytes that are a note's -/
def IsNote (b : Bs) : Prop := ∃ n, Fits n ∧ right n = true ∧ laid n = b
open Classical in
noncomputable def take (b : Bs) : Nte × Nat := if h : IsNote b then (h.choose, 0) else (zeroN, 100)
def pagesN (n : Nte) : Nat := if right n then ((laid n).length + 124) / 125 else 0
end Go.RecM

end
section
namespace Go.Own
open Go.RowKit

/-- what is so of a slot's value; new memory does not touch it -/
structure Ty where
  holds : Value → World → Prop
  keep : ∀ {v : Value} {w w' : World}, holds v w → Below w.heap.size w w' → holds v w'

def Ty.is (c : Value) : Ty := ⟨fun v _ => v = c, fun h _ => h⟩

abbrev Lx := List (Tmp × Ty)

/-- what is so of slot t -/
def slotIs (I : Lx) (a : Act) (t : Tmp) (v : Value) (w : World) : Prop :=
  match I.lookup t with
  | some R => R.holds v w
  | none => v = a.tmps.getD t undef

section
variable {P : Program} {ops : Array Oper} {C : World → Prop}

theorem slotIs.keep {I : Lx} {a : Act} {t : Tmp} {v : Value} {w w' : World} (h : slotIs I a t v w) (g : Below w.heap.size w w') : slotIs I a t v w' := by
  unfold slotIs at *
  split at h
  · rename_i R e; exact R.keep h g
  · exact h

/-- an operation gives what R says, wherever it is carried out -/
def Gives (P : Program) (ops : Array Oper) (C : World → Prop) (o : Oper) (I : Lx) (a : Act) (R : Ty) : Prop :=
  ∀ a1 w, C w → (∀ t ∈ o.looksAt ops, slotIs I a t (a1.tmps.getD t undef) w) → ∀ (K : Act → World → Prop) (Q : Exit → Act → World → Prop),
    (∀ v w', R.holds v w' → Below w.heap.size w w' → K (a1.put o.dst v) w') → o.wp P a1 w K Q

/-- the guard is not one of the slots that are not known -/
def guardKnown (ops : Array Oper) (o : Oper) (I : Lx) : Bool :=
  match o.guard with
  | none => true
  | some (g, _) => match (ops[g]?).bind (·.dst) with
    | some d => (I.lookup d).isNone
    | none => true

inductive StepT (P : Program) (ops : Array Oper) (C : World → Prop) (o : Oper) : Lx → Act → Lx → Act → Prop
  | skip {I a} (hg : guardKnown ops o I = true) (hw : Region.wanted o (yielded ops a.tmps) = false) : StepT P ops C o I a I (a.put o.dst undef)
  | val {I a} (v : Value) (hg : guardKnown ops o I = true) (hw : Region.wanted o (yielded ops a.tmps) = true) (h : Gives P ops C o I a (Ty.is v)) : StepT P ops C o I a I (a.put o.dst v)
  | ty {I a} (d : Tmp) (R : Ty) (hd : o.dst = some d) (hg : guardKnown ops o I = true) (hw : Region.wanted o (yielded ops a.tmps) = true) (h : Gives P ops C o I a R) : StepT P ops C o I a ((d, R) :: I) a

/-- what the frame may be -/
structure Rep (C : World → Prop) (I : Lx) (a a1 : Act) (w1 : World) : Prop where
  world : C w1
  defers : a1.defers = a.defers
  size : a1.tmps.size = a.tmps.size
  slot : ∀ t, slotIs I a t (a1.tmps.getD t undef) w1

/-- THE WALK, in the order of the text -/
def wpT (P : Program) (ops : Array Oper) (C : World → Prop) (Q : Act → World → Prop) : List Oper → Lx → Act → Prop
  | [], I, a => ∀ a1 w1, Rep C I a a1 w1 → Q a1 w1
  | o :: rest, I, a => ∃ I' a', StepT P ops C o I a I' a' ∧ wpT P ops C Q rest I' a'

theorem wpT_path {Q : Act → World → Prop} : ∀ (l : List Oper) (I : Lx) (a : Act), wpT P ops C Q l I a →
    ∃ S : Nat → Lx × Act, S 0 = (I, a) ∧ (∀ k o, l[k]? = some o → StepT P ops C o (S k).1 (S k).2 (S (k + 1)).1 (S (k + 1)).2) ∧ ∀ a1 w1, Rep C (S l.length).1 (S l.length).2 a1 w1 → Q a1 w1
  | [], I, a, h => ⟨fun _ => (I, a), rfl, fun k o hk => by simp at hk, h⟩
  | o :: rest, I, a, ⟨I', a', h1, h2⟩ => by
    obtain ⟨S, g0, g1, g2⟩ := wpT_path rest I' a' h2
    refine ⟨fun k => match k with | 0 => (I, a) | k + 1 => S k, rfl, fun k o' hk => ?_, fun a1 w1 hr => g2 a1 w1 (by simpa using hr)⟩
    cases k with
    | zero =>
      obtain rfl : o = o' := by simpa using hk
      show StepT P ops C o I a (S 0).1 (S 0).2
      rw [g0]; exact h1
    | succ k => exact g1 k o' (by simpa using hk)

theorem put_getD (a : Act) (d t : Tmp) (v : Value) (hd : d < a.tmps.size) : (a.put (some d) v).tmps.getD t undef = if t = d then v else a.tmps.getD t undef := by
  show (a.tmps.setIfInBounds d v).getD t undef = _
  by_cases h : t = d
  · subst h; simp [hd]
  · simp [h, Array.getElem?_setIfInBounds_ne (Ne.symm h)]
theorem put_size (a : Act) (d : Option Tmp) (v : Value) : (a.put d v).tmps.size = a.tmps.size := by cases d <;> simp [Act.put]
theorem put_defers (a : Act) (d : Option Tmp) (v : Value) : (a.put d v).defers = a.defers := by cases d <;> rfl

theorem StepT.size {o : Oper} {I I' : Lx} {a a' : Act} (h : StepT P ops C o I a I' a') : a'.tmps.size = a.tmps.size ∧ a'.defers = a.defers := by
  cases h
  · exact ⟨put_size _ _ _, put_defers _ _ _⟩
  · exact ⟨put_size _ _ _, put_defers _ _ _⟩
  · exact ⟨rfl, rfl⟩

/-- a slot that the operation does not write stays -/
theorem StepT.other {o : Oper} {I I' : Lx} {a a' : Act} (h : StepT P ops C o I a I' a') {t : Tmp} (hin : ∀ d, o.dst = some d → d < a.tmps.size) (ht : o.dst ≠ some t) (v : Value) (w : World) : slotIs I' a' t v w ↔ slotIs I a t v w := by
  have hput : ∀ u, (a.put o.dst u).tmps.getD t undef = a.tmps.getD t undef := by
    intro u
    cases hd : o.dst with
    | none => rfl
    | some d => rw [put_getD a d t u (hin d hd), if_neg (fun e => ht (by rw [hd, e]))]
  cases h
  · unfold slotIs; rw [hput]
  · unfold slotIs; rw [hput]
  · rename_i d R hd hg hw h
    unfold slotIs
    rw [List.lookup_cons]
    have : (t == d) = false := by simp; intro e; exact ht (by rw [hd, e])
    simp only [this]

/-- slots of the region: each is written once, and is there -/
def dstsB (l : List Oper) (n : Nat) : Bool := (l.filterMap (·.dst)).Nodup && (l.filterMap (·.dst)).all (· < n)

theorem dsts_lt {l : List Oper} {n : Nat} (h : dstsB l n = true) {k : Nat} {o : Oper} {d : Tmp} (hk : l[k]? = some o) (hd : o.dst = some d) : d < n := by
  simp only [dstsB, Bool.and_eq_true, List.all_eq_true, decide_eq_true_eq] at h
  exact h.2 d (List.mem_filterMap.2 ⟨o, List.mem_of_getElem? hk, hd⟩)

theorem dsts_one {n : Nat} : ∀ {l : List Oper}, dstsB l n = true → ∀ {j k : Nat} {x y : Oper} {d : Tmp}, l[j]? = some x → l[k]? = some y → x.dst = some d → y.dst = some d → j = k
  | [], _, j, _, _, _, _, hj, _, _, _ => by simp at hj
  | o :: l, h, j, k, x, y, d, hj, hk, hx, hy => by
    have hrest : dstsB l n = true := by
      simp only [dstsB, Bool.and_eq_true, decide_eq_true_eq] at h ⊢
      cases ho : o.dst <;> simp_all
    have hnot : ∀ (i : Nat) (z : Oper), l[i]? = some z → o.dst = some d → z.dst ≠ some d := by
      intro i z hi hod hz
      simp only [dstsB, Bool.and_eq_true, decide_eq_true_eq, List.filterMap_cons, hod, List.nodup_cons] at h
      exact h.1.1 (List.mem_filterMap.2 ⟨z, List.mem_of_getElem? hi, hz⟩)
    cases j with
    | zero =>
      cases k with
      | zero => rfl
      | succ k =>
        obtain rfl : o = x := by simpa using hj
        exact absurd hy (hnot k y (by simpa using hk) hx)
    | succ j =>
      cases k with
      | zero =>
        obtain rfl : o = y := by simpa using hk
        exact absurd hx (hnot j x (by simpa using hj) hy)
      | succ k => rw [dsts_one hrest (j := j) (k := k) (by simpa using hj) (by simpa using hk) hx hy]

theorem eval_looks {o : Oper} {a a1 : Act} (h : ∀ t ∈ o.looksAt ops, a1.tmps.getD t undef = a.tmps.getD t undef) : ∀ x ∈ o.op.operands, a1.eval x = a.eval x := by
  intro x hx
  cases x with
  | tmp t => exact h t (List.mem_append_left _ (List.mem_filterMap.2 ⟨.tmp t, by simpa using hx, rfl⟩))
  | _ => rfl

theorem wanted_looks {o : Oper} {I : Lx} {a a1 : Act} {w : World} (hg : guardKnown ops o I = true) (hs : a1.tmps.size = a.tmps.size) (h : ∀ t ∈ o.looksAt ops, slotIs I a t (a1.tmps.getD t undef) w) :
    Region.wanted o (yielded ops a1.tmps) = Region.wanted o (yielded ops a.tmps) := by
  unfold Region.wanted
  cases hgd : o.guard with
  | none => rfl
  | some gw =>
    obtain ⟨g, want⟩ := gw
    have : yielded ops a1.tmps g = yielded ops a.tmps g := by
      unfold yielded
      cases hd : (ops[g]?).bind (·.dst) with
      | none => rfl
      | some d =>
        have hm : d ∈ o.looksAt ops := by
          unfold Oper.looksAt
          refine List.mem_append_right _ ?_
          rw [hgd]
          simp [hd]
        have h1 := h d hm
        unfold slotIs at h1
        have hn : I.lookup d = none := by simpa [guardKnown, hgd, hd] using hg
        rw [hn] at h1
        simp only at h1
        simp only [Option.bind_some]
        have : a1.tmps[d]? = a.tmps[d]? := by
          by_cases hlt : d < a.tmps.size
          · have hlt1 : d < a1.tmps.size := hs ▸ hlt
            simp only [Array.getD, hlt, hlt1, dif_pos] at h1
            rw [Array.getElem?_eq_getElem hlt, Array.getElem?_eq_getElem hlt1]
            exact congrArg some h1
          · rw [Array.getElem?_eq_none (Nat.le_of_not_lt hlt), Array.getElem?_eq_none (Nat.le_of_not_lt (hs ▸ hlt))]
        rw [this]
    simp only [this]

/-- which operations a slot waits for: read off the Bool over the region -/
theorem lexFrom_free {md : Region.Mode} : ∀ (fuel k : Nat) (listed : Array Bool), Region.lexFrom md ops fuel k listed = true → k + fuel = ops.size → (∀ i, listed.getD i true = decide (i < k ∨ ops.size ≤ i)) → listed.size = ops.size →
    ∀ i oi, k ≤ i → ops[i]? = some oi → (∀ e ∈ oi.after, Region.binds md e = true → e.on < i) ∧ ∀ j oj, i < j → ops[j]? = some oj → (∃ e ∈ oj.after, Region.binds md e = true ∧ e.on = i) ∨ oi.apart ops oj = true
  | 0, k, listed, _, hk, _, _, i, oi, hi, ho => by
    have := (Array.getElem?_eq_some_iff.1 ho).1
    omega
  | fuel + 1, k, listed, h, hk, hl, hsz, i, oi, hi, ho => by
    simp only [Region.lexFrom, Bool.and_eq_true] at h
    obtain ⟨⟨hr, hf⟩, hB⟩ := h
    by_cases hik : i = k
    · subst hik
      refine ⟨fun e he hb => ?_, fun j oj hj hoj => ?_⟩
      · have hr' : i ∈ Region.ready md ops listed := by simpa using hr
        obtain ⟨_, o', ho', hall⟩ := mem_ready.1 hr'
        obtain rfl : oi = o' := by rw [ho] at ho'; simpa using ho'
        have h1 := hall e he hb
        rcases Nat.lt_or_ge e.on i with h2 | h2
        · exact h2
        · exfalso
          rcases Nat.lt_or_ge e.on ops.size with h3 | h3
          · have h4 := hl e.on
            have h5 : e.on < listed.size := by omega
            simp [h5] at h4 h1
            rw [h1] at h4
            simp at h4
            omega
          · simp [Array.getElem?_eq_none (show listed.size ≤ e.on by omega)] at h1
      · by_cases hw : ∃ e ∈ oj.after, Region.binds md e = true ∧ e.on = i
        · exact .inl hw
        · refine .inr (Region.free_spec ho hf j oj hoj (by omega) ?_ (fun e he hb heq => hw ⟨e, he, hb, heq⟩))
          rw [hl]
          have := (Array.getElem?_eq_some_iff.1 hoj).1
          simp; omega
    · refine lexFrom_free fuel (k + 1) _ hB (by omega) (fun j => ?_) (by simpa using hsz) i oi (by omega) ho
      by_cases hjk : j = k
      · subst hjk
        have : j < listed.size := by omega
        simp [this]
      · rw [getD_set_ne true (Ne.symm hjk), hl]
        exact decide_eq_decide.2 (by omega)

/-- the state of a run: what has come up, and what the frame holds -/
structure RunInv (md : Region.Mode) (n : Nat) (ops : Array Oper) (C : World → Prop) (a0 : Act) (S : Nat → Lx × Act) (listed : Array Bool) (a1 : Act) (w1 : World) : Prop where
  world : C w1
  defers : a1.defers = a0.defers
  size : a1.tmps.size = a0.tmps.size
  lsize : listed.size = ops.size
  closed : ∀ (j : Nat) (oj : Oper), ops[j]? = some oj → listed.getD j false = true → ∀ e ∈ oj.after, Region.binds md e = true → listed.getD e.on false = true
  tail : ∀ j, n ≤ j → j < ops.size → listed.getD j true = false
  done : ∀ (j : Nat) (oj : Oper) (d : Tmp), ops[j]? = some oj → listed.getD j false = true → oj.dst = some d → slotIs (S (j + 1)).1 (S (j + 1)).2 d (a1.tmps.getD d undef) w1
  rest : ∀ t, (∀ (j : Nat) (oj : Oper), ops[j]? = some oj → listed.getD j false = true → oj.dst ≠ some t) → a1.tmps.getD t undef = a0.tmps.getD t undef

theorem path_sizes {a0 : Act} {S : Nat → Lx × Act} (hS0 : S 0 = ([], a0)) {n : Nat} (hn : n ≤ ops.size) (hst : ∀ (k : Nat) (o : Oper), k < n → ops[k]? = some o → StepT P ops C o (S k).1 (S k).2 (S (k + 1)).1 (S (k + 1)).2) :
    ∀ k, k ≤ n → (S k).2.tmps.size = a0.tmps.size ∧ (S k).2.defers = a0.defers
  | 0, _ => by rw [hS0]; exact ⟨rfl, rfl⟩
  | k + 1, hk => by
    have h := path_sizes hS0 hn hst k (by omega)
    have g := (hst k ops[k] (by omega) (Array.getElem?_eq_getElem (by omega))).size
    exact ⟨g.1.trans h.1, g.2.trans h.2⟩

theorem path_other {a0 : Act} {S : Nat → Lx × Act} (hS0 : S 0 = ([], a0)) {n : Nat} (hn : n ≤ ops.size) (hst : ∀ (k : Nat) (o : Oper), k < n → ops[k]? = some o → StepT P ops C o (S k).1 (S k).2 (S (k + 1)).1 (S (k + 1)).2)
    (hin : ∀ (k : Nat) (o : Oper) (d : Tmp), ops[k]? = some o → o.dst = some d → d < a0.tmps.size) {t : Tmp} (v : Value) (w : World) (m : Nat) :
    ∀ q, m + q ≤ n → (∀ j oj, m ≤ j → j < m + q → ops[j]? = some oj → oj.dst ≠ some t) → (slotIs (S (m + q)).1 (S (m + q)).2 t v w ↔ slotIs (S m).1 (S m).2 t v w)
  | 0, _, _ => Iff.rfl
  | q + 1, hq, hno => by
    have ih := path_other hS0 hn hst hin (t := t) v w m q (by omega) (fun j oj h1 h2 => hno j oj h1 (by omega))
    have hk : ops[m + q]? = some ops[m + q] := Array.getElem?_eq_getElem (by omega)
    have hs := path_sizes hS0 hn hst (m + q) (by omega)
    exact ((hst (m + q) _ (by omega) hk).other (fun d hd => by rw [hs.1]; exact hin _ _ d hk hd) (hno (m + q) _ (by omega) (by omega) hk) v w).trans ih

theorem slot0 {a0 : Act} {S : Nat → Lx × Act} (hS0 : S 0 = ([], a0)) (t : Tmp) (v : Value) (w : World) : slotIs (S 0).1 (S 0).2 t v w ↔ v = a0.tmps.getD t undef := by
  rw [hS0]; exact Iff.rfl

theorem path_keys {a0 : Act} {S : Nat → Lx × Act} (hS0 : S 0 = ([], a0)) {n : Nat} (hn : n ≤ ops.size) (hst : ∀ (k : Nat) (o : Oper), k < n → ops[k]? = some o → StepT P ops C o (S k).1 (S k).2 (S (k + 1)).1 (S (k + 1)).2) {t : Tmp} :
    ∀ k, k ≤ n → (∀ (j : Nat) (oj : Oper), j < k → ops[j]? = some oj → oj.dst ≠ some t) → (S k).1.lookup t = none
  | 0, _, _ => by rw [hS0]; rfl
  | k + 1, hk, hno => by
    have ih := path_keys hS0 hn hst k (by omega) (fun j oj h1 h2 => hno j oj (by omega) h2)
    have hs := hst k ops[k] (by omega) (Array.getElem?_eq_getElem (by omega))
    have hd := hno k ops[k] (by omega) (Array.getElem?_eq_getElem (by omega))
    generalize S k = si at *
    generalize S (k + 1) = sj at *
    obtain ⟨Ii, ai⟩ := si
    obtain ⟨Ij, aj⟩ := sj
    cases hs with
    | skip => exact ih
    | val => exact ih
    | ty d R hdd =>
      show List.lookup t ((d, R) :: Ii) = none
      rw [List.lookup_cons]
      have : (t == d) = false := by simp; intro e; exact hd (by rw [hdd, e])
      simp only [this]
      exact ih

/-- WHATEVER ORDER IS DRAWN -/
theorem wpAny_lax {md : Region.Mode} {Q' : Exit → Act → World → Prop} (hC : ∀ w w', C w → Below w.heap.size w w' → C w') {a0 : Act} {S : Nat → Lx × Act} (hS0 : S 0 = ([], a0))
    {n : Nat} (hn : n ≤ ops.size) (hst : ∀ (k : Nat) (o : Oper), k < n → ops[k]? = some o → StepT P ops C o (S k).1 (S k).2 (S (k + 1)).1 (S (k + 1)).2)
    (hin : ∀ (k : Nat) (o : Oper) (d : Tmp), ops[k]? = some o → o.dst = some d → d < a0.tmps.size)
    (hone : ∀ (j k : Nat) (x y : Oper) (d : Tmp), ops[j]? = some x → ops[k]? = some y → x.dst = some d → y.dst = some d → j = k)
    (hlex : ∀ (i : Nat) (oi : Oper), ops[i]? = some oi → (∀ e ∈ oi.after, Region.binds md e = true → e.on < i) ∧ ∀ j oj, i < j → ops[j]? = some oj → (∃ e ∈ oj.after, Region.binds md e = true ∧ e.on = i) ∨ oi.apart ops oj = true)
    (hwait : ∀ (i : Nat) (oi : Oper), n ≤ i → ops[i]? = some oi → ∀ j, j < n → ∃ e ∈ oi.after, Region.binds md e = true ∧ e.on = j)
    (hfin : ∀ (fuel : Nat) (listed : Array Bool) (a1 : Act) (w1 : World), (∃ s, (List.range ops.size).filter (fun i => !listed.getD i true) = s ∧ s.length = fuel) → listed.size = ops.size → (∀ i, i < n → listed.getD i true = true) → (∀ j, n ≤ j → j < ops.size → listed.getD j true = false) → Rep C (S n).1 (S n).2 a1 w1 → wpAny P md ops Q' fuel listed a1 w1) :
    ∀ (fuel : Nat) (listed : Array Bool) (a1 : Act) (w1 : World), (∃ s, (List.range ops.size).filter (fun i => !listed.getD i true) = s ∧ s.length = fuel) → RunInv md n ops C a0 S listed a1 w1 → wpAny P md ops Q' fuel listed a1 w1 := by
  -- all that is not listed: none is ready only if none is left
  have hready : ∀ listed : Array Bool, listed.size = ops.size → Region.ready md ops listed = [] → ∀ i, i < ops.size → listed.getD i true = true := by
    intro listed hls hr i
    induction i using Nat.strongRecOn with
    | _ i ih =>
      intro hi
      rcases hb : listed.getD i true with _ | _
      · exfalso
        have : i ∈ Region.ready md ops listed := by
          refine mem_ready.2 ⟨hb, ops[i], Array.getElem?_eq_getElem hi, fun e he hbd => ?_⟩
          have h1 := (hlex i _ (Array.getElem?_eq_getElem hi)).1 e he hbd
          have h2 := ih e.on h1 (by omega)
          have h3 : e.on < listed.size := by omega
          simpa [h3] using h2
        rw [hr] at this
        cases this
      · rfl
  have hend : ∀ (fuel : Nat) (listed : Array Bool) (a1 : Act) (w1 : World), (∃ s, (List.range ops.size).filter (fun i => !listed.getD i true) = s ∧ s.length = fuel) → RunInv md n ops C a0 S listed a1 w1 → (∀ i, i < n → listed.getD i true = true) → wpAny P md ops Q' fuel listed a1 w1 := by
    intro fuel listed a1 w1 hcnt hI hall
    have hsz := path_sizes hS0 hn hst n (Nat.le_refl _)
    refine hfin fuel listed a1 w1 hcnt hI.lsize hall hI.tail ⟨hI.world, hI.defers.trans hsz.2.symm, hI.size.trans hsz.1.symm, fun t => ?_⟩
    by_cases hw : ∃ (j : Nat) (oj : Oper), j < n ∧ ops[j]? = some oj ∧ oj.dst = some t
    · obtain ⟨j, oj, hjn, hj, hd⟩ := hw
      have hjl := (Array.getElem?_eq_some_iff.1 hj).1
      have hl : listed.getD j false = true := by
        have h1 := hall j hjn
        have h2 : j < listed.size := by rw [hI.lsize]; exact hjl
        simpa [h2] using h1
      have h1 := hI.done j oj t hj hl hd
      have h2 := path_other hS0 hn hst hin (t := t) (a1.tmps.getD t undef) w1 (j + 1) (n - (j + 1)) (by omega) (fun i oi h1 h2 hi hdi => by
        have := hone i j oi oj t hi hj hdi hd; omega)
      rw [show j + 1 + (n - (j + 1)) = n by omega] at h2
      exact h2.2 h1
    · have h1 := hI.rest t (fun j oj hj hl hd => by
        by_cases hjn : j < n
        · exact hw ⟨j, oj, hjn, hj, hd⟩
        · have hjl := (Array.getElem?_eq_some_iff.1 hj).1
          have := hI.tail j (by omega) hjl
          have h2 : j < listed.size := by rw [hI.lsize]; exact hjl
          simp [h2] at this hl
          rw [this] at hl; cases hl)
      have h2 := path_other hS0 hn hst hin (t := t) (a1.tmps.getD t undef) w1 0 n (by omega) (fun j oj _ h2 hj hd => hw ⟨j, oj, by omega, hj, hd⟩)
      rw [Nat.zero_add] at h2
      exact h2.2 ((slot0 hS0 t _ w1).2 h1)
  intro fuel
  induction fuel with
  | zero =>
    rintro listed a1 w1 ⟨s, hs, hlen⟩ hI
    refine hend 0 listed a1 w1 ⟨s, hs, hlen⟩ hI (fun i hi => ?_)
    have hnil : s = [] := List.eq_nil_of_length_eq_zero hlen
    subst hnil
    have := List.filter_eq_nil_iff.1 hs i (List.mem_range.2 (by omega))
    simpa using this
  | succ fuel ih =>
    rintro listed a1 w1 ⟨s, hs, hlen⟩ hI
    by_cases hdone : ∀ i, i < n → listed.getD i true = true
    · exact hend (fuel + 1) listed a1 w1 ⟨s, hs, hlen⟩ hI hdone
    refine ⟨fun h0 => absurd (fun i hi => hready listed hI.lsize h0 i (by omega)) hdone, fun i hi => ?_⟩
    obtain ⟨hun, oi, hoi, hall⟩ := mem_ready.1 hi
    have hin' : i < n := by
      rcases Nat.lt_or_ge i n with h | h
      · exact h
      · exfalso
        refine hdone (fun j hj => ?_)
        obtain ⟨e, he, hb, heq⟩ := hwait i oi h hoi j hj
        have h1 := hall e he hb
        rw [heq] at h1
        have h2 : j < listed.size := by rw [hI.lsize]; omega
        simpa [h2] using h1
    have hil := (Array.getElem?_eq_some_iff.1 hoi).1
    have hill : i < listed.size := by rw [hI.lsize]; exact hil
    have hunf : listed.getD i false = false := by simpa [hill] using hun
    have hcount : ∃ s', (List.range ops.size).filter (fun j => !(listed.setIfInBounds i true).getD j true) = s' ∧ s'.length = fuel := by
      refine ⟨_, rfl, ?_⟩
      have hn : (List.range ops.size).Nodup := List.nodup_range
      have e : (List.range ops.size).filter (fun j => !(listed.setIfInBounds i true).getD j true) = ((List.range ops.size).filter fun j => !listed.getD j true).erase i := by
        rw [List.Nodup.erase_eq_filter (List.Pairwise.filter _ hn), List.filter_filter]
        apply List.filter_congr
        intro j hj
        by_cases hji : j = i
        · subst hji; simp [hill]
        · rw [getD_set_ne true (Ne.symm hji)]; simp [hji]
      rw [e, List.length_erase_of_mem (List.mem_filter.2 ⟨List.mem_range.2 hil, by simp only [hun]; rfl⟩), hs, hlen]
      rfl
    -- what the operation looks at is as the walk had it
    have hlook : ∀ t ∈ oi.looksAt ops, slotIs (S i).1 (S i).2 t (a1.tmps.getD t undef) w1 := by
      intro t ht
      have hback : (∀ (j : Nat) (oj : Oper), ops[j]? = some oj → oj.dst = some t → i ≤ j) → (∀ (j : Nat) (oj : Oper), ops[j]? = some oj → oj.dst = some t → listed.getD j false = false) → slotIs (S i).1 (S i).2 t (a1.tmps.getD t undef) w1 := by
        intro h1 h2
        have h3 := path_other hS0 hn hst hin (t := t) (a1.tmps.getD t undef) w1 0 i (by omega) (fun j oj _ hj ho hd => by have := h1 j oj ho hd; omega)
        rw [Nat.zero_add] at h3
        refine h3.2 ((slot0 hS0 t _ w1).2 (hI.rest t (fun j oj hj hl hd => ?_)))
        rw [h2 j oj hj hd] at hl; cases hl
      by_cases hw : ∃ (j : Nat) (oj : Oper), ops[j]? = some oj ∧ oj.dst = some t
      · obtain ⟨j, oj, hj, hd⟩ := hw
        have huniq : ∀ (j' : Nat) (oj' : Oper), ops[j']? = some oj' → oj'.dst = some t → j' = j := fun j' oj' h1 h2 => hone j' j oj' oj t h1 hj h2 hd
        rcases Nat.lt_trichotomy j i with hji | hji | hji
        · rcases (hlex j oj hj).2 i oi hji hoi with ⟨e, he, hb, heq⟩ | hap
          · have hl : listed.getD j false = true := by rw [← heq]; exact hall e he hb
            have h1 := hI.done j oj t hj hl hd
            have h2 := path_other hS0 hn hst hin (t := t) (a1.tmps.getD t undef) w1 (j + 1) (i - (j + 1)) (by omega) (fun j' oj' h1 _ h3 h4 => by have := huniq j' oj' h3 h4; omega)
            rw [show j + 1 + (i - (j + 1)) = i by omega] at h2
            exact h2.2 h1
          · exact absurd ht ((Oper.apart_spec hap).1 t hd)
        · subst hji
          refine hback (fun j' oj' h1 h2 => by have := huniq j' oj' h1 h2; omega) (fun j' oj' h1 h2 => by rw [huniq j' oj' h1 h2]; exact hunf)
        · rcases (hlex i oi hoi).2 j oj hji hj with ⟨e, he, hb, heq⟩ | hap
          · refine hback (fun j' oj' h1 h2 => by have := huniq j' oj' h1 h2; omega) (fun j' oj' h1 h2 => ?_)
            rw [huniq j' oj' h1 h2]
            rcases hlj : listed.getD j false with _ | _
            · rfl
            · have := hI.closed j oj hj hlj e he hb
              rw [heq, hunf] at this; cases this
          · exact absurd ht ((Oper.apart_spec hap).2.2 t hd)
      · exact hback (fun j oj h1 h2 => absurd ⟨j, oj, h1, h2⟩ hw) (fun j oj h1 h2 => absurd ⟨j, oj, h1, h2⟩ hw)
    have hsz := path_sizes hS0 hn hst i (by omega)
    have hsame : a1.tmps.size = (S i).2.tmps.size := hI.size.trans hsz.1.symm
    -- behind it
    have hnext : ∀ (v : Value) (w' : World), (∀ d, oi.dst = some d → slotIs (S (i + 1)).1 (S (i + 1)).2 d v w') → Below w1.heap.size w1 w' → RunInv md n ops C a0 S (listed.setIfInBounds i true) (a1.put oi.dst v) w' := by
      intro v w' hv hb
      have hget : ∀ t, oi.dst ≠ some t → (a1.put oi.dst v).tmps.getD t undef = a1.tmps.getD t undef := by
        intro t ht
        cases hd : oi.dst with
        | none => rfl
        | some d => rw [put_getD a1 d t v (by rw [hI.size]; exact hin i oi d hoi hd), if_neg (fun e => ht (by rw [hd, e]))]
      have hlist : ∀ j, (listed.setIfInBounds i true).getD j false = true → j = i ∨ listed.getD j false = true := by
        intro j hj
        by_cases hji : j = i
        · exact .inl hji
        · rw [getD_set_ne false (Ne.symm hji)] at hj; exact .inr hj
      refine ⟨hC _ _ hI.world hb, (put_defers _ _ _).trans hI.defers, (put_size _ _ _).trans hI.size, by simpa using hI.lsize, fun j oj hj hl e he hbd => ?_, fun j hnj hjl => ?_, fun j oj d hj hl hd => ?_, fun t ht => ?_⟩
      · rcases hlist j hl with rfl | hl
        · obtain rfl : oj = oi := by rw [hoi] at hj; simpa using hj.symm
          exact getD_set_true (hall e he hbd)
        · exact getD_set_true (hI.closed j oj hj hl e he hbd)
      · rw [getD_set_ne true (by omega)]; exact hI.tail _ hnj hjl
      · rcases hlist j hl with rfl | hl
        · obtain rfl : oj = oi := by rw [hoi] at hj; simpa using hj.symm
          rw [hd, put_getD a1 d d v (by rw [hI.size]; exact hin j oj d hj hd), if_pos rfl]
          exact hv d hd
        · have hne : oi.dst ≠ some d := by
            intro h
            have := hone i j oi oj d hoi hj h hd
            subst this
            rw [hunf] at hl; cases hl
          rw [hget d hne]
          exact (hI.done j oj d hj hl hd).keep hb
      · have hne : oi.dst ≠ some t := ht i oi hoi (by simp [hill])
        rw [hget t hne]
        exact hI.rest t (fun j oj hj hl => ht j oj hj (getD_set_true hl))
    have hkey : ∀ d, oi.dst = some d → (S i).1.lookup d = none := fun d hd => path_keys hS0 hn hst i (by omega) (fun j oj h1 h2 h3 => by have := hone j i oj oi d h2 hoi h3 hd; omega)
    have hstep := hst i oi hin' hoi
    unfold wpOp
    simp only [hoi]
    generalize hSi : S i = si at *
    generalize hSj : S (i + 1) = sj at *
    obtain ⟨Ii, ai⟩ := si
    obtain ⟨Ij, aj⟩ := sj
    simp only at hstep hlook hnext hsame hkey
    cases hstep with
    | skip hg hw =>
      rw [wanted_looks hg hsame hlook, hw]
      simp only [Bool.false_eq_true, if_false]
      refine ih _ _ _ hcount (hnext undef w1 (fun d hd => ?_) (Below.refl _ _))
      unfold slotIs
      rw [hkey d hd, hd]
      simp only
      rw [put_getD ai d d undef (by rw [← hsame, hI.size]; exact hin i oi d hoi hd), if_pos rfl]
    | val v hg hw h =>
      rw [wanted_looks hg hsame hlook, hw]
      simp only [if_true]
      refine .inl (h a1 w1 hI.world hlook _ _ (fun u w' hu hb => ih _ _ _ hcount (hnext u w' (fun d hd => ?_) hb)))
      unfold slotIs
      rw [hkey d hd, hd]
      simp only
      rw [put_getD ai d d v (by rw [← hsame, hI.size]; exact hin i oi d hoi hd), if_pos rfl]
      exact hu
    | ty d R hd hg hw h =>
      rw [wanted_looks hg hsame hlook, hw]
      simp only [if_true]
      refine .inl (h a1 w1 hI.world hlook _ _ (fun u w' hu hb => ih _ _ _ hcount (hnext u w' (fun d' hd' => ?_) hb)))
      obtain rfl : d = d' := by rw [hd] at hd'; simpa using hd'
      unfold slotIs
      rw [List.lookup_cons]
      simp only [BEq.rfl]
      exact hu

theorem count_none (n : Nat) : (List.range n).filter (fun i => !(Array.replicate n false).getD i true) = List.range n := by
  apply List.filter_eq_self.2
  intro i hi
  have := List.mem_range.1 hi
  simp [this]

theorem start_inv {md : Region.Mode} {n : Nat} {a : Act} {w : World} {S : Nat → Lx × Act} (hC : C { w with drawn := w.drawn + 1 }) : RunInv md n ops C a S (Array.replicate ops.size false) a { w with drawn := w.drawn + 1 } := by
  have hf : ∀ j, (Array.replicate ops.size false).getD j false = true → False := by
    intro j hl
    by_cases hi : j < ops.size <;> simp [hi] at hl
  exact ⟨hC, rfl, rfl, by simp, fun j oj hj hl => (hf j hl).elim, fun j _ hj => by simp [hj], fun j oj d hj hl => (hf j hl).elim, fun t _ => rfl⟩

/-- THE REGION -/
theorem wp_region_lax {id : Nat} {Q : Exit → Act → World → Prop} {a : Act} {w : World} {l : List Oper} (hm : P.follows .mixedOrders = true) (hB : Region.lexB .any l.toArray = true) (hD : dstsB l a.tmps.size = true)
    (h : wpT P l.toArray (Below w.heap.size w) (fun a' w' => Q .normal a' w') l [] a) : (Code.region id l.toArray true).wp P Q a w := by
  obtain ⟨S, hS0, hst, hfin⟩ := wpT_path l [] a h
  have hB' : Region.lexFrom .any l.toArray l.toArray.size 0 (Array.replicate l.toArray.size false) = true := by
    simp only [Region.lexB, Bool.and_eq_true] at hB; exact hB.2
  refine wp_region_any hm ?_
  refine wpAny_lax (P := P) (ops := l.toArray) (C := Below w.heap.size w) (md := .any) (a0 := a) (S := S) (fun w1 w2 h1 h2 => h1.trans (h2.mono h1.size)) hS0 (n := l.toArray.size) (Nat.le_refl _) (fun k o _ hk => hst k o (by simpa using hk))
    (fun k o d hk hd => dsts_lt hD (k := k) (by simpa using hk) hd) (fun j k x y d hj hk hx hy => dsts_one hD (j := j) (k := k) (by simpa using hj) (by simpa using hk) hx hy)
    (fun i oi hi => lexFrom_free _ 0 _ hB' (by simp) (fun i => ?_) (by simp) i oi (Nat.zero_le _) hi) (fun i oi hi ho => absurd (Array.getElem?_eq_some_iff.1 ho).1 (by omega))
    (fun fuel listed a1 w1 ⟨s, hs, hlen⟩ hls hall _ hr => ?_) _ _ _ _ ⟨_, rfl, ?_⟩ (start_inv ⟨rfl, rfl, rfl, Nat.le_refl _, fun _ _ => rfl⟩)
  · by_cases hi : i < l.length
    · simp [hi]
    · simp [hi]; omega
  · have hq : Q .normal a1 w1 := hfin a1 w1 (by simpa using hr)
    have hnr : Region.ready .any l.toArray listed = [] := by
      apply List.eq_nil_iff_forall_not_mem.2
      intro i hi
      obtain ⟨h0, o, ho, _⟩ := mem_ready.1 hi
      have := hall i (Array.getElem?_eq_some_iff.1 ho).1
      rw [this] at h0; cases h0
    exact wpAny_done hnr hq fuel
  · rw [count_none]; simp

/-- all but the last operation are waited for by it -/
def waitsB (l : List Oper) : Bool := match l.getLast? with
  | some o => (List.range (l.length - 1)).all fun j => o.after.any fun e => Region.binds .any e && e.on == j
  | none => false

/-- THE REGION WITH A STORE AT ITS END: all else by the walk, then the last operation -/
theorem wp_region_laxT {id : Nat} {Q : Exit → Act → World → Prop} {a : Act} {w : World} {l : List Oper} (n : Nat) (hn : l.length = n + 1) (hm : P.follows .mixedOrders = true) (hB : Region.lexB .any l.toArray = true) (hD : dstsB l a.tmps.size = true) (hW : waitsB l = true)
    (h : wpT P l.toArray (Below w.heap.size w) (fun a' w' => wpList P l.toArray Q (l.drop n) a' w') (l.take n) [] a) : (Code.region id l.toArray true).wp P Q a w := by
  obtain ⟨S, hS0, hst, hfin⟩ := wpT_path (l.take n) [] a h
  have hB' : Region.lexFrom .any l.toArray l.toArray.size 0 (Array.replicate l.toArray.size false) = true := by
    simp only [Region.lexB, Bool.and_eq_true] at hB; exact hB.2
  have hsz : l.toArray.size = n + 1 := by simpa using hn
  obtain ⟨o, ho⟩ : ∃ o, l[n]? = some o := ⟨l[n], by simp [hn]⟩
  have hlast : l.getLast? = some o := by rw [List.getLast?_eq_getElem?, hn]; exact ho
  have hdrop : l.drop n = [o] := by
    have h1 : n < l.length := by omega
    rw [List.drop_eq_getElem_cons h1, List.drop_eq_nil_of_le (by omega)]
    rw [List.getElem?_eq_getElem h1] at ho
    rw [Option.some.inj ho]
  have hlen : (l.take n).length = n := by rw [List.length_take]; omega
  refine wp_region_any hm ?_
  refine wpAny_lax (P := P) (ops := l.toArray) (C := Below w.heap.size w) (md := .any) (a0 := a) (S := S) (fun w1 w2 h1 h2 => h1.trans (h2.mono h1.size)) hS0 (n := n) (by omega) (fun k o' hk ho' => hst k o' (by rw [List.getElem?_take_of_lt hk]; simpa using ho'))
    (fun k o d hk hd => dsts_lt hD (k := k) (by simpa using hk) hd) (fun j k x y d hj hk hx hy => dsts_one hD (j := j) (k := k) (by simpa using hj) (by simpa using hk) hx hy)
    (fun i oi hi => lexFrom_free _ 0 _ hB' (by simp) (fun i => ?_) (by simp) i oi (Nat.zero_le _) hi) (fun i oi hi hoi j hj => ?_)
    (fun fuel listed a1 w1 ⟨s, hs, hcnt⟩ hls hall htail hr => ?_) _ _ _ _ ⟨_, rfl, ?_⟩ (start_inv ⟨rfl, rfl, rfl, Nat.le_refl _, fun _ _ => rfl⟩)
  · by_cases hi : i < l.length
    · simp [hi]
    · simp [hi]; omega
  · have hil := (Array.getElem?_eq_some_iff.1 hoi).1
    obtain rfl : i = n := by omega
    obtain rfl : o = oi := by have : l[i]? = some oi := by simpa using hoi
                              rw [ho] at this; exact Option.some.inj this
    unfold waitsB at hW
    rw [hlast] at hW
    simp only [List.all_eq_true, List.mem_range] at hW
    obtain ⟨e, he, hb⟩ := Array.any_eq_true'.1 (hW j (by omega))
    simp only [Bool.and_eq_true, beq_iff_eq] at hb
    exact ⟨e, he, hb.1, hb.2⟩
  · -- only the last one is left
    have hq : wpList P l.toArray Q [o] a1 w1 := by
      have := hfin a1 w1 (by rw [hlen]; exact hr)
      rwa [hdrop] at this
    have hnl : listed.getD n true = false := htail n (Nat.le_refl _) (by omega)
    have hfuel : fuel = 1 := by
      rw [← hcnt, ← hs, hsz, List.range_succ, List.filter_append]
      have : (List.range n).filter (fun i => !listed.getD i true) = [] := by
        apply List.filter_eq_nil_iff.2
        intro i hi
        rw [hall i (List.mem_range.1 hi)]
        simp
      rw [this]
      simp only [List.nil_append, List.filter_cons, hnl]
      rfl
    subst hfuel
    have hon : l.toArray[n]? = some o := by simpa using ho
    refine ⟨fun h0 => ?_, fun i hi => ?_⟩
    · exfalso
      have : n ∈ Region.ready .any l.toArray listed := by
        refine mem_ready.2 ⟨hnl, o, hon, fun e he hb => ?_⟩
        have h1 := (lexFrom_free _ 0 _ hB' (by simp) (fun i => by by_cases hi : i < l.length <;> simp [hi]; omega) (by simp) n o (Nat.zero_le _) hon).1 e he hb
        have h2 := hall e.on h1
        have h3 : e.on < listed.size := by omega
        simpa [h3] using h2
      rw [h0] at this; cases this
    · obtain ⟨hun, oi, hoi, _⟩ := mem_ready.1 hi
      have hil := (Array.getElem?_eq_some_iff.1 hoi).1
      obtain rfl : i = n := by
        rcases Nat.lt_or_ge i n with h1 | h1
        · rw [hall i h1] at hun; cases hun
        · omega
      have hnr : Region.ready .any l.toArray (listed.setIfInBounds i true) = [] := by
        apply List.eq_nil_iff_forall_not_mem.2
        intro j hj
        obtain ⟨h0, oj, hoj, _⟩ := mem_ready.1 hj
        have hjl := (Array.getElem?_eq_some_iff.1 hoj).1
        by_cases hji : j = i
        · subst hji
          have h3 : j < listed.size := by omega
          simp [h3] at h0
        · rw [getD_set_ne true (Ne.symm hji), hall j (by omega)] at h0; cases h0
      have hmono : ∀ a2 w2, wpList P l.toArray Q [] a2 w2 → wpAny P .any l.toArray Q 0 (listed.setIfInBounds i true) a2 w2 := fun a2 w2 h2 => wpAny_done hnr h2 0
      unfold wpOp
      simp only [hon]
      unfold wpList at hq
      split
      · rename_i hw
        rw [if_pos hw] at hq
        exact hq.imp (Oper.wp_mono hmono) (fun h => h)
      · rename_i hw
        rw [if_neg hw] at hq
        exact hmono _ _ hq
  · rw [count_none]; simp

/-! ### The steps of the walk -/
section steps
variable {Q : Act → World → Prop} {o : Oper} {rest : List Oper} {I : Lx} {a : Act}

theorem wpT_skip (hg : guardKnown ops o I = true) (hw : Region.wanted o (yielded ops a.tmps) = false) (k : wpT P ops C Q rest I (a.put o.dst undef)) : wpT P ops C Q (o :: rest) I a :=
  ⟨_, _, .skip hg hw, k⟩

/-- an operand that is known -/
def known (I : Lx) : Operand → Bool
  | .tmp t => (I.lookup t).isNone
  | _ => true

theorem looks_of_operand {x : Operand} {t : Tmp} (h : x ∈ o.op.operands) (hx : x = .tmp t) : t ∈ o.looksAt ops :=
  List.mem_append_left _ (List.mem_filterMap.2 ⟨x, by simpa using h, by rw [hx]⟩)

theorem known_eval {x : Operand} {a1 : Act} {w : World} (hx : known I x = true) (hm : x ∈ o.op.operands) (ht : ∀ t ∈ o.looksAt ops, slotIs I a t (a1.tmps.getD t undef) w) : a1.eval x = a.eval x := by
  cases x with
  | tmp t =>
    have h := ht t (looks_of_operand hm rfl)
    unfold slotIs at h
    have : I.lookup t = none := by simpa [known] using hx
    rw [this] at h
    exact h
  | _ => rfl

theorem wpT_move {x : Operand} (v : Value) (ho : o.op = .move x) (hv : a.eval x = v) (hx : known I x = true) (hg : guardKnown ops o I = true) (hw : Region.wanted o (yielded ops a.tmps) = true) (k : wpT P ops C Q rest I (a.put o.dst v)) : wpT P ops C Q (o :: rest) I a :=
  ⟨_, _, .val v hg hw (fun a1 w _ ht K Q' hK => by
    have e := known_eval hx (by rw [ho]; simp [Op.operands]) ht
    unfold Oper.wp
    simp only [ho, execOp]
    rw [e, hv]
    exact hK _ _ rfl (Below.refl _ _)), k⟩

theorem wpT_assign {x : Operand} (v : Value) (ho : o.op = .assign x) (hv : a.eval x = v) (hx : known I x = true) (hg : guardKnown ops o I = true) (hw : Region.wanted o (yielded ops a.tmps) = true) (k : wpT P ops C Q rest I (a.put o.dst v)) : wpT P ops C Q (o :: rest) I a :=
  ⟨_, _, .val v hg hw (fun a1 w _ ht K Q' hK => by
    have e := known_eval hx (by rw [ho]; simp [Op.operands]) ht
    unfold Oper.wp
    simp only [ho, execOp]
    rw [e, hv]
    exact hK _ _ rfl (Below.refl _ _)), k⟩

def notSelect (o : Oper) : Bool := match o.op with | .select .. => false | _ => true

/-- an operation over known slots: run once, in any world of the class -/
theorem wpT_run (v : Value) (hs : notSelect o = true) (hl : (o.op.operands.toList.all (known I)) = true) (hg : guardKnown ops o I = true) (hw : Region.wanted o (yielded ops a.tmps) = true)
    (hrun : ∀ w, C w → (execOp a.eval o).run P w = .ok (.value v) w) (k : wpT P ops C Q rest I (a.put o.dst v)) : wpT P ops C Q (o :: rest) I a :=
  ⟨_, _, .val v hg hw (fun a1 w hC ht K Q' hK => by
    have e : execOp a1.eval o = execOp a.eval o := execOp_congr o (fun cs b h => by simp [notSelect, h] at hs) fun x hx => known_eval (by
      simp only [List.all_eq_true] at hl
      exact hl x (by simpa using hx)) hx ht
    unfold Oper.wp
    rw [e, hrun w hC]
    exact hK _ _ rfl (Below.refl _ _)), k⟩

/-- .. and the value is a new thing -/
theorem wpT_runT {d : Tmp} (R : Ty) (hd : o.dst = some d) (hs : notSelect o = true) (hl : (o.op.operands.toList.all (known I)) = true) (hg : guardKnown ops o I = true) (hw : Region.wanted o (yielded ops a.tmps) = true)
    (hrun : ∀ w, C w → ∃ v w', (execOp a.eval o).run P w = .ok (.value v) w' ∧ R.holds v w' ∧ Below w.heap.size w w') (k : wpT P ops C Q rest ((d, R) :: I) a) : wpT P ops C Q (o :: rest) I a :=
  ⟨_, _, .ty d R hd hg hw (fun a1 w hC ht K Q' hK => by
    have e : execOp a1.eval o = execOp a.eval o := execOp_congr o (fun cs b h => by simp [notSelect, h] at hs) fun x hx => known_eval (by
      simp only [List.all_eq_true] at hl
      exact hl x (by simpa using hx)) hx ht
    obtain ⟨v, w', h1, h3, h2⟩ := hrun w hC
    unfold Oper.wp
    rw [e, h1]
    exact hK _ _ h3 h2), k⟩

def isTmp (t : Tmp) : Operand → Bool
  | .tmp s => s == t
  | _ => false
theorem isTmp_eq {t : Tmp} {x : Operand} (h : isTmp t x = true) : x = .tmp t := by
  cases x with
  | tmp s => have : s = t := by simpa [isTmp] using h
             rw [this]
  | _ => simp [isTmp] at h
theorem isTmp_self (t : Tmp) : isTmp t (.tmp t) = true := by simp [isTmp]

/-- a call over known slots -/
theorem wpT_call (v : Value) {f : FuncId} (args : Array Value) (hs : notSelect o = true) (hl : (o.op.operands.toList.all (known I)) = true) (hg : guardKnown ops o I = true) (hw : Region.wanted o (yielded ops a.tmps) = true)
    (hent : ∀ w, (execOp a.eval o).run P w = .ok (.enter f args) w) (hc : ∀ w, C w → Calls P f args w fun e w' => e = .returned v ∧ Below w.heap.size w w') (k : wpT P ops C Q rest I (a.put o.dst v)) : wpT P ops C Q (o :: rest) I a :=
  ⟨_, _, .val v hg hw (fun a1 w hC ht K Q' hK => by
    have e : execOp a1.eval o = execOp a.eval o := execOp_congr o (fun cs b h => by simp [notSelect, h] at hs) fun x hx => known_eval (by
      simp only [List.all_eq_true] at hl
      exact hl x (by simpa using hx)) hx ht
    unfold Oper.wp
    rw [e, hent w]
    exact (hc w hC).mono fun e w' ⟨he, hb⟩ => by subst he; exact hK _ _ rfl hb), k⟩

/-- a call over one slot that is not known, and known ones -/
theorem gives_callU {t : Tmp} {R R' : Ty} {f : FuncId} (args : Value → Array Value) (hx : I.lookup t = some R) (hm : (Operand.tmp t) ∈ o.op.operands) (hs : notSelect o = true) (hl : (o.op.operands.toList.all fun x => known I x || isTmp t x) = true)
    (hent : ∀ (u : Value) w (ρ : Operand → Value), ρ (.tmp t) = u → (∀ x, known I x = true → ρ x = a.eval x) → (execOp ρ o).run P w = .ok (.enter f (args u)) w)
    (hc : ∀ (u : Value) w, C w → R.holds u w → Calls P f (args u) w fun e w' => ∃ v, e = .returned v ∧ R'.holds v w' ∧ Below w.heap.size w w') : Gives P ops C o I a R' := fun a1 w hC ht K Q' hK => by
    have h : slotIs I a t (a1.tmps.getD t undef) w := ht t (looks_of_operand hm rfl)
    unfold slotIs at h
    rw [hx] at h
    have e : execOp a1.eval o = execOp (fun x => if isTmp t x = true then a1.tmps.getD t undef else a.eval x) o := execOp_congr o (fun cs b h => by simp [notSelect, h] at hs) fun x hxm => by
      by_cases hxt : isTmp t x = true
      · rw [if_pos hxt, isTmp_eq hxt]; rfl
      · rw [if_neg hxt]
        simp only [List.all_eq_true] at hl
        have h1 := hl x (by simpa using hxm)
        have h2 : known I x = true := by simpa [hxt] using h1
        exact known_eval h2 hxm ht
    have h1 := hent (a1.tmps.getD t undef) w (fun x => if isTmp t x = true then a1.tmps.getD t undef else a.eval x) (by rw [if_pos (isTmp_self t)]) (fun x hk => by
      by_cases hxt : isTmp t x = true
      · rw [isTmp_eq hxt] at hk; simp [known, hx] at hk
      · rw [if_neg hxt])
    unfold Oper.wp
    rw [e, h1]
    exact (hc _ w hC h).mono fun e w' ⟨v, he, hv, hb⟩ => by subst he; exact hK _ _ hv hb

theorem wpT_callUV {t : Tmp} {R : Ty} (v : Value) {f : FuncId} (args : Value → Array Value) (hx : I.lookup t = some R) (hm : (Operand.tmp t) ∈ o.op.operands) (hs : notSelect o = true) (hl : (o.op.operands.toList.all fun x => known I x || isTmp t x) = true) (hg : guardKnown ops o I = true) (hw : Region.wanted o (yielded ops a.tmps) = true)
    (hent : ∀ (u : Value) w (ρ : Operand → Value), ρ (.tmp t) = u → (∀ x, known I x = true → ρ x = a.eval x) → (execOp ρ o).run P w = .ok (.enter f (args u)) w)
    (hc : ∀ (u : Value) w, C w → R.holds u w → Calls P f (args u) w fun e w' => e = .returned v ∧ Below w.heap.size w w') (k : wpT P ops C Q rest I (a.put o.dst v)) : wpT P ops C Q (o :: rest) I a :=
  ⟨_, _, .val v hg hw (gives_callU (R' := Ty.is v) args hx hm hs hl hent (fun u w h1 h2 => (hc u w h1 h2).mono fun _ _ h => ⟨v, h.1, rfl, h.2⟩)), k⟩

/-- what is asked at the end: whatever the slots that are not known hold -/
def FinQ (Q : Act → World → Prop) : Lx → Act → World → Prop
  | [], a, w => Q a w
  | (d, R) :: I, a, w => ∀ v, R.holds v w → FinQ Q I (a.put (some d) v) w

theorem rep_fin {n : Nat} : ∀ (I : Lx) (a a1 : Act) (w1 : World), a.tmps.size = n → (I.map (·.1)).Nodup → (∀ d ∈ I.map (·.1), d < n) → Rep C I a a1 w1 → FinQ Q I a w1 → Q a1 w1
  | [], a, a1, w1, hn, _, _, h, hq => by
    have : a1 = a := by
      obtain ⟨t1, d1⟩ := a1
      obtain ⟨t0, d0⟩ := a
      have e1 : t1 = t0 := by
        have hs : t1.size = t0.size := h.size
        apply Array.ext hs
        intro i h1 h2
        have := h.slot i
        have e : t1.getD i undef = t0.getD i undef := this
        simpa [h1, h2] using e
      have e2 : d1 = d0 := h.defers
      rw [e1, e2]
    rw [this]; exact hq
  | (d, R) :: I, a, a1, w1, hn, hk, hr, h, hq => by
    have hd : R.holds (a1.tmps.getD d undef) w1 := by
      have := h.slot d
      unfold slotIs at this
      rw [List.lookup_cons] at this
      simpa using this
    simp only [List.map_cons, List.nodup_cons] at hk
    have hdn : d < a.tmps.size := by rw [hn]; exact hr d (by simp)
    refine rep_fin I (a.put (some d) (a1.tmps.getD d undef)) a1 w1 (by rw [put_size]; exact hn) hk.2 (fun d' hd' => hr d' (by simp only [List.map_cons, List.mem_cons]; exact .inr hd')) ⟨h.world, by rw [put_defers]; exact h.defers, by rw [put_size]; exact h.size, fun t => ?_⟩ (hq _ hd)
    by_cases ht : t = d
    · subst ht
      have hno : I.lookup t = none := by
        cases hl : I.lookup t with
        | none => rfl
        | some R' =>
          exfalso
          have := List.lookup_eq_some_iff.1 hl
          obtain ⟨l1, l2, e, _⟩ := this
          exact hk.1 (by rw [e]; simp)
      unfold slotIs
      rw [hno]
      simp only
      rw [put_getD a t t _ hdn, if_pos rfl]
    · have := h.slot t
      unfold slotIs at this ⊢
      rw [List.lookup_cons] at this
      have hb : (t == d) = false := by simpa using ht
      simp only [hb] at this
      rw [put_getD a d t _ hdn, if_neg ht]
      exact this

theorem wpT_end (hk : ((I.map (·.1)).Nodup && (I.map (·.1)).all (· < a.tmps.size)) = true) (h : ∀ w, C w → FinQ Q I a w) : wpT P ops C Q [] I a := fun a1 w1 hr => by
  simp only [Bool.and_eq_true, decide_eq_true_eq, List.all_eq_true] at hk
  exact rep_fin I a a1 w1 rfl hk.1 hk.2 hr (h w1 hr.world)
end steps


/-! ### The same over a frame that is a list -/
section lists
variable {Q : Act → World → Prop} {o : Oper} {rest : List Oper} {I : Lx} {fs : List Value} {ds : List Deferred}

def mkA (fs : List Value) (ds : List Deferred) : Act := ⟨fs.toArray, ds⟩
def setL (fs : List Value) (d : Option Tmp) (v : Value) : List Value := match d with | some d => fs.set d v | none => fs
theorem mkA_put (d : Option Tmp) (v : Value) : (mkA fs ds).put d v = mkA (setL fs d v) ds := by
  cases d with
  | none => rfl
  | some d => simp [mkA, setL, Act.put]

/-- what an operand is -/
def ev (fs : List Value) : Operand → Value
  | .tmp t => fs.getD t undef
  | .const v => v
  | .global g => .pointer (some ⟨g, 0, none⟩)
  | .func f => .func (.func f) #[] #[]
theorem mkA_eval (x : Operand) : (mkA fs ds).eval x = ev fs x := by
  cases x with
  | tmp t => simp [mkA, ev, Act.eval]
  | _ => rfl
theorem mkA_evalF : (mkA fs ds).eval = ev fs := funext mkA_eval

def wantedL (ops : Array Oper) (fs : List Value) (o : Oper) : Bool :=
  match o.guard with
  | none => true
  | some (g, want) => match (ops.toList[g]?).bind (·.dst) with
    | none => Region.wanted o (fun _ => none)
    | some d => match fs[d]? with
      | some (.bool b) => Region.wanted o (fun _ => some b)
      | _ => Region.wanted o (fun _ => none)

theorem wantedL_eq : Region.wanted o (yielded ops (mkA fs ds).tmps) = wantedL ops fs o := by
  unfold wantedL Region.wanted
  cases hg : o.guard with
  | none => rfl
  | some gw =>
    obtain ⟨g, want⟩ := gw
    have e : ops.toList[g]? = ops[g]? := by simp
    simp only [e]
    have hy : yielded ops (mkA fs ds).tmps g = match (ops[g]?).bind (·.dst) with | none => none | some d => match fs[d]? with | some (.bool b) => some b | _ => none := by
      unfold yielded
      cases hd : (ops[g]?).bind (·.dst) with
      | none => rfl
      | some d =>
        simp only [mkA, Option.bind_some, List.getElem?_toArray]
        cases fs[d]? with
        | none => rfl
        | some v => cases v <;> rfl
    simp only [hy]
    cases hd : (ops[g]?).bind (·.dst) with
    | none => rfl
    | some d =>
      simp only
      cases fs[d]? with
      | none => rfl
      | some v => cases v <;> rfl

/-- THE WALK over a list -/
def wpL (P : Program) (ops : Array Oper) (C : World → Prop) (Q : Act → World → Prop) (ds : List Deferred) (l : List Oper) (I : Lx) (fs : List Value) : Prop := wpT P ops C Q l I (mkA fs ds)

theorem wp_lax_list {id : Nat} {Q : Exit → Act → World → Prop} {w : World} {l : List Oper} (hm : P.follows .mixedOrders = true) (hB : Region.lexB .any l.toArray = true) (hD : dstsB l fs.length = true)
    (h : wpL P l.toArray (Below w.heap.size w) (fun a' w' => Q .normal a' w') ds l [] fs) : (Code.region id l.toArray true).wp P Q ⟨fs.toArray, ds⟩ w :=
  wp_region_lax hm hB (by simpa using hD) h

/-- with a store at the region's end -/
theorem wp_laxT_list {id : Nat} {Q : Exit → Act → World → Prop} {w : World} {l : List Oper} (n : Nat) (hn : l.length = n + 1) (hm : P.follows .mixedOrders = true) (hB : Region.lexB .any l.toArray = true) (hD : dstsB l fs.length = true) (hW : waitsB l = true)
    (h : wpL P l.toArray (Below w.heap.size w) (fun a' w' => wpList P l.toArray Q (l.drop n) a' w') ds (l.take n) [] fs) : (Code.region id l.toArray true).wp P Q ⟨fs.toArray, ds⟩ w :=
  wp_region_laxT n hn hm hB (by simpa using hD) hW h

theorem wpL_skip (hg : guardKnown ops o I = true) (hw : wantedL ops fs o = false) (k : wpL P ops C Q ds rest I (setL fs o.dst undef)) : wpL P ops C Q ds (o :: rest) I fs :=
  wpT_skip hg (wantedL_eq.trans hw) (by rw [mkA_put]; exact k)

theorem wpL_move {x : Operand} (v : Value) (ho : o.op = .move x) (hv : ev fs x = v) (hx : known I x = true) (hg : guardKnown ops o I = true) (hw : wantedL ops fs o = true) (k : wpL P ops C Q ds rest I (setL fs o.dst v)) : wpL P ops C Q ds (o :: rest) I fs :=
  wpT_move v ho ((mkA_eval x).trans hv) hx hg (wantedL_eq.trans hw) (by rw [mkA_put]; exact k)
theorem wpL_assign {x : Operand} (v : Value) (ho : o.op = .assign x) (hv : ev fs x = v) (hx : known I x = true) (hg : guardKnown ops o I = true) (hw : wantedL ops fs o = true) (k : wpL P ops C Q ds rest I (setL fs o.dst v)) : wpL P ops C Q ds (o :: rest) I fs :=
  wpT_assign v ho ((mkA_eval x).trans hv) hx hg (wantedL_eq.trans hw) (by rw [mkA_put]; exact k)
theorem wpL_run (v : Value) (hs : notSelect o = true) (hl : (o.op.operands.toList.all (known I)) = true) (hg : guardKnown ops o I = true) (hw : wantedL ops fs o = true)
    (hrun : ∀ w, C w → (execOp (ev fs) o).run P w = .ok (.value v) w) (k : wpL P ops C Q ds rest I (setL fs o.dst v)) : wpL P ops C Q ds (o :: rest) I fs :=
  wpT_run v hs hl hg (wantedL_eq.trans hw) (by rw [mkA_evalF]; exact hrun) (by rw [mkA_put]; exact k)
theorem wpL_runT {d : Tmp} (R : Ty) (hd : o.dst = some d) (hs : notSelect o = true) (hl : (o.op.operands.toList.all (known I)) = true) (hg : guardKnown ops o I = true) (hw : wantedL ops fs o = true)
    (hrun : ∀ w, C w → ∃ v w', (execOp (ev fs) o).run P w = .ok (.value v) w' ∧ R.holds v w' ∧ Below w.heap.size w w') (k : wpL P ops C Q ds rest ((d, R) :: I) fs) : wpL P ops C Q ds (o :: rest) I fs :=
  wpT_runT R hd hs hl hg (wantedL_eq.trans hw) (by rw [mkA_evalF]; exact hrun) k
theorem wpL_call (v : Value) {f : FuncId} (args : Array Value) (hs : notSelect o = true) (hl : (o.op.operands.toList.all (known I)) = true) (hg : guardKnown ops o I = true) (hw : wantedL ops fs o = true)
    (hent : ∀ w, (execOp (ev fs) o).run P w = .ok (.enter f args) w) (hc : ∀ w, C w → Calls P f args w fun e w' => e = .returned v ∧ Below w.heap.size w w') (k : wpL P ops C Q ds rest I (setL fs o.dst v)) : wpL P ops C Q ds (o :: rest) I fs :=
  wpT_call v args hs hl hg (wantedL_eq.trans hw) (by rw [mkA_evalF]; exact hent) hc (by rw [mkA_put]; exact k)
theorem wpL_callUV {t : Tmp} {R : Ty} (v : Value) {f : FuncId} (args : Value → Array Value) (hx : I.lookup t = some R) (hm : (Operand.tmp t) ∈ o.op.operands) (hs : notSelect o = true) (hl : (o.op.operands.toList.all fun x => known I x || isTmp t x) = true) (hg : guardKnown ops o I = true) (hw : wantedL ops fs o = true)
    (hent : ∀ (u : Value) w (ρ : Operand → Value), ρ (.tmp t) = u → (∀ x, known I x = true → ρ x = ev fs x) → (execOp ρ o).run P w = .ok (.enter f (args u)) w)
    (hc : ∀ (u : Value) w, C w → R.holds u w → Calls P f (args u) w fun e w' => e = .returned v ∧ Below w.heap.size w w') (k : wpL P ops C Q ds rest I (setL fs o.dst v)) : wpL P ops C Q ds (o :: rest) I fs :=
  wpT_callUV v args hx hm hs hl hg (wantedL_eq.trans hw) (fun u w ρ h1 h2 => hent u w ρ h1 (fun x hx => (h2 x hx).trans (mkA_eval x))) hc (by rw [mkA_put]; exact k)

/-- run against a frame that is a variable, from what its operands are -/
theorem wpL_run1 {x : Operand} (vx v : Value) (hx : ev fs x = vx) (hs : notSelect o = true) (hl : (o.op.operands.toList.all (known I)) = true) (hg : guardKnown ops o I = true) (hw : wantedL ops fs o = true)
    (hrun : ∀ w (ρ : Operand → Value), C w → ρ x = vx → (∀ c, ρ (.const c) = c) → (execOp ρ o).run P w = .ok (.value v) w) (k : wpL P ops C Q ds rest I (setL fs o.dst v)) : wpL P ops C Q ds (o :: rest) I fs :=
  wpL_run v hs hl hg hw (fun w hC => hrun w _ hC hx fun _ => rfl) k
theorem wpL_run2 {x y : Operand} (vx vy v : Value) (hx : ev fs x = vx) (hy : ev fs y = vy) (hs : notSelect o = true) (hl : (o.op.operands.toList.all (known I)) = true) (hg : guardKnown ops o I = true) (hw : wantedL ops fs o = true)
    (hrun : ∀ w (ρ : Operand → Value), C w → ρ x = vx → ρ y = vy → (∀ c, ρ (.const c) = c) → (execOp ρ o).run P w = .ok (.value v) w) (k : wpL P ops C Q ds rest I (setL fs o.dst v)) : wpL P ops C Q ds (o :: rest) I fs :=
  wpL_run v hs hl hg hw (fun w hC => hrun w _ hC hx hy fun _ => rfl) k
theorem enter_of {P : Program} {f : FuncId} {xs : List Operand} {ts : Array TypeId} {o : Oper} {w : World} (ho : o.op = .call { callee := .value (.func f), args := xs.toArray, argTypes := ts }) (ρ : Operand → Value) (hρ : ρ (.func f) = .func (.func f) #[] #[])
    (hfn : ∀ (args : Array Value) w, (callFunc f args).run P w = .ok (.enter f args) w) : (execOp ρ o).run P w = .ok (.enter f (xs.map ρ).toArray) w := by
  simp [execOp, ho, resolve, hρ, Deferred.ofValue, invoke, go_sem, hfn]

theorem all_known {f : FuncId} {xs : List Operand} {ts : Array TypeId} (ho : o.op = .call { callee := .value (.func f), args := xs.toArray, argTypes := ts }) (hk : xs.all (known I) = true) : o.op.operands.toList.all (known I) = true := by
  rw [ho]
  simp [Op.operands, Call.operands, known] at *
  exact hk

/-- a call over known slots: its arguments by looking -/
theorem wpL_fn (v : Value) {f : FuncId} {xs : List Operand} {ts : Array TypeId} (args : List Value) (ho : o.op = .call { callee := .value (.func f), args := xs.toArray, argTypes := ts }) (ha : xs.map (ev fs) = args) (hk : xs.all (known I) = true) (hg : guardKnown ops o I = true) (hw : wantedL ops fs o = true)
    (hfn : ∀ (args : Array Value) w, (callFunc f args).run P w = .ok (.enter f args) w) (hc : ∀ w, C w → Calls P f args.toArray w fun e w' => e = .returned v ∧ Below w.heap.size w w') (k : wpL P ops C Q ds rest I (setL fs o.dst v)) : wpL P ops C Q ds (o :: rest) I fs :=
  wpL_call v args.toArray (by simp [notSelect, ho]) (all_known ho hk) hg hw (fun w => by rw [enter_of ho _ rfl hfn, ha]) hc k
theorem wpL_fnUV {t : Tmp} {R : Ty} (v : Value) {f : FuncId} {ts : Array TypeId} (ho : o.op = .call { callee := .value (.func f), args := #[.tmp t], argTypes := ts }) (hx : I.lookup t = some R) (hg : guardKnown ops o I = true) (hw : wantedL ops fs o = true)
    (hfn : ∀ (args : Array Value) w, (callFunc f args).run P w = .ok (.enter f args) w) (hc : ∀ (u : Value) w, C w → R.holds u w → Calls P f #[u] w fun e w' => e = .returned v ∧ Below w.heap.size w w') (k : wpL P ops C Q ds rest I (setL fs o.dst v)) : wpL P ops C Q ds (o :: rest) I fs :=
  wpL_callUV v (fun u => #[u]) hx (by rw [ho]; simp [Op.operands, Call.operands]) (by simp [notSelect, ho]) (by rw [ho]; simp [Op.operands, Call.operands, known, isTmp]) hg hw
    (fun u w ρ h1 h2 => by rw [enter_of (xs := [.tmp t]) ho ρ (h2 (.func f) rfl) hfn]; simp [h1]) hc k

/-- what is asked at the end -/
def FinL (Q : Act → World → Prop) (ds : List Deferred) : Lx → List Value → World → Prop
  | [], fs, w => Q ⟨fs.toArray, ds⟩ w
  | (d, R) :: I, fs, w => ∀ v, R.holds v w → FinL Q ds I (fs.set d v) w
theorem finL_finQ : ∀ (I : Lx) (fs : List Value) (w : World), FinL Q ds I fs w → FinQ Q I (mkA fs ds) w
  | [], _, _, h => h
  | (d, R) :: I, fs, w, h => fun v hv => by rw [mkA_put]; exact finL_finQ I _ w (h v hv)
theorem wpL_end (hk : ((I.map (·.1)).Nodup && (I.map (·.1)).all (· < fs.length)) = true) (h : ∀ w, C w → FinL Q ds I fs w) : wpL P ops C Q ds [] I fs :=
  wpT_end (by simpa [mkA] using hk) (fun w hw => finL_finQ I fs w (h w hw))
end lists

end
end Go.Own

end
section
namespace Go.Own
open Go.RowKit
section
variable {B : Nat} {w0 w w1 w2 : World} {Ps : List Asn}
/-- the second is let go -/
theorem St.drop2 {P Q : Asn} (H : St B w0 w (P :: Q :: Ps)) : St B w0 w (P :: Ps) := (H.perm (List.Perm.swap Q P Ps)).drop 1
theorem St.swap2 {P Q : Asn} (H : St B w0 w (P :: Q :: Ps)) : St B w0 w (Q :: P :: Ps) := H.perm (List.Perm.swap Q P Ps)
end
end Go.Own
namespace Go.Proofs.Ytepbdjgfaljbgaa
open Go.RowKit Go.Own
namespace Byt

section
variable {B : Nat} {w0 : World}
end
end Byt
end Go.Proofs.Ytepbdjgfaljbgaa

end
section
namespace Go.Own
open Go.RowKit

theorem run_equalIn_ints {P : Program} (d : Nat) (t e : TypeId) (k : IntKind) (l m : List Int) (hlm : l.length = m.length) (ht : P.underlying t = some (.array l.length e)) (he : P.underlying e = some (.int k)) (hse : ∀ w, (sizeOf e).run P w = .ok 1 w) (ha : ∀ w, (isAgg e).run P w = .ok false w) (w : World) :
    (Op.equalIn (d + 2) t (.agg (l.map (Value.int k)).toArray) (.agg (m.map (Value.int k)).toArray)).run P w = .ok (decide (l = m)) w := by
  rw [show d + 2 = (d + 1) + 1 from rfl, Op.equalIn]
  simp only [Sem.run_bind, run_underlying ht, Result.andThen_ok]
  simp only [Std.Legacy.Range.forIn_eq_forIn_range', Std.Legacy.Range.size, Nat.sub_zero, Nat.add_sub_cancel, Nat.div_one]
  simp only [hse, Result.andThen_ok, Nat.mul_one]
  have part_at : ∀ (l : List Int) (j : Nat) (h : j < l.length), (part e (l.map (Value.int k)).toArray j).run P w = .ok (.int k l[j]) w := by
    intro l j h
    unfold part
    simp only [Sem.run_bind, ha, Result.andThen_ok]
    simp [h, go_sem]
  obtain ⟨g, hg⟩ : ∃ g : Nat → Option Bool × Unit → Sem (ForInStep (Option Bool × Unit)), g = (fun i __s => do
            let __do_lift ← part e (List.map (Value.int k) l).toArray i
            let __do_lift_1 ← part e (List.map (Value.int k) m).toArray i
            let __do_lift ← Op.equalIn (d + 1) e __do_lift __do_lift_1
            if (!__do_lift) = true then pure (ForInStep.done (some false, ())) else pure (ForInStep.yield (none, ()))) := ⟨_, rfl⟩
  have hrun : ∀ (j : Nat) (h1 : j < l.length) (h2 : j < m.length), (g j (none, ())).run P w = .ok (if l[j] = m[j] then ForInStep.yield (none, ()) else ForInStep.done (some false, ())) w := by
    intro j h1 h2
    rw [hg]
    simp only [Sem.run_bind, part_at l j h1, part_at m j h2, Result.andThen_ok, run_equalIn_int _ d e k k _ _ he]
    by_cases h : l[j] = m[j]
    · rw [if_pos h, h]; simp
    · rw [if_neg h]; simp [h]
  rw [← hg]
  clear hg
  have aux : ∀ (s j : Nat), j + s = l.length → (forIn (m := Sem) (List.range' j s) ((none, ()) : Option Bool × Unit) g).run P w =
      .ok (if l.drop j = m.drop j then (none, ()) else (some false, ())) w := by
    intro s
    induction s with
    | zero =>
      intro j hj
      rw [List.drop_eq_nil_of_le (by omega), List.drop_eq_nil_of_le (by omega)]
      simp
    | succ s ih =>
      intro j hj
      have h1 : j < l.length := by omega
      have h2 : j < m.length := by omega
      rw [List.range'_succ, List.forIn_cons, Sem.run_bind, hrun j h1 h2, Result.andThen_ok]
      have e1 : l.drop j = l[j] :: l.drop (j + 1) := List.drop_eq_getElem_cons h1
      have e2 : m.drop j = m[j] :: m.drop (j + 1) := List.drop_eq_getElem_cons h2
      by_cases h : l[j] = m[j]
      · rw [if_pos h]
        show (forIn (m := Sem) (List.range' (j + 1) s) ((none, ()) : Option Bool × Unit) g).run P w = _
        rw [ih (j + 1) (by omega), e1, e2, h]
        by_cases hd : l.drop (j + 1) = m.drop (j + 1)
        · rw [if_pos hd, if_pos (by rw [hd])]
        · rw [if_neg hd, if_neg (fun hc => hd (List.cons.inj hc).2)]
      · rw [if_neg h, if_neg]
        · simp
        · rw [e1, e2]
          intro hc
          exact h (List.cons.inj hc).1
  rw [aux l.length 0 (by omega)]
  simp only [List.drop_zero]
  by_cases h : l = m
  · simp [h]
  · simp [h]

end Go.Own

end
