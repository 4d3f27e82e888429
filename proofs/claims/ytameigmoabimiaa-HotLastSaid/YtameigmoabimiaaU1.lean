/- Merged: GhoM HotM TabM Own Heap Obj Arr Str In Byt Gri Giv Lax -/
import Derived.WalkKit
import Derived.Deep.RegionLaw
import Derived.Deep.Draws
import Derived.Deep.MidRow
import Derived.Laws.Rows
import Derived.Lib.SlBytesRow
import Derived.Lib.Strings
import Derived.Deep.Slices
import Derived.OpenShut
import Derived.Test.YtameigmoabimiaaRows
import Derived.OwnWalk
import Derived.Still
set_option linter.unusedVariables false
section
namespace Go.GhoM
structure G where
  L : List Nat
  room : Nat
def newG (room : Nat) : G := ⟨[], room⟩
def has (g : G) (a : Nat) : Bool := g.L.contains a
def drop (g : G) (a : Nat) : G := ⟨g.L.erase a, g.room⟩
def ask (g : G) (a : Nat) : G := if has g a then drop g a else ⟨(a :: g.L).take g.room, g.room⟩
structure Ok (g : G) : Prop where
  once : g.L.Nodup
  len : g.L.length ≤ g.room
  fits : ∀ a ∈ g.L, a < 4294967296
theorem has_iff {g : G} {a : Nat} : has g a = true ↔ a ∈ g.L := by unfold has; simp
theorem has_not {g : G} {a : Nat} : has g a = false ↔ a ∉ g.L := by
  rw [← has_iff]
  simp
theorem ok_new (room : Nat) : Ok (newG room) := ⟨List.nodup_nil, Nat.zero_le _, fun _ h => by cases h⟩
theorem ok_drop {g : G} (h : Ok g) (a : Nat) : Ok (drop g a) :=
  ⟨h.once.erase a, Nat.le_trans (List.length_erase_le ..) h.len, fun x hx => h.fits x (List.mem_of_mem_erase hx)⟩
theorem ok_ask {g : G} (h : Ok g) {a : Nat} (ha : a < 4294967296) : Ok (ask g a) := by
  unfold ask
  cases hb : has g a
  · rw [if_neg (by simp)]
    have hn := has_not.1 hb
    have hnd : (a :: g.L).Nodup := List.nodup_cons.2 ⟨hn, h.once⟩
    refine ⟨hnd.sublist (List.take_sublist ..), ?_, fun x hx => ?_⟩
    · show (List.take _ _).length ≤ g.room
      rw [List.length_take]; omega
    · have := List.mem_of_mem_take hx
      rcases List.mem_cons.1 this with rfl | h2
      · exact ha
      · exact h.fits x h2
  · rw [if_pos rfl]
    exact ok_drop h a
theorem ask_room (g : G) (a : Nat) : (ask g a).room = g.room := by
  unfold ask
  split <;> rfl
/-- the place of the first one that is a; the length, if none is -/
def find (a : Nat) : List Nat → Nat
  | [] => 0
  | x :: L => if x = a then 0 else find a L + 1
theorem find_le (a : Nat) : ∀ L, find a L ≤ L.length
  | [] => Nat.le_refl _
  | x :: L => by
    unfold find
    by_cases h : x = a
    · rw [if_pos h]; exact Nat.zero_le _
    · rw [if_neg h, List.length_cons]
      have := find_le a L
      omega
theorem find_at (a : Nat) : ∀ L : List Nat, find a L < L.length → L[find a L]? = some a
  | [], h => absurd h (Nat.lt_irrefl _)
  | x :: L, h => by
    unfold find at h ⊢
    by_cases he : x = a
    · rw [if_pos he, List.getElem?_cons_zero, he]
    · rw [if_neg he] at h ⊢
      rw [List.getElem?_cons_succ]
      rw [List.length_cons] at h
      exact find_at a L (by omega)
theorem find_before (a : Nat) : ∀ (L : List Nat) (i : Nat), i < find a L → L[i]? ≠ some a
  | [], i, h => absurd h (Nat.not_lt_zero _)
  | x :: L, i, h => by
    unfold find at h
    by_cases he : x = a
    · rw [if_pos he] at h; exact absurd h (Nat.not_lt_zero _)
    · rw [if_neg he] at h
      cases i with
      | zero => simpa using he
      | succ i =>
        rw [List.getElem?_cons_succ]
        exact find_before a L i (by omega)
theorem find_mem (a : Nat) : ∀ L : List Nat, find a L < L.length ↔ a ∈ L
  | [] => by simp [find]
  | x :: L => by
    unfold find
    by_cases he : x = a
    · simp [he]
    · rw [if_neg he, List.length_cons, List.mem_cons]
      have := find_mem a L
      constructor
      · intro h
        exact .inr (this.1 (by omega))
      · rintro (h | h)
        · exact absurd h.symm he
        · have := this.2 h
          omega
theorem erase_find (a : Nat) : ∀ L : List Nat, a ∈ L → L.erase a = L.take (find a L) ++ L.drop (find a L + 1)
  | [], h => by cases h
  | x :: L, h => by
    unfold find
    by_cases he : x = a
    · rw [if_pos he, he, List.erase_cons_head]
      rfl
    · rw [if_neg he]
      have h2 : a ∈ L := (List.mem_cons.1 h).resolve_left (fun e => he e.symm)
      rw [List.erase_cons_tail (by simpa using he), erase_find a L h2]
      rfl
/-- an address that stays on the list while fewer than room others are kept -/
def Near (g : G) (a k : Nat) : Prop := ∃ pre post, g.L = pre ++ a :: post ∧ pre.length ≤ k
theorem near_has {g : G} {a k : Nat} (h : Near g a k) : has g a = true := by
  obtain ⟨pre, post, e, _⟩ := h
  rw [has_iff, e]
  simp
theorem near_new {g : G} {a : Nat} (hr : 1 ≤ g.room) (hn : has g a = false) : Near (ask g a) a 0 := by
  unfold ask
  rw [if_neg (by rw [hn]; simp)]
  obtain ⟨r, hr2⟩ : ∃ r, g.room = r + 1 := ⟨g.room - 1, by omega⟩
  refine ⟨[], g.L.take r, ?_, Nat.le_refl _⟩
  show (a :: g.L).take g.room = _
  rw [hr2, List.take_succ_cons]
  rfl
theorem ask_unknown {g : G} {a : Nat} (hb : has g a = false) : (ask g a).L = (a :: g.L).take g.room := by
  unfold ask
  rw [if_neg (by rw [hb]; simp)]
end Go.GhoM

end
section
namespace Go.HotM
open Go.GhoM
/-- a block that is there -/
structure It where
  addr : Nat
  b : List UInt8
structure H where
  L : List It
  room : Nat
  g : G
def newH (room known : Nat) : H := ⟨[], room, newG known⟩
/-- the place of the first one of that address; the length, if there is none -/
def findI (a : Nat) : List It → Nat
  | [] => 0
  | x :: L => if x.addr = a then 0 else findI a L + 1
def keys (h : H) : List Nat := h.L.map (·.addr)
def isIn (h : H) (a : Nat) : Bool := decide (findI a h.L < h.L.length)
/-- the others -/
def rest (a : Nat) (L : List It) : List It := L.take (findI a L) ++ L.drop (findI a L + 1)
/-- its bytes; none, if it is not there -/
def bytesOf (h : H) (a : Nat) : List UInt8 := ((h.L[findI a h.L]?).map (·.b)).getD []
def drop (h : H) (a : Nat) : H := ⟨rest a h.L, h.room, h.g⟩
/-- to the front -/
def frontL (room : Nat) (x : It) (L : List It) : List It := (x :: L).take room
def get (h : H) (a : Nat) : H := if isIn h a = true then ⟨frontL h.room ⟨a, bytesOf h a⟩ (rest a h.L), h.room, h.g⟩ else h
/-- whether it is kept -/
def offB (h : H) (a : Nat) : Bool := isIn h a || (has h.g a && !decide (h.room = 0))
def offer (h : H) (a : Nat) (b : List UInt8) : H :=
  ⟨if offB h a = true then frontL h.room ⟨a, b⟩ (rest a h.L) else h.L, h.room, if isIn h a = true then h.g else GhoM.ask h.g a⟩
structure Ok (h : H) : Prop where
  once : (keys h).Nodup
  len : h.L.length ≤ h.room
  room : h.room ≤ 4096
  fits : ∀ x ∈ h.L, x.addr < 4294967296
  small : ∀ x ∈ h.L, x.b.length ≤ 20000
  g : GhoM.Ok h.g
  groom : h.g.room ≤ 4096
theorem findI_le (a : Nat) : ∀ L, findI a L ≤ L.length
  | [] => Nat.le_refl _
  | x :: L => by
    unfold findI
    by_cases h : x.addr = a
    · rw [if_pos h]; exact Nat.zero_le _
    · rw [if_neg h, List.length_cons]
      have := findI_le a L
      omega
theorem findI_at (a : Nat) : ∀ L : List It, findI a L < L.length → ∃ x, L[findI a L]? = some x ∧ x.addr = a
  | [], h => absurd h (Nat.lt_irrefl _)
  | x :: L, h => by
    unfold findI at h ⊢
    by_cases he : x.addr = a
    · rw [if_pos he]
      exact ⟨x, rfl, he⟩
    · rw [if_neg he] at h ⊢
      rw [List.getElem?_cons_succ]
      rw [List.length_cons] at h
      exact findI_at a L (by omega)
theorem findI_before (a : Nat) : ∀ (L : List It) (i : Nat) (x : It), i < findI a L → L[i]? = some x → x.addr ≠ a
  | [], i, x, h, _ => absurd h (Nat.not_lt_zero _)
  | y :: L, i, x, h, hx => by
    unfold findI at h
    by_cases he : y.addr = a
    · rw [if_pos he] at h; exact absurd h (Nat.not_lt_zero _)
    · rw [if_neg he] at h
      cases i with
      | zero =>
        rw [List.getElem?_cons_zero] at hx
        rw [← Option.some.inj hx]
        exact he
      | succ i =>
        rw [List.getElem?_cons_succ] at hx
        exact findI_before a L i x (by omega) hx
theorem findI_eq {a i : Nat} {L : List It} {x : It} (h : i ≤ findI a L) (hi : L[i]? = some x) (hx : x.addr = a) : findI a L = i := by
  rcases Nat.lt_or_ge i (findI a L) with h2 | h2
  · exact absurd hx (findI_before a L i x h2 hi)
  · omega
theorem findI_next {a i : Nat} {L : List It} {x : It} (h : i ≤ findI a L) (hi : L[i]? = some x) (hx : x.addr ≠ a) : i + 1 ≤ findI a L := by
  rcases Nat.lt_or_ge i (findI a L) with h2 | h2
  · exact h2
  · obtain rfl : findI a L = i := by omega
    obtain ⟨y, hy, e⟩ := findI_at a L (List.getElem?_eq_some_iff.1 hi).1
    rw [hi] at hy
    rw [← Option.some.inj hy] at e
    exact absurd e hx
theorem findI_mem (a : Nat) : ∀ L : List It, findI a L < L.length ↔ a ∈ L.map (·.addr)
  | [] => by simp [findI]
  | x :: L => by
    unfold findI
    by_cases he : x.addr = a
    · simp [he]
    · rw [if_neg he, List.length_cons, List.map_cons, List.mem_cons]
      have := findI_mem a L
      constructor
      · intro h
        exact .inr (this.1 (by omega))
      · rintro (h | h)
        · exact absurd h.symm he
        · have := this.2 h
          omega
theorem isIn_iff {h : H} {a : Nat} : isIn h a = true ↔ a ∈ keys h := by
  unfold isIn
  rw [decide_eq_true_iff, findI_mem]
  rfl
theorem isIn_not {h : H} {a : Nat} : isIn h a = false ↔ a ∉ keys h := by
  rw [← isIn_iff]
  simp
theorem rest_keys (a : Nat) : ∀ L : List It, (rest a L).map (·.addr) = (L.map (·.addr)).erase a
  | [] => rfl
  | x :: L => by
    unfold rest findI
    by_cases he : x.addr = a
    · rw [if_pos he, List.map_cons, he, List.erase_cons_head]
      rfl
    · rw [if_neg he, List.map_cons, List.erase_cons_tail (by simpa using he), ← rest_keys a L]
      rfl
theorem rest_mem {a : Nat} {L : List It} {x : It} (h : x ∈ rest a L) : x ∈ L := by
  rcases List.mem_append.1 h with h | h
  · exact List.mem_of_mem_take h
  · exact List.mem_of_mem_drop h
theorem rest_none {a : Nat} {L : List It} (h : a ∉ L.map (·.addr)) : rest a L = L := by
  have hf : findI a L = L.length := by
    have h1 := findI_le a L
    rcases Nat.lt_or_ge (findI a L) L.length with h2 | h2
    · exact absurd ((findI_mem a L).1 h2) h
    · omega
  unfold rest
  rw [hf, List.take_length, List.drop_of_length_le (by omega), List.append_nil]
theorem rest_len {a : Nat} {L : List It} (h : a ∈ L.map (·.addr)) : (rest a L).length + 1 = L.length := by
  have := (findI_mem a L).2 h
  unfold rest
  rw [List.length_append, List.length_take, List.length_drop]
  omega
theorem bytes_at {h : H} {a : Nat} {i : Nat} {x : It} (hf : findI a h.L = i) (hi : h.L[i]? = some x) : bytesOf h a = x.b := by
  unfold bytesOf
  rw [hf, hi]
  rfl
theorem bytes_none {h : H} {a : Nat} (hn : isIn h a = false) : bytesOf h a = [] := by
  unfold isIn at hn
  unfold bytesOf
  rw [List.getElem?_eq_none (by simpa using hn)]
  rfl
theorem bytes_mem {h : H} {a : Nat} (hi : isIn h a = true) : ∃ x ∈ h.L, x.addr = a ∧ x.b = bytesOf h a := by
  unfold isIn at hi
  obtain ⟨x, hx, e⟩ := findI_at a h.L (by simpa using hi)
  exact ⟨x, List.mem_of_getElem? hx, e, (bytes_at rfl hx).symm⟩
theorem bytes_len {h : H} (ok : Ok h) (a : Nat) : (bytesOf h a).length ≤ 20000 := by
  cases hi : isIn h a
  · rw [bytes_none hi]; exact Nat.zero_le _
  · obtain ⟨x, hx, _, e⟩ := bytes_mem hi
    rw [← e]
    exact ok.small x hx
theorem key_uniq {L : List It} (hn : (L.map (·.addr)).Nodup) {x y : It} (hx : x ∈ L) (hy : y ∈ L) (e : x.addr = y.addr) : x = y := by
  induction L with
  | nil => cases hx
  | cons z L ih =>
    rw [List.map_cons, List.nodup_cons] at hn
    rcases List.mem_cons.1 hx with hx | hx
    · rcases List.mem_cons.1 hy with hy | hy
      · rw [hx, hy]
      · exact absurd (List.mem_map.2 ⟨y, hy, by rw [← e, hx]⟩) hn.1
    · rcases List.mem_cons.1 hy with hy | hy
      · exact absurd (List.mem_map.2 ⟨x, hx, by rw [e, hy]⟩) hn.1
      · exact ih hn.2 hx hy
theorem bytes_of {h : H} (ok : Ok h) {x : It} (hx : x ∈ h.L) : bytesOf h x.addr = x.b := by
  obtain ⟨y, hy, e, e2⟩ := bytes_mem (h := h) (a := x.addr) (isIn_iff.2 (List.mem_map.2 ⟨x, hx, rfl⟩))
  rw [← e2, key_uniq ok.once hy hx e]
theorem ok_new {room known : Nat} (hr : room ≤ 4096) (hk : known ≤ 4096) : Ok (newH room known) :=
  ⟨List.nodup_nil, Nat.zero_le _, hr, fun _ h => by (cases h), fun _ h => by (cases h), GhoM.ok_new known, hk⟩
theorem ok_drop {h : H} (ok : Ok h) (a : Nat) : Ok (drop h a) := by
  refine ⟨?_, ?_, ok.room, fun x hx => ok.fits x (rest_mem hx), fun x hx => ok.small x (rest_mem hx), ok.g, ok.groom⟩
  · show ((rest a h.L).map (·.addr)).Nodup
    rw [rest_keys]
    exact ok.once.erase a
  · show (rest a h.L).length ≤ h.room
    have h1 : (rest a h.L).length = ((h.L.map (·.addr)).erase a).length := by rw [← rest_keys, List.length_map]
    have h2 := List.length_erase_le (a := a) (l := h.L.map (·.addr))
    rw [List.length_map] at h2
    have := ok.len
    omega
/-- a block is put to the front -/
theorem ok_front {h : H} (ok : Ok h) {a : Nat} (ha : a < 4294967296) {b : List UInt8} (hb : b.length ≤ 20000) {g : G} (hg : GhoM.Ok g) (hgr : g.room ≤ 4096) : Ok ⟨frontL h.room ⟨a, b⟩ (rest a h.L), h.room, g⟩ := by
  have hm : ∀ x ∈ frontL h.room ⟨a, b⟩ (rest a h.L), x = ⟨a, b⟩ ∨ x ∈ h.L := by
    intro x hx
    rcases List.mem_cons.1 (List.mem_of_mem_take hx) with h1 | h1
    · exact .inl h1
    · exact .inr (rest_mem h1)
  refine ⟨?_, ?_, ok.room, fun x hx => ?_, fun x hx => ?_, hg, hgr⟩
  · show ((frontL h.room ⟨a, b⟩ (rest a h.L)).map (·.addr)).Nodup
    unfold frontL
    rw [List.map_take, List.map_cons, rest_keys]
    refine List.Nodup.sublist (List.take_sublist ..) (List.nodup_cons.2 ⟨fun hm => ?_, ok.once.erase a⟩)
    exact ((List.Nodup.mem_erase_iff ok.once).1 hm).1 rfl
  · show (frontL h.room ⟨a, b⟩ (rest a h.L)).length ≤ h.room
    unfold frontL
    rw [List.length_take]
    omega
  · rcases hm x hx with rfl | h1
    · exact ha
    · exact ok.fits x h1
  · rcases hm x hx with rfl | h1
    · exact hb
    · exact ok.small x h1
theorem ok_get {h : H} (ok : Ok h) {a : Nat} (ha : a < 4294967296) : Ok (get h a) := by
  unfold get
  split
  · exact ok_front ok ha (bytes_len ok a) ok.g ok.groom
  · exact ok
theorem ok_offer {h : H} (ok : Ok h) {a : Nat} (ha : a < 4294967296) {b : List UInt8} (hb : b.length ≤ 20000) : Ok (offer h a b) := by
  unfold offer
  have hg : GhoM.Ok (if isIn h a = true then h.g else GhoM.ask h.g a) := by
    split
    · exact ok.g
    · exact ok_ask ok.g ha
  have hgr : (if isIn h a = true then h.g else GhoM.ask h.g a).room ≤ 4096 := by
    split
    · exact ok.groom
    · rw [ask_room]; exact ok.groom
  split
  · exact ok_front ok ha hb hg hgr
  · exact ⟨ok.once, ok.len, ok.room, ok.fits, ok.small, hg, hgr⟩
theorem get_room (h : H) (a : Nat) : (get h a).room = h.room := by
  unfold get
  split <;> rfl
theorem offer_room (h : H) (a : Nat) (b : List UInt8) : (offer h a b).room = h.room := rfl
theorem get_g (h : H) (a : Nat) : (get h a).g = h.g := by
  unfold get
  split <;> rfl
theorem drop_none {h : H} {a : Nat} (hn : isIn h a = false) : drop h a = h := by
  unfold drop
  rw [rest_none (isIn_not.1 hn)]
theorem drop_gone {h : H} (ok : Ok h) (a : Nat) : a ∉ keys (drop h a) := by
  show a ∉ (rest a h.L).map (·.addr)
  rw [rest_keys]
  exact fun hm => ((List.Nodup.mem_erase_iff ok.once).1 hm).1 rfl
/-- what is put to the front is there in whole: there is room -/
theorem front_whole {h : H} (ok : Ok h) {a : Nat} {b : List UInt8} (hi : isIn h a = true) : frontL h.room ⟨a, b⟩ (rest a h.L) = ⟨a, b⟩ :: rest a h.L := by
  unfold frontL
  rw [List.take_of_length_le]
  rw [List.length_cons]
  have := rest_len (isIn_iff.1 hi)
  have := ok.len
  omega
theorem get_keys {h : H} (ok : Ok h) {a : Nat} (hi : isIn h a = true) : keys (get h a) = a :: (keys h).erase a := by
  unfold get
  rw [if_pos hi]
  show (frontL h.room ⟨a, bytesOf h a⟩ (rest a h.L)).map (·.addr) = _
  rw [front_whole ok hi, List.map_cons, rest_keys]
  rfl
theorem get_not {h : H} {a : Nat} (hi : isIn h a = false) : get h a = h := by
  unfold get
  rw [if_neg (by rw [hi]; simp)]
end Go.HotM

end
section
namespace Go.TabM
structure Sg where
  kind : Nat
  seq : Nat
  wear : Nat
def zS : Sg := ⟨0, 0, 0⟩
structure T where
  rows : List Sg
  next : Nat
def at_ (l : List Sg) (i : Nat) : Sg := l.getD i zS
/-- the first open segment, from i on -/
def curF : Nat → List Sg → Option Nat
  | _, [] => none
  | i, s :: l => if s.kind = 1 then some i else curF (i + 1) l
def cur (t : T) : Option Nat := curF 0 t.rows
/-- is a segment taken in the place of the best one so far -/
def takes (b : Option (Nat × Nat)) (s : Sg) : Bool := decide (s.kind = 0) && (match b with | none => true | some p => decide (s.wear < p.2))
def bestF : Option (Nat × Nat) → Nat → List Sg → Option (Nat × Nat)
  | b, _, [] => b
  | b, i, s :: l => bestF (if takes b s then some (i, s.wear) else b) (i + 1) l
def best (t : T) : Option (Nat × Nat) := bestF none 0 t.rows
def opened (t : T) (i w : Nat) : T := ⟨t.rows.set i ⟨1, t.next, w + 1⟩, t.next + 1⟩
/-- Open: what it leaves; the segment, its number, the error -/
def openT (t : T) : T × (Nat × Nat × Nat) :=
  match cur t with
  | some _ => (t, (0, 0, 3))
  | none => match best t with
    | none => (t, (0, 0, 5))
    | some (i, w) => (opened t i w, (i, t.next, 0))
def sealT (t : T) : T × Nat :=
  match cur t with
  | none => (t, 2)
  | some i => (⟨t.rows.set i { at_ t.rows i with kind := 2 }, t.next⟩, 0)
def relT (t : T) (seg : Int) : T × Nat :=
  if seg < 0 ∨ (t.rows.length : Int) ≤ seg then (t, 1)
  else if (at_ t.rows seg.toNat).kind ≠ 2 then (t, 2)
  else (⟨t.rows.set seg.toNat ⟨0, 0, (at_ t.rows seg.toNat).wear⟩, t.next⟩, 0)
def mayBe (n : Int) : Bool := decide (0 ≤ n) && decide (n ≤ 256)
structure ActD where
  kind : UInt8
  seg : Int
def doAct (t : T) (a : ActD) : T × (Nat × Nat × Nat) :=
  match a.kind.toNat % 3 with
  | 0 => openT t
  | 1 => ((sealT t).1, (0, 0, (sealT t).2))
  | _ => ((relT t a.seg).1, (0, 0, (relT t a.seg).2))

theorem at_eq {l : List Sg} {i : Nat} {s : Sg} (h : l[i]? = some s) : at_ l i = s := by unfold at_; rw [List.getD_eq_getElem?_getD, h]; rfl
/-! ### what a table is -/
structure Ok (t : T) (N : Nat) : Prop where
  len : t.rows.length ≤ 256
  kind : ∀ s ∈ t.rows, s.kind ≤ 2
  wear : ∀ s ∈ t.rows, s.wear ≤ N
  seq : ∀ s ∈ t.rows, s.seq ≤ N
  low : 1 ≤ t.next
  next : t.next ≤ N + 1
theorem curF_some : ∀ (l : List Sg) (j i : Nat), curF j l = some i → ∃ k s, i = j + k ∧ l[k]? = some s ∧ s.kind = 1
  | [], _, _, h => by cases h
  | s :: l, j, i, h => by
    unfold curF at h
    by_cases hs : s.kind = 1
    · rw [if_pos hs] at h
      cases h
      exact ⟨0, s, rfl, rfl, hs⟩
    · rw [if_neg hs] at h
      obtain ⟨k, s', e, h1, h2⟩ := curF_some l (j + 1) i h
      exact ⟨k + 1, s', by omega, h1, h2⟩
theorem cur_some {t : T} {i : Nat} (h : cur t = some i) : i < t.rows.length ∧ (at_ t.rows i).kind = 1 := by
  obtain ⟨k, s, e, h1, h2⟩ := curF_some _ _ _ h
  rw [Nat.zero_add] at e
  subst e
  exact ⟨(List.getElem?_eq_some_iff.1 h1).1, by rw [at_eq h1]; exact h2⟩
theorem curF_none : ∀ (l : List Sg) (j : Nat), curF j l = none → ∀ s ∈ l, s.kind ≠ 1
  | [], _, _, s, hs => by cases hs
  | x :: l, j, h, s, hs => by
    unfold curF at h
    by_cases hx : x.kind = 1
    · rw [if_pos hx] at h; cases h
    · rw [if_neg hx] at h
      rcases List.mem_cons.1 hs with rfl | hs
      · exact hx
      · exact curF_none l _ h s hs
theorem bestF_some : ∀ (l : List Sg) (b : Option (Nat × Nat)) (j : Nat) (p : Nat × Nat), bestF b j l = some p → b = some p ∨ ∃ k s, p.1 = j + k ∧ l[k]? = some s ∧ s.kind = 0 ∧ s.wear = p.2
  | [], b, j, p, h => .inl h
  | x :: l, b, j, p, h => by
    unfold bestF at h
    rcases bestF_some l _ _ _ h with h1 | ⟨k, s, e, h1, h2, h3⟩
    · by_cases ht : takes b x = true
      · rw [if_pos ht] at h1
        cases h1
        refine .inr ⟨0, x, rfl, rfl, ?_, rfl⟩
        unfold takes at ht
        simp only [Bool.and_eq_true, decide_eq_true_eq] at ht
        exact ht.1
      · rw [if_neg ht] at h1
        exact .inl h1
    · exact .inr ⟨k + 1, s, by omega, h1, h2, h3⟩
theorem best_some {t : T} {i w : Nat} (h : best t = some (i, w)) : i < t.rows.length ∧ (at_ t.rows i).kind = 0 ∧ (at_ t.rows i).wear = w := by
  rcases bestF_some _ _ _ _ h with h1 | ⟨k, s, e, h1, h2, h3⟩
  · cases h1
  · simp only [Nat.zero_add] at e h3
    subst e
    exact ⟨(List.getElem?_eq_some_iff.1 h1).1, by rw [at_eq h1]; exact h2, by rw [at_eq h1]; exact h3⟩
theorem mem_set {l : List Sg} {i : Nat} {x s : Sg} (h : s ∈ l.set i x) : s = x ∨ s ∈ l := by
  rcases List.mem_or_eq_of_mem_set h with h | h
  · exact .inr h
  · exact .inl h
/-! ### which rows are loaded -/
structure LoadOk (rows : List Sg) (next : Nat) : Prop where
  len : rows.length ≤ 256
  low : 1 ≤ next
  free : ∀ s ∈ rows, s.kind = 0 → s.seq = 0
  used : ∀ s ∈ rows, s.kind ≠ 0 → s.kind ≤ 2 ∧ 1 ≤ s.seq ∧ s.seq < next
  apart : ∀ i j (hi : i < rows.length) (hj : j < rows.length), i ≠ j → rows[i].seq = rows[j].seq → rows[i].seq = 0
  one : ∀ i j (hi : i < rows.length) (hj : j < rows.length), rows[i].kind = 1 → rows[j].kind = 1 → i = j
/-- a row is changed -/
theorem load_set {rows : List Sg} {next m i : Nat} {x : Sg} (h : LoadOk rows next) (hm : next ≤ m) (hi : i < rows.length) (hf : x.kind = 0 → x.seq = 0) (hu : x.kind ≠ 0 → x.kind ≤ 2 ∧ 1 ≤ x.seq ∧ x.seq < m)
    (ha : ∀ j (hj : j < rows.length), j ≠ i → rows[j].seq = x.seq → x.seq = 0) (ho : x.kind = 1 → ∀ j (hj : j < rows.length), j ≠ i → rows[j].kind ≠ 1) : LoadOk (rows.set i x) m := by
  refine ⟨by simpa using h.len, Nat.le_trans h.low hm, ?_, ?_, ?_, ?_⟩
  · intro s hs hk
    rcases mem_set hs with rfl | hs
    · exact hf hk
    · exact h.free s hs hk
  · intro s hs hk
    rcases mem_set hs with rfl | hs
    · exact hu hk
    · obtain ⟨a, b, c⟩ := h.used s hs hk
      exact ⟨a, b, Nat.lt_of_lt_of_le c hm⟩
  · intro a b ha1 hb1 hab e
    simp only [List.length_set] at ha1 hb1
    simp only [List.getElem_set] at e ⊢
    by_cases h1 : i = a
    · subst h1
      rw [if_pos rfl] at e ⊢
      rw [if_neg hab] at e
      exact ha b hb1 (fun e => hab e.symm) e.symm
    · rw [if_neg h1] at e ⊢
      by_cases h2 : i = b
      · subst h2
        rw [if_pos rfl] at e
        rw [e]
        exact ha a ha1 hab e
      · rw [if_neg h2] at e
        exact h.apart a b ha1 hb1 hab e
  · intro a b ha1 hb1 ea eb
    simp only [List.length_set] at ha1 hb1
    simp only [List.getElem_set] at ea eb
    by_cases h1 : i = a
    · subst h1
      rw [if_pos rfl] at ea
      by_cases h2 : i = b
      · exact h2
      · rw [if_neg h2] at eb
        exact absurd eb (ho ea b hb1 (fun e => h2 e.symm))
    · rw [if_neg h1] at ea
      by_cases h2 : i = b
      · subst h2
        rw [if_pos rfl] at eb
        exact absurd ea (ho eb a ha1 (fun e => h1 e.symm))
      · rw [if_neg h2] at eb
        exact h.one a b ha1 hb1 ea eb
theorem at_lt {l : List Sg} {i : Nat} (h : i < l.length) : at_ l i = l[i] := at_eq (List.getElem?_eq_getElem h)
theorem load_act {t : T} (h : LoadOk t.rows t.next) (a : ActD) : LoadOk (doAct t a).1.rows (doAct t a).1.next := by
  unfold doAct
  split
  · unfold openT
    split
    · exact h
    · rename_i hc
      split
      · exact h
      · rename_i i w hb
        obtain ⟨hi, hk, hw⟩ := best_some hb
        refine load_set h (Nat.le_succ _) hi (fun e => by cases e) (fun _ => ⟨Nat.le_succ 1, h.low, Nat.lt_succ_self _⟩) ?_ ?_
        · intro j hj hne e
          by_cases hjk : t.rows[j].kind = 0
          · have := h.free _ (List.getElem_mem hj) hjk
            simp only at e ⊢
            omega
          · have := (h.used _ (List.getElem_mem hj) hjk).2.2
            simp only at e
            omega
        · intro _ j hj _
          exact curF_none _ _ hc _ (List.getElem_mem hj)
  · show LoadOk (sealT t).1.rows (sealT t).1.next
    unfold sealT
    split
    · exact h
    · rename_i i hc
      obtain ⟨hi, hk⟩ := cur_some hc
      rw [at_lt hi] at hk ⊢
      obtain ⟨u1, u2, u3⟩ := h.used _ (List.getElem_mem hi) (by omega)
      refine load_set h (Nat.le_refl _) hi (fun e => by cases e) (fun _ => ⟨Nat.le_refl 2, u2, u3⟩) ?_ (fun e => by cases e)
      intro j hj hne e
      exact (h.apart i j hi hj (fun e => hne e.symm) e.symm)
  · show LoadOk (relT t a.seg).1.rows (relT t a.seg).1.next
    unfold relT
    split
    · exact h
    · rename_i hr
      split
      · exact h
      · have hi : a.seg.toNat < t.rows.length := by omega
        exact load_set h (Nat.le_refl _) hi (fun _ => rfl) (fun e => absurd rfl e) (fun _ _ _ _ => rfl) (fun e => by cases e)

/-! ### sums -/
theorem count_none {l : List Sg} (h : ∀ s ∈ l, s.kind ≠ 1) : l.countP (fun s => decide (s.kind = 1)) = 0 := by
  rw [List.countP_eq_zero]; intro s hs; simpa using h s hs
/-! ### numbers rise -/
end Go.TabM

end
section
namespace Go.Own
open Go.RowKit

/-- From w to w' only blocks of S have turned among those that were there; T (what the object holds now) is S and new blocks. -/
structure Step (S T : Nat → Prop) (w w' : World) : Prop where
  os : w'.os = w.os
  tape : w'.tape = w.tape
  output : w'.output = w.output
  size : w.heap.size ≤ w'.heap.size
  block : ∀ k, k < w.heap.size → ¬ S k → w'.heap[k]? = w.heap[k]?
  new : ∀ k, T k → S k ∨ w.heap.size ≤ k

theorem Step.refl (S : Nat → Prop) (w : World) : Step S S w w := ⟨rfl, rfl, rfl, Nat.le_refl _, fun _ _ _ => rfl, fun _ h => Or.inl h⟩

theorem Step.trans {S T U : Nat → Prop} {w w1 w2 : World} (h : Step S T w w1) (g : Step T U w1 w2) : Step S U w w2 :=
  ⟨g.os.trans h.os, g.tape.trans h.tape, g.output.trans h.output, Nat.le_trans h.size g.size,
   fun k hk hs => (g.block k (Nat.lt_of_lt_of_le hk h.size) (fun ht => (h.new k ht).elim hs (fun h1 => absurd h1 (by omega)))).trans (h.block k hk hs),
   fun k hu => (g.new k hu).elim (fun h1 => h.new k h1) (fun h1 => Or.inr (Nat.le_trans h.size h1))⟩

theorem Step.drewN {S T : Nat → Prop} {w w' : World} (h : Step S T w w') (n : Nat) : Step S T w (w'.drewN n) := ⟨h.os, h.tape, h.output, h.size, h.block, h.new⟩
theorem Step.drew {S T : Nat → Prop} {w w' : World} (h : Step S T w w') : Step S T w w'.drew := ⟨h.os, h.tape, h.output, h.size, h.block, h.new⟩

/-- A store into one of the object's own blocks. -/
theorem Step.setCell {S T : Nat → Prop} {w w' : World} (h : Step S T w w') {a : Addr} (ha : S a.block ∨ w.heap.size ≤ a.block) (u : Value) : Step S T w (w'.setCell a u) :=
  ⟨h.os, h.tape, h.output, by simpa using h.size, fun k hk hs => by
    have hne : k ≠ a.block := by
      intro e; subst e
      exact ha.elim hs (fun h1 => absurd h1 (by omega))
    rw [Below.heap_setCell _ _ _ _ hne]; exact h.block k hk hs, h.new⟩

/-- A new block, the object's or nobody's. -/
theorem Step.alloc {S T : Nat → Prop} {w w' : World} (h : Step S T w w') (o : Obj) : Step S T w (w'.alloc o) :=
  ⟨h.os, h.tape, h.output, by have := h.size; simp; omega, fun k hk hs => by
    rw [Below.heap_alloc _ _ _ (by have := h.size; omega)]; exact h.block k hk hs, h.new⟩

/-- What the object holds may be said otherwise. -/
theorem Step.to {S T U : Nat → Prop} {w w' : World} (h : Step S T w w') (hu : ∀ k, U k → S k ∨ w.heap.size ≤ k) : Step S U w w' := ⟨h.os, h.tape, h.output, h.size, h.block, hu⟩

/-- Behind an append onto a row of the object's own. -/
theorem Step.grown {S T : Nat → Prop} {w w1 w' : World} {row : Option Nat} (h : Step S T w w1) (hg : w1.grownBy w' row) (hr : ∀ k, row = some k → S k ∨ w.heap.size ≤ k) : Step S T w w' :=
  ⟨hg.os.trans h.os, hg.tape.trans h.tape, hg.output.trans h.output, Nat.le_trans h.size hg.size,
   fun k hk hs => (hg.block k (by have := h.size; omega) (fun e => (hr k e.symm).elim hs (fun h1 => absurd h1 (by omega)))).trans (h.block k hk hs), h.new⟩

theorem Step.below {S T : Nat → Prop} {w w' : World} (h : Step S T w w') {B : Nat} (hB : B ≤ w.heap.size) (hS : ∀ k, S k → B ≤ k) : Below B w w' :=
  ⟨h.os, h.tape, h.output, h.size, fun k hk => h.block k (by omega) (fun hs => by have := hS k hs; omega)⟩

def Dis (S T : Nat → Prop) : Prop := ∀ k, S k → ¬ T k

theorem cell_of_block {w : World} {b i : Nat} {c : Array Value} {t : TypeId} {fz : Nat × Nat} {v : Value} (h : w.heap[b]? = some (.cells c t fz)) (hv : c[i]? = some v) : w.cell? ⟨b, i, none⟩ = some v := by
  simp [World.cell?, h, hv]

theorem frozen_of_block {w : World} {b i : Nat} {c : Array Value} {t : TypeId} (h : w.heap[b]? = some (.cells c t (0, 0))) : w.frozen? ⟨b, i, none⟩ = false := by
  simp [World.frozen?, h]

theorem lt_of_block {w : World} {b : Nat} {o : Obj} (h : w.heap[b]? = some o) : b < w.heap.size := (Array.getElem?_eq_some_iff.1 h).1

theorem block_setCell {w : World} {b i : Nat} {c : Array Value} {t : TypeId} {fz : Nat × Nat} (h : w.heap[b]? = some (.cells c t fz)) (u : Value) :
    (w.setCell ⟨b, i, none⟩ u).heap[b]? = some (.cells (c.setIfInBounds i u) t fz) := by
  simp [World.setCell, Array.getElem?_modify, h]

def byteV (c : UInt8) : Value := .int .u8 (c.toNat : Int)
theorem byteV_one (l : List UInt8) : ∀ u ∈ l.map byteV, u.oneCell' = true := by
  intro u hu; obtain ⟨c, _, rfl⟩ := List.mem_map.1 hu; rfl

/-- A row of an object's own: n elements (size cells each) in the cells xs; T: the block that holds them, if there is one. -/
structure Row (w : World) (e : TypeId) (size : Nat) (T : Nat → Prop) (v : Value) (n : Nat) (xs : List Value) : Prop where
  own : w.ownsRow 0 e size v n xs
  set : ∀ k, T k ↔ v.ownBlock = some k

section
variable {w w' : World} {e : TypeId} {size : Nat} {S T U : Nat → Prop} {v : Value} {n : Nat} {xs : List Value}

theorem Row.nil (w : World) (e : TypeId) (size : Nat) : Row w e size (fun _ => False) (.slice none 0 0) 0 [] := ⟨World.ownsRow_nil w 0 e size, fun k => by simp [Value.ownBlock]⟩

theorem Row.form (h : Row w e size T v n xs) : ∃ ao cap, v = .slice ao n cap ∧ n ≤ cap ∧ cap ≤ maxLen ∧ (ao = none → n = 0 ∧ cap = 0 ∧ xs = []) ∧ ∀ a, ao = some a → ∃ g, a = ⟨g, 0, none⟩ ∧ T g := by
  have hs := h.set
  have hx := h.own.1
  rcases h.own.2 with ⟨rfl, rfl⟩ | ⟨g, cap, cur, rfl, _, _, h1, h2, _⟩
  · exact ⟨none, 0, rfl, Nat.le_refl _, by unfold maxLen; omega, fun _ => ⟨rfl, rfl, List.eq_nil_of_length_eq_zero (by simpa using hx)⟩, fun a h => by cases h⟩
  · exact ⟨_, cap, rfl, h1, h2, fun h => by (cases h), fun a ha => ⟨g, by cases ha; rfl, (hs g).2 rfl⟩⟩

theorem Row.lt (h : Row w e size T v n xs) : ∀ k, T k → k < w.heap.size := fun k hk => (h.own.lt k ((h.set k).1 hk)).2

/-- What others turn turns no row of mine. -/
theorem Row.step (h : Row w e size T v n xs) (g : Step S U w w') (hd : Dis T S) : Row w' e size T v n xs := by
  refine ⟨⟨h.own.1, ?_⟩, h.set⟩
  rcases h.own.2 with h1 | ⟨b, cap, cur, rfl, h0, hb, r⟩
  · exact .inl h1
  · exact .inr ⟨b, cap, cur, rfl, h0, (g.block b (lt_of_block hb) (hd b ((h.set b).2 rfl))).trans hb, r⟩

theorem Row.alloc (h : Row w e size T v n xs) (o : Obj) : Row (w.alloc o) e size T v n xs := ⟨h.own.alloc o, h.set⟩
theorem Row.drew (h : Row w e size T v n xs) : Row w.drew e size T v n xs := ⟨h.own.drew, h.set⟩

theorem Row.cells {b cap : Nat} (h : Row w e size T (.slice (some ⟨b, 0, none⟩) n cap) n xs) (j : Nat) (hj : j < n * size) : w.cell? ⟨b, j, none⟩ = xs[j]? := h.own.cellAt j hj
end

/-- a new row: what it holds at first -/
theorem Row.made (w : World) (cs : Array Value) (e : TypeId) (size n : Nat) (hm : n ≤ maxLen) (hs : cs.size = n * size) : Row (w.alloc (.cells cs e)) e size (fun k => k = w.heap.size) (.slice (some ⟨w.heap.size, 0, none⟩) n n) n cs.toList :=
  ⟨World.ownsRow_lit w cs n (Nat.zero_le _) hm hs, fun k => by simp [Value.ownBlock, eq_comm]⟩

/-- append ONTO A ROW OF ONE's OWN: the row that comes is the old one's block or a new one. -/
theorem run_append_row {P : Program} (w : World) (t ty e : TypeId) (i : TypeInfo) (z : Value) (size bytes : Nat) (ht : P.underlying t = some (.slice e)) (hi : P.info? e = some i) (hz : i.zero = some z)
    (hsize : i.size = size) (hby : i.bytes = bytes) (hzs : z.cells.size = size) (hsz : 0 < size)
    {T : Nat → Prop} (v : Value) (n : Nat) (xs : List Value) (hrow : Row w e size T v n xs)
    (ao : Option Addr) (m c : Nat) (news : List Value) (hno : ao = none → m = 0 ∧ c = 0) (hl : news.length = m * size) (hnews : ∀ a, ao = some a → ∀ j u, news[j]? = some u → w.cell? (a.add j) = some u) (h1 : ∀ u ∈ news, u.oneCell' = true)
    (h63 : n + m ≤ maxLen) (hbytes : (n + m) * bytes ≤ 140737488355328) :
    ∃ v' w' T', (Builtin.append_ #[t, t] ty #[v, .slice ao m c]).run P w = .ok v' w' ∧ Row w' e size T' v' (n + m) (xs ++ news) ∧ Step T T' w w' := by
  cases ao with
  | none =>
    obtain ⟨rfl, rfl⟩ := hno rfl
    obtain rfl : news = [] := List.eq_nil_of_length_eq_zero (by simpa using hl)
    exact ⟨v, w, T, run_append_owned_none (P := P) w 0 t ty e i size ht hi v n xs hrow.own, by simpa using hrow, Step.refl _ _⟩
  | some a =>
    rcases hrow.own.2 with ⟨rfl, rfl⟩ | ⟨g, cap, cur, rfl, hbg, hg, hnc, hcm, hcs, htake⟩
    · obtain rfl : xs = [] := List.eq_nil_of_length_eq_zero (by simpa using hrow.own.1)
      obtain ⟨v', w', hr, r1, r2, _⟩ := run_append_own (P := P) w w.heap.size t ty e i z size bytes ht hi hz hsize hby hzs hsz _ 0 [] (World.ownsRow_nil w _ e size) a m c news hl (hnews a rfl) h1 h63 hbytes (Nat.le_refl _)
      have hlt := r1.lt
      refine ⟨v', w', fun k => v'.ownBlock = some k, hr, ⟨⟨r1.1, ?_⟩, fun _ => Iff.rfl⟩, ⟨r2.os, r2.tape, r2.output, r2.size, fun k hk _ => r2.block k hk (by simp [Value.ownBlock]), fun k hk => .inr (hlt k hk).1⟩⟩
      rcases r1.2 with h | ⟨g, cap, cur, h⟩
      · exact .inl h
      · exact .inr ⟨g, cap, cur, h.1, Nat.zero_le _, h.2.2⟩
    · by_cases hroom : n + m ≤ cap
      · obtain ⟨w', hr, r1, r2⟩ := run_append_fits (P := P) w 0 t ty e i size ht hi hsize g n cap xs hrow.own a m c news hl (hnews a rfl) h1 hroom
        exact ⟨_, w', T, hr, ⟨r1, fun k => by rw [hrow.set k]; simp [Value.ownBlock]⟩, ⟨r2.os, r2.tape, r2.output, r2.size, fun k hk hT => r2.block k hk (fun e => hT ((hrow.set k).2 (by simpa [Value.ownBlock] using e.symm))), fun k hk => .inl hk⟩⟩
      · have holds : ∀ j u, xs[j]? = some u → w.cell? ((⟨g, 0, none⟩ : Addr).add j) = some u := hrow.own.cells (g := g) rfl
        obtain ⟨v', w', hr, r1, r2⟩ := run_append_arg_grows (P := P) w t ty e i z size bytes ht hi hz hsize hby hzs hsz ⟨g, 0, none⟩ n cap xs hrow.own.1 holds a m c news hl (hnews a rfl) (by omega) h63 hbytes
        have hlt := r1.lt
        refine ⟨v', w', fun k => v'.ownBlock = some k, hr, ⟨⟨r1.1, ?_⟩, fun _ => Iff.rfl⟩, ⟨r2.os, r2.tape, r2.output, r2.size, fun k hk _ => r2.block k hk (by simp), fun k hk => .inr (hlt k hk).1⟩⟩
        rcases r1.2 with h | ⟨g, cap, cur, h⟩
        · exact .inl h
        · exact .inr ⟨g, cap, cur, h.1, Nat.zero_le _, h.2.2⟩

/-- A slice value in the region S of memory reads as these bytes. -/
def View (w : World) (S : Nat → Prop) (ao : Option Addr) (l : List UInt8) : Prop :=
  l = [] ∨ ∃ b o, ao = some ⟨b, o, none⟩ ∧ S b ∧ b < w.heap.size ∧ ∀ j, j < l.length → w.cell? ⟨b, o + j, none⟩ = some (.int .u8 ((l.getD j 0).toNat : Int))

theorem View.step {w w' : World} {S T U : Nat → Prop} {ao : Option Addr} {l : List UInt8} (h : View w S ao l) (g : Step T U w w') (hd : Dis S T) : View w' S ao l := by
  rcases h with h | ⟨b, o, e, hS, hb, hc⟩
  · exact .inl h
  · exact .inr ⟨b, o, e, hS, Nat.lt_of_lt_of_le hb g.size, fun j hj => (World.cell?_of_block (w := w) (g.block b hb (hd b hS))).trans (hc j hj)⟩

theorem View.live {w : World} {D : Nat → Prop} {ao : Option Addr} {l : List UInt8} (h : View w D ao l) : View w (fun k => D k ∧ k < w.heap.size) ao l := by
  rcases h with h | ⟨b, o, e, hS, hb, hc⟩
  · exact .inl h
  · exact .inr ⟨b, o, e, ⟨hS, hb⟩, hb, hc⟩

theorem Dis.step {D S T : Nat → Prop} {w w' : World} (hd : Dis D S) (hs : Step S T w w') : Dis (fun k => D k ∧ k < w.heap.size) T :=
  fun k hk ht => (hs.new k ht).elim (hd k hk.1) (fun h => absurd hk.2 (by omega))

theorem Dis.symm {S T : Nat → Prop} (h : Dis S T) : Dis T S := fun k ht hs => h k hs ht

/-- two objects stay apart when one of them grows -/
theorem Dis.grow {S T U : Nat → Prop} {w w' : World} (hd : Dis S U) (hu : ∀ k, U k → k < w.heap.size) (hs : Step S T w w') : Dis T U :=
  fun k ht hk => (hs.new k ht).elim (fun h => hd k h hk) (fun h => absurd (hu k hk) (by omega))

/-- all that an object holds lies from B on -/
theorem Step.from {S T : Nat → Prop} {w w' : World} {B : Nat} (hs : Step S T w w') (h : ∀ k, S k → B ≤ k) (hB : B ≤ w.heap.size) : ∀ k, T k → B ≤ k :=
  fun k ht => (hs.new k ht).elim (h k) (fun g => Nat.le_trans hB g)

theorem Row.view {w : World} {e : TypeId} {T : Nat → Prop} {ao : Option Addr} {n cap : Nat} {l : List UInt8} (h : Row w e 1 T (.slice ao n cap) n (l.map byteV)) : View w T ao l := by
  have hl : l.length = n := by simpa using h.own.1
  obtain ⟨ao', cap', hv, _, _, h0, h1⟩ := h.form
  simp only [Value.slice.injEq, true_and] at hv
  obtain ⟨rfl, rfl⟩ := hv
  cases ao with
  | none => have := (h0 rfl).1; exact .inl (List.eq_nil_of_length_eq_zero (by omega))
  | some a =>
    obtain ⟨g, rfl, hT⟩ := h1 a rfl
    refine .inr ⟨g, 0, rfl, hT, h.lt g hT, fun j hj => ?_⟩
    rw [Nat.zero_add, h.cells j (by rw [Nat.mul_one]; omega)]
    simp [byteV, hj]

theorem Step.pre {S S' T : Nat → Prop} {w w1 w2 : World} (h : Step (fun _ => False) T w w1) (g : Step S S' w1 w2) : Step S S' w w2 :=
  ⟨g.os.trans h.os, g.tape.trans h.tape, g.output.trans h.output, Nat.le_trans h.size g.size, fun k hk hs => (g.block k (Nat.lt_of_lt_of_le hk h.size) hs).trans (h.block k hk (fun h => h)), fun k hk => (g.new k hk).imp id (Nat.le_trans h.size)⟩

end Go.Own

end
section
namespace Go.Own
open Go.RowKit

/-- an object: what is so of it, given the blocks that it holds; what others turn does not touch it -/
structure Asn where
  holds : (Nat → Prop) → World → Prop
  keep : ∀ {S T U : Nat → Prop} {w w' : World}, holds S w → Step T U w w' → Dis S T → holds S w'
  lt : ∀ {S : Nat → Prop} {w : World}, holds S w → ∀ k, S k → k < w.heap.size

/-- the objects lie apart, and hold the blocks S together -/
def Apart (w : World) : List Asn → (Nat → Prop) → Prop
  | [], S => ∀ k, ¬ S k
  | P :: Ps, S => ∃ S1 S2, P.holds S1 w ∧ Apart w Ps S2 ∧ Dis S1 S2 ∧ ∀ k, S k ↔ (S1 k ∨ S2 k)

theorem Apart.lt {w : World} : ∀ {Ps : List Asn} {S : Nat → Prop}, Apart w Ps S → ∀ k, S k → k < w.heap.size
  | [], _, h, k, hk => absurd hk (h k)
  | P :: _, _, ⟨_, _, h1, h2, _, h4⟩, k, hk => ((h4 k).1 hk).elim (P.lt h1 k) (fun h => h2.lt k h)

theorem Apart.keep {w w' : World} {T U : Nat → Prop} (g : Step T U w w') : ∀ {Ps : List Asn} {S : Nat → Prop}, Apart w Ps S → Dis S T → Apart w' Ps S
  | [], _, h, _ => h
  | P :: _, _, ⟨S1, S2, h1, h2, h3, h4⟩, hd => ⟨S1, S2, P.keep h1 g (fun k hk => hd k ((h4 k).2 (.inl hk))), h2.keep g (fun k hk => hd k ((h4 k).2 (.inr hk))), h3, h4⟩

/-- one of them is looked at, turned into something else, and put back -/
theorem Apart.at {w : World} : ∀ {Ps : List Asn} {S : Nat → Prop} (i : Nat) {P : Asn}, Apart w Ps S → Ps[i]? = some P →
    ∃ Si, P.holds Si w ∧ (∀ k, Si k → S k) ∧ (∀ (j : Nat) (R : Asn), j ≠ i → Ps[j]? = some R → ∃ Sj, R.holds Sj w ∧ Dis Sj Si) ∧
      ∀ (S' : Nat → Prop) (w' : World) (Q : Asn), Q.holds S' w' → Step Si S' w w' → ∃ S'', Apart w' (Ps.set i Q) S'' ∧ (∀ k, S'' k → S k ∨ S' k)
  | [], _, i, _, _, hi => by simp at hi
  | P :: Ps, S, 0, P', ⟨S1, S2, h1, h2, h3, h4⟩, hi => by
    obtain rfl : P = P' := by simpa using hi
    refine ⟨S1, h1, fun k hk => (h4 k).2 (.inl hk), fun j R hj hR => ?_, fun S' w' Q hQ hs => ⟨fun k => S' k ∨ S2 k, ⟨S', S2, hQ, h2.keep hs h3.symm, h3.grow h2.lt hs, fun k => Iff.rfl⟩, fun k hk => hk.elim .inr (fun h => .inl ((h4 k).2 (.inr h)))⟩⟩
    match j, hj with
    | j + 1, _ =>
      obtain ⟨Sj, g1, g2, _⟩ := h2.at j (by simpa using hR)
      exact ⟨Sj, g1, fun k hk hk' => h3 k hk' (g2 k hk)⟩
  | P :: Ps, S, i + 1, P', ⟨S1, S2, h1, h2, h3, h4⟩, hi => by
    obtain ⟨Si, g1, g2, g4, g3⟩ := h2.at i (by simpa using hi)
    refine ⟨Si, g1, fun k hk => (h4 k).2 (.inr (g2 k hk)), fun j R hj hR => ?_, fun S' w' Q hQ hs => ?_⟩
    · match j, hj with
      | 0, _ =>
        obtain rfl : P = R := by simpa using hR
        exact ⟨S1, h1, fun k hk hk' => h3 k hk (g2 k hk')⟩
      | j + 1, hj => exact g4 j R (by omega) (by simpa using hR)
    obtain ⟨S'', k1, k2⟩ := g3 S' w' Q hQ hs
    have hd : Dis S1 Si := fun k hk hk' => h3 k hk (g2 k hk')
    have hd' : Dis S1 S' := (hd.symm.grow (P.lt h1) hs).symm
    exact ⟨fun k => S1 k ∨ S'' k, ⟨S1, S'', P.keep h1 hs hd, k1, fun k hk hk' => (k2 k hk').elim (h3 k hk) (hd' k hk), fun k => Iff.rfl⟩, fun k hk => hk.elim (fun h => .inl ((h4 k).2 (.inl h))) (fun h => (k2 k h).imp (fun g => (h4 k).2 (.inr g)) id)⟩

/-- THE STATE OF A CALL: since w0 nothing below B has turned; these objects lie apart, from B on. -/
structure St (B : Nat) (w0 w : World) (Ps : List Asn) : Prop where
  below : Below B w0 w
  size : B ≤ w.heap.size
  own : ∃ S, Apart w Ps S ∧ ∀ k, S k → B ≤ k

theorem St.start (w : World) : St w.heap.size w w [] := ⟨Below.refl _ _, Nat.le_refl _, fun _ => False, fun _ h => h, fun _ h => h.elim⟩

section
variable {B : Nat} {w0 w w' : World} {Ps : List Asn}

theorem St.at (h : St B w0 w Ps) (i : Nat) {P : Asn} (hi : Ps[i]? = some P) :
    ∃ Si, P.holds Si w ∧ (∀ k, Si k → B ≤ k) ∧ ∀ (S' : Nat → Prop) (w' : World) (Q : Asn), Q.holds S' w' → Step Si S' w w' → St B w0 w' (Ps.set i Q) := by
  obtain ⟨hb, hs, S, ha, hB⟩ := h
  obtain ⟨Si, g1, g2, _, g3⟩ := ha.at i hi
  refine ⟨Si, g1, fun k hk => hB k (g2 k hk), fun S' w' Q hQ hst => ?_⟩
  obtain ⟨S'', k1, k2⟩ := g3 S' w' Q hQ hst
  exact ⟨hb.trans (hst.below hs (fun k hk => hB k (g2 k hk))), Nat.le_trans hs hst.size, S'', k1, fun k hk => (k2 k hk).elim (hB k) (fun g => (hst.new k g).elim (fun g => hB k (g2 k g)) (Nat.le_trans hs))⟩

/-- something new -/
theorem St.new (h : St B w0 w Ps) {S' : Nat → Prop} (Q : Asn) (hQ : Q.holds S' w') (hst : Step (fun _ => False) S' w w') : St B w0 w' (Q :: Ps) := by
  obtain ⟨hb, hs, S, ha, hB⟩ := h
  refine ⟨hb.trans (hst.below hs (fun _ h => h.elim)), Nat.le_trans hs hst.size, fun k => S' k ∨ S k, ⟨S', S, hQ, ha.keep hst (fun _ _ h => h), fun k h1 h2 => (hst.new k h1).elim (fun h => h) (fun h => by have := ha.lt k h2; omega), fun k => Iff.rfl⟩, fun k hk => hk.elim (fun h => (hst.new k h).elim (fun h => h.elim) (Nat.le_trans hs)) (hB k)⟩

/-- nothing that is held has turned -/
theorem St.quiet (h : St B w0 w Ps) {T : Nat → Prop} (hst : Step (fun _ => False) T w w') : St B w0 w' Ps := by
  obtain ⟨hb, hs, S, ha, hB⟩ := h
  exact ⟨hb.trans (hst.below hs (fun _ h => h.elim)), Nat.le_trans hs hst.size, S, ha.keep hst (fun _ _ h => h), hB⟩

theorem St.alloc (h : St B w0 w Ps) (o : Obj) : St B w0 (w.alloc o) Ps := h.quiet ((Step.refl (fun _ => False) w).alloc o)
theorem St.drew (h : St B w0 w Ps) : St B w0 w.drew Ps := h.quiet ((Step.refl (fun _ => False) w).drew)
theorem St.drewN (h : St B w0 w Ps) (n : Nat) : St B w0 (w.drewN n) Ps := h.quiet ((Step.refl (fun _ => False) w).drewN n)

/-- something is let go -/
theorem Apart.drop {w : World} : ∀ {Ps : List Asn} {S : Nat → Prop} (n : Nat), Apart w Ps S → ∃ S', Apart w (Ps.drop n) S' ∧ ∀ k, S' k → S k
  | Ps, S, 0, h => ⟨S, by simpa using h, fun _ h => h⟩
  | [], S, n + 1, h => ⟨S, by simpa using h, fun _ h => h⟩
  | _ :: _, _, n + 1, ⟨_, _, _, h2, _, h4⟩ => by
    obtain ⟨S', g1, g2⟩ := h2.drop n
    exact ⟨S', by simpa using g1, fun k hk => (h4 k).2 (.inr (g2 k hk))⟩
theorem St.drop (h : St B w0 w Ps) (n : Nat) : St B w0 w (Ps.drop n) := by
  obtain ⟨hb, hs, S, ha, hB⟩ := h
  obtain ⟨S', g1, g2⟩ := ha.drop n
  exact ⟨hb, hs, S', g1, fun k hk => hB k (g2 k hk)⟩

end

/-- old memory reads as it did -/
theorem View.below {w w' : World} {B : Nat} {ao : Option Addr} {l : List UInt8} (h : View w (fun k => k < B) ao l) (g : Below B w w') : View w' (fun k => k < B) ao l := by
  rcases h with h | ⟨b, o, e, hS, hb, hc⟩
  · exact .inl h
  · exact .inr ⟨b, o, e, hS, Nat.lt_of_lt_of_le hb g.size, fun j hj => (World.cell?_of_block (w := w) (g.block b hS)).trans (hc j hj)⟩

theorem View.mono {w : World} {D D' : Nat → Prop} {ao : Option Addr} {l : List UInt8} (h : View w D ao l) (hd : ∀ k, D k → D' k) : View w D' ao l := by
  rcases h with h | ⟨b, o, e, hS, hb, hc⟩
  · exact .inl h
  · exact .inr ⟨b, o, e, hd b hS, hb, hc⟩

/-- a row as an object -/
def ARow (e : TypeId) (size : Nat) (v : Value) (n : Nat) (xs : List Value) : Asn where
  holds S w := Row w e size S v n xs
  keep h g hd := h.step g hd
  lt h := h.lt

/-- a block of one's own, known whole -/
def ABlk (b : Nat) (o : Obj) : Asn where
  holds S w := w.heap[b]? = some o ∧ ∀ k, S k ↔ k = b
  keep h g hd := ⟨(g.block _ (lt_of_block h.1) (hd _ ((h.2 _).2 rfl))).trans h.1, h.2⟩
  lt h k hk := by rw [(h.2 k).1 hk]; exact lt_of_block h.1

theorem St.block {B : Nat} {w0 w : World} {Ps : List Asn} (h : St B w0 w Ps) (i : Nat) {b : Nat} {o : Obj} (hi : Ps[i]? = some (ABlk b o)) : w.heap[b]? = some o := by
  obtain ⟨S, hS, _⟩ := h.at i hi
  exact hS.1

theorem St.box {B : Nat} {w0 w : World} {Ps : List Asn} (h : St B w0 w Ps) (o : Obj) : St B w0 (w.alloc o) (ABlk w.heap.size o :: Ps) :=
  h.new (S' := fun k => k = w.heap.size) (ABlk w.heap.size o) ⟨heap_alloc_new w o, fun _ => Iff.rfl⟩ (((Step.refl (fun _ => False) w).alloc o).to (fun k hk => Or.inr (Nat.le_of_eq hk.symm)))

end Go.Own

end
section
namespace Go.Own
open Go.RowKit

theorem Apart.iff {w : World} : ∀ {Ps : List Asn} {S T : Nat → Prop}, Apart w Ps S → (∀ k, S k ↔ T k) → Apart w Ps T
  | [], _, _, h, e => fun k hk => h k ((e k).2 hk)
  | _ :: _, _, _, ⟨S1, S2, h1, h2, h3, h4⟩, e => ⟨S1, S2, h1, h2, h3, fun k => (e k).symm.trans (h4 k)⟩
theorem Apart.append {w : World} : ∀ {Ps Qs : List Asn} {S T : Nat → Prop}, Apart w Ps S → Apart w Qs T → Dis S T → Apart w (Ps ++ Qs) (fun k => S k ∨ T k)
  | [], Qs, S, T, h, g, _ => g.iff fun k => ⟨.inr, fun x => x.elim (fun y => (h k y).elim) id⟩
  | P :: Ps, Qs, S, T, ⟨S1, S2, h1, h2, h3, h4⟩, g, hd => ⟨S1, fun k => S2 k ∨ T k, h1, Apart.append h2 g (fun k hk => hd k ((h4 k).2 (.inr hk))), fun k hk hk' => hk'.elim (h3 k hk) (hd k ((h4 k).2 (.inl hk))), fun k => by show (S k ∨ T k) ↔ (S1 k ∨ S2 k ∨ T k); rw [h4 k, or_assoc]⟩
theorem Apart.split {w : World} : ∀ {Ps Qs : List Asn} {S : Nat → Prop}, Apart w (Ps ++ Qs) S → ∃ S1 S2, Apart w Ps S1 ∧ Apart w Qs S2 ∧ Dis S1 S2 ∧ ∀ k, S k ↔ (S1 k ∨ S2 k)
  | [], Qs, S, h => ⟨fun _ => False, S, fun _ h => h, h, fun _ h => h.elim, fun k => ⟨.inr, fun x => x.elim (fun y => y.elim) id⟩⟩
  | P :: Ps, Qs, S, ⟨S1, S2, h1, h2, h3, h4⟩ => by
    obtain ⟨T1, T2, g1, g2, g3, g4⟩ := Apart.split h2
    exact ⟨fun k => S1 k ∨ T1 k, T2, ⟨S1, T1, h1, g1, fun k hk hk' => h3 k hk ((g4 k).2 (.inl hk')), fun k => Iff.rfl⟩, g2, fun k hk hk' => hk.elim (fun x => h3 k x ((g4 k).2 (.inr hk'))) (fun x => g3 k x hk'), fun k => by rw [h4 k, g4 k, or_assoc]⟩

theorem erase_perm {α : Type _} : ∀ (l : List α) (i : Nat) (h : i < l.length), (l[i] :: l.eraseIdx i).Perm l
  | [], i, h => by simp at h
  | x :: l, 0, _ => List.Perm.refl _
  | x :: l, i + 1, h => by
    have h' : i < l.length := by simpa using h
    exact ((List.Perm.swap x l[i] (l.eraseIdx i))).trans ((erase_perm l i h').cons x)
theorem Apart.perm {w : World} {Ps Qs : List Asn} (h : Ps.Perm Qs) : ∀ {S : Nat → Prop}, Apart w Ps S → Apart w Qs S := by
  induction h with
  | nil => exact fun h => h
  | cons x _ ih => rintro S ⟨S1, S2, h1, h2, h3, h4⟩; exact ⟨S1, S2, h1, ih h2, h3, h4⟩
  | swap x y l =>
    rintro S ⟨S1, S2, h1, ⟨T1, T2, g1, g2, g3, g4⟩, h3, h4⟩
    refine ⟨T1, fun k => S1 k ∨ T2 k, g1, ⟨S1, T2, h1, g2, fun k a b => h3 k a ((g4 k).2 (.inr b)), fun k => Iff.rfl⟩, fun k a b => b.elim (fun c => h3 k c ((g4 k).2 (.inl a))) (g3 k a), fun k => ?_⟩
    rw [h4 k, g4 k]
    constructor
    · rintro (a | a | a)
      · exact .inr (.inl a)
      · exact .inl a
      · exact .inr (.inr a)
    · rintro (a | a | a)
      · exact .inr (.inl a)
      · exact .inl a
      · exact .inr (.inr a)
  | trans _ _ ih1 ih2 => exact fun h => ih2 (ih1 h)

/-- an object made of objects -/
def AJoin (Qs : List Asn) : Asn := ⟨fun S w => Apart w Qs S, fun h g hd => h.keep g hd, fun h => h.lt⟩

section
variable {B : Nat} {w0 w w' : World} {Ps Qs : List Asn}
theorem St.perm (h : St B w0 w Ps) (e : Ps.Perm Qs) : St B w0 w Qs := by
  obtain ⟨hb, hs, S, ha, hB⟩ := h
  exact ⟨hb, hs, S, ha.perm e, hB⟩
theorem St.openJ (h : St B w0 w (AJoin Qs :: Ps)) : St B w0 w (Qs ++ Ps) := by
  obtain ⟨hb, hs, S, ⟨S1, S2, h1, h2, h3, h4⟩, hB⟩ := h
  exact ⟨hb, hs, _, Apart.append h1 h2 h3, fun k hk => hB k ((h4 k).2 hk)⟩
theorem St.closeJ (h : St B w0 w (Qs ++ Ps)) : St B w0 w (AJoin Qs :: Ps) := by
  obtain ⟨hb, hs, S, ha, hB⟩ := h
  obtain ⟨S1, S2, h1, h2, h3, h4⟩ := ha.split
  exact ⟨hb, hs, S, ⟨S1, S2, h1, h2, h3, h4⟩, hB⟩
/-- one of them to the front, and back -/
theorem St.front (h : St B w0 w Ps) (i : Nat) {P : Asn} (hi : Ps[i]? = some P) : St B w0 w (P :: Ps.eraseIdx i) := by
  obtain ⟨hl, rfl⟩ := List.getElem?_eq_some_iff.1 hi
  exact h.perm (erase_perm Ps i hl).symm
end
end Go.Own

end
section
namespace Go.Own
open Go.RowKit

/-- a block of one's own with these cells -/
def AVals (b : Nat) (t : TypeId) (vs : List Value) : Asn := ABlk b (.cells vs.toArray t (0, 0))

section
variable {B : Nat} {w0 w : World} {Ps : List Asn} {b : Nat} {t : TypeId} {vs : List Value}

theorem St.cellV (h : St B w0 w Ps) (i : Nat) (hi : Ps[i]? = some (AVals b t vs)) (j : Nat) {v : Value} (hj : vs[j]? = some v) : w.cell? ⟨b, j, none⟩ = some v ∧ w.frozen? ⟨b, j, none⟩ = false := by
  have hb := h.block i hi
  exact ⟨cell_of_block hb (by simpa using hj), frozen_of_block hb⟩

theorem St.storeV (h : St B w0 w Ps) (i : Nat) (hi : Ps[i]? = some (AVals b t vs)) (j : Nat) (v : Value) : St B w0 (w.setCell ⟨b, j, none⟩ v) (Ps.set i (AVals b t (vs.set j v))) := by
  obtain ⟨S, hS, _, put⟩ := h.at i hi
  refine put S _ (AVals b t (vs.set j v)) ⟨?_, hS.2⟩ ((Step.refl S w).setCell (a := ⟨b, j, none⟩) (Or.inl ((hS.2 b).2 rfl)) _)
  rw [block_setCell hS.1]
  simp

theorem St.boxV (h : St B w0 w Ps) (t : TypeId) (vs : List Value) : St B w0 (w.alloc (.cells vs.toArray t)) (AVals w.heap.size t vs :: Ps) := h.box _

/-- all its cells are written -/
theorem St.setAll (i : Nat) : ∀ (r : List Value) (o : Nat) (w : World) (Ps : List Asn) (vs : List Value), St B w0 w Ps → Ps[i]? = some (AVals b t vs) → o + r.length = vs.length → St B w0 (w.setCells b o r) (Ps.set i (AVals b t (vs.take o ++ r)))
  | [], o, w, Ps, vs, h, hi, hl => by
    have e : vs.take o ++ [] = vs := by rw [List.append_nil, List.take_of_length_le (by simp at hl; omega)]
    rw [e]
    have : Ps.set i (AVals b t vs) = Ps := by
      apply List.ext_getElem?
      intro j
      by_cases hj : j = i
      · subst hj
        have hlt : j < Ps.length := (List.getElem?_eq_some_iff.1 hi).1
        rw [List.getElem?_set_self hlt, hi]
      · rw [List.getElem?_set_ne (Ne.symm hj)]
    rw [this]
    exact h
  | v :: r, o, w, Ps, vs, h, hi, hl => by
    have hlt : i < Ps.length := (List.getElem?_eq_some_iff.1 hi).1
    have h1 := h.storeV i hi o v
    have h2 := St.setAll i r (o + 1) _ _ (vs.set o v) h1 (by rw [List.getElem?_set_self hlt]) (by simp at hl ⊢; omega)
    rw [List.set_set] at h2
    have e : (vs.set o v).take (o + 1) ++ r = vs.take o ++ v :: r := by
      have ho : o < vs.length := by simp at hl; omega
      have e0 : (vs.set o v).take o = vs.take o := by
        apply List.ext_getElem?
        intro j
        by_cases hj : j < o
        · rw [List.getElem?_take_of_lt hj, List.getElem?_take_of_lt hj, List.getElem?_set_ne (by omega)]
        · rw [List.getElem?_eq_none (by simp; omega), List.getElem?_eq_none (by simp; omega)]
      rw [List.take_succ_eq_append_getElem (by simpa using ho), e0]
      simp
    rw [e] at h2
    exact h2

/-- the block whole, as the laws on rows want it -/
theorem St.rowV (h : St B w0 w Ps) (i : Nat) (hi : Ps[i]? = some (AVals b t vs)) : w.heap[b]? = some (.cells vs.toArray t (0, 0)) := h.block i hi
theorem St.thereV (h : St B w0 w Ps) (i : Nat) (hi : Ps[i]? = some (AVals b t vs)) {n : Nat} (hn : n ≤ vs.length) : w.there b 0 n := by
  intro j hj
  obtain ⟨h1, h2⟩ := h.cellV i hi j (v := vs[j]) (by simp [show j < vs.length by omega])
  rw [Nat.zero_add]
  exact ⟨by rw [h1]; rfl, h2⟩

/-- nothing that is there has turned -/
theorem St.later {w' : World} (h : St B w0 w Ps) (hb : Below w.heap.size w w') : St B w0 w' Ps :=
  h.quiet (T := fun _ => False) ⟨hb.os, hb.tape, hb.output, hb.size, fun k hk _ => hb.block k hk, fun _ h => h.elim⟩

/-- which block it is: apart from every older one -/
theorem St.ltV (h : St B w0 w Ps) (i : Nat) (hi : Ps[i]? = some (AVals b t vs)) : B ≤ b ∧ b < w.heap.size := by
  obtain ⟨S, hS, hB, _⟩ := h.at i hi
  exact ⟨hB b ((hS.2 b).2 rfl), lt_of_block hS.1⟩
end
end Go.Own

end
section
namespace Go.Own
open Go.RowKit

def strB (l : List UInt8) : ByteArray := ⟨l.toArray⟩

theorem strB_nums (l : List UInt8) : strOfNums (l.map fun c => (c.toNat : Int)) = strB l := by
  apply ByteArray.ext
  apply Array.toList_inj.1
  show (strOfNums _).data.toList = (strB l).data.toList
  rw [strOfNums_data, List.map_map]
  show _ = l
  conv => rhs; rw [← List.map_id l]
  apply List.map_congr_left
  intro x _
  simp

theorem strB_toList (l : List UInt8) : (strB l).toList = l := by
  rw [Lib.toList_data]; rfl

theorem run_str {P : Program} {w : World} {D : Nat → Prop} {ao : Option Addr} {l : List UInt8} (src e dst : TypeId) (hs : P.underlying src = some (.slice e)) (he : P.underlying e = some (.int .u8)) (hd : P.underlying dst = some .string) (h : View w D ao l) (cap : Nat) :
    (convert src dst (.slice ao l.length cap)).run P w = .ok (.string (strB l)) w := by
  cases ao with
  | none =>
    rcases h with rfl | ⟨b, o, h, _⟩
    · exact run_convert_bytes_nil w src e hs he _ _ dst hd
    · cases h
  | some a =>
    rcases h with rfl | ⟨b, o, h, _, _, hc⟩
    · rw [run_convert_bytes_string w src dst e _ _ _ hs he hd]
      have := run_bytesToString (P := P) w a 0 cap [] (by simp [loadCells, loadCellsFrom])
      exact this
    · cases h
      have := run_convert_bytes_arg (P := P) w src e hs he b o l.length cap (l.map fun c => (c.toNat : Int)) (by simp) (fun i hi => by rw [hc i hi]; simp [List.getD, hi]) dst hd
      rw [this, strB_nums]

end Go.Own

end
section
namespace Go.Own
open Go.RowKit Go.ChangeShapes Go.WideShapes Go.Deep

/-- what is so of the cells of a value of one type, in a world, for plain data -/
abbrev InT (α : Type) := α → Nat → World → List Value → Prop

def inInt (k : IntKind) : InT Int := fun n _ _ cs => cs = [.int k n] ∧ (Lit.int k n).wf = true
/-- a slice: nil, or empty, or leading to its elements -/
def inSlice {α : Type} (size : Nat) (R : InT α) : InT (List α) := fun xs B w cs =>
  ∃ ao cap, cs = [.slice ao xs.length cap] ∧ xs.length ≤ cap ∧ cap ≤ maxLen ∧ (ao = none → cap = 0) ∧
    (xs = [] ∨ ∃ b o, ao = some ⟨b, o, none⟩ ∧ b < B ∧ b < w.heap.size ∧ ∀ i (hi : i < xs.length), ∃ cs', cs'.length = size ∧ (∀ j, j < size → w.cell? ⟨b, o + (i * size + j), none⟩ = cs'[j]?) ∧ R xs[i] B w cs')
def inBytes : InT (List UInt8) := fun l B w cs =>
  ∃ ao cap, cs = [.slice ao l.length cap] ∧ l.length ≤ cap ∧ cap ≤ maxLen ∧ (ao = none → cap = 0) ∧ View w (fun k => k < B) ao l

/-- the form's own reading of a value of type t gives it -/
def Opens {α : Type} (P : Program) (t : TypeId) (R : InT α) : Prop :=
  ∀ (H : Type) (enc : TypeId × Value → H) (w : World) (fuel : Nat) (cs : List Value) (x : DataW H × List MemPlace),
    DataW.trod enc P w 0 (fun _ => true) true fuel t cs = some x → ∃ a, R a w.heap.size w cs

theorem opens_int {P : Program} {t : TypeId} {k : IntKind} (ht : P.underlying t = some (.int k)) : Opens P t (inInt k) := by
  intro H enc w fuel cs x h
  obtain ⟨n, rfl, _, hw⟩ := DataW.trod_int ht h
  exact ⟨n, rfl, hw⟩
theorem add_of (b o j : Nat) : (⟨b, o, none⟩ : Addr).add j = ⟨b, o + j, none⟩ := by unfold Addr.add; split <;> simp_all

/-- elements, one by one, as one list -/
theorem list_of {α : Type} {n : Nat} {p : Nat → α → Prop} (h : ∀ i, i < n → ∃ x, p i x) : ∃ xs : List α, xs.length = n ∧ ∀ i (hi : i < xs.length), p i xs[i] := by
  induction n with
  | zero => exact ⟨[], rfl, fun i hi => absurd hi (Nat.not_lt_zero _)⟩
  | succ n ih =>
    obtain ⟨xs, h1, h2⟩ := ih (fun i hi => h i (by omega))
    obtain ⟨x, hx⟩ := h n (by omega)
    refine ⟨xs ++ [x], by simp [h1], fun i hi => ?_⟩
    by_cases hin : i < xs.length
    · rw [List.getElem_append_left hin]; exact h2 i hin
    · have : i = n := by simp at hi; omega
      subst this
      rw [List.getElem_append_right (by omega)]
      simpa [h1] using hx

theorem opens_slice {α : Type} {P : Program} {t e : TypeId} {R : InT α} (size : Nat) (ht : P.underlying t = some (.slice e)) (hc : P.cellsOf e = size) (hpos : 0 < size) (hR : Opens P e R) : Opens P t (inSlice size R) := by
  intro H enc w fuel cs x h
  rcases open_slice ht h with ⟨rfl, _⟩ | ⟨a, len, cap, m, n, D, Pl, rfl, _, h1, h2, hm, _, hel⟩
  · exact ⟨[], none, 0, rfl, Nat.le_refl _, by unfold maxLen; omega, fun _ => rfl, .inl rfl⟩
  · simp only [if_true] at hm
    subst hm
    rw [hc] at hel
    obtain ⟨xs, k1, k2⟩ := list_of (n := len) (p := fun i (y : α) => ∃ cs', cs'.length = size ∧ (∀ j, j < size → w.cell? ((a.add (i * size)).add j) = cs'[j]?) ∧ R y w.heap.size w cs') (fun i hi => by
      obtain ⟨cs', hcs, hd⟩ := hel i (by omega)
      obtain ⟨y, hy⟩ := hR H enc w n cs' _ hd
      obtain ⟨_, g1, g2⟩ := World.cells?_some hcs
      exact ⟨y, cs', g1, g2, hy⟩)
    subst k1
    refine ⟨xs, some a, m, rfl, h1, h2, fun h => by (cases h), ?_⟩
    rcases Nat.eq_zero_or_pos xs.length with hz | hz
    · exact .inl (List.eq_nil_of_length_eq_zero hz)
    · right
      obtain ⟨b, o, sp⟩ := a
      obtain ⟨cs', g1, g2, _⟩ := k2 0 hz
      have g3 := g2 0 hpos
      have e0 : ((⟨b, o, sp⟩ : Addr).add (0 * size)).add 0 = ⟨b, o, sp⟩ := by simp [Addr.add]
      rw [e0] at g3
      obtain ⟨u, hu⟩ : ∃ u, cs'[0]? = some u := ⟨cs'[0]'(by omega), by simp [show 0 < cs'.length by omega]⟩
      rw [hu] at g3
      have hsp : sp = none := by
        cases sp with
        | none => rfl
        | some s =>
          unfold World.cell? at g3
          split at g3 <;> simp at g3
      subst hsp
      have hlt := World.block_lt_of_cell? w _ g3
      refine ⟨b, o, rfl, hlt, hlt, fun i hi => ?_⟩
      obtain ⟨cs'', f1, f2, f3⟩ := k2 i hi
      exact ⟨cs'', f1, fun j hj => by rw [← f2 j hj, add_of, add_of, Nat.add_assoc], f3⟩

theorem opens_bytes {P : Program} {t e : TypeId} (ht : P.underlying t = some (.slice e)) (he : P.underlying e = some (.int .u8)) (hc : P.cellsOf e = 1) : Opens P t inBytes := by
  intro H enc w fuel cs x h
  obtain ⟨zs, ao, cap, h1, h2, h3, h4, h5⟩ := opens_slice 1 ht hc (by decide) (opens_int he) H enc w fuel cs x h
  refine ⟨zs.map fun z => UInt8.ofNat z.toNat, ao, cap, by simpa using h1, by simpa using h2, h3, h4, ?_⟩
  rcases h5 with rfl | ⟨b, o, e, hb, hs, hcell⟩
  · exact .inl rfl
  · refine .inr ⟨b, o, e, hb, hs, fun j hj => ?_⟩
    rw [List.length_map] at hj
    obtain ⟨cs', g1, g2, g3, g4⟩ := hcell j hj
    subst g3
    have := g2 0 (by decide)
    rw [Nat.mul_one, Nat.add_zero] at this
    rw [this]
    have hw : 0 ≤ zs[j] ∧ zs[j] ≤ 255 := by simpa [Lit.wf, IntKind.min, IntKind.max, IntKind.signed, IntKind.bits] using g4
    have e2 : ((zs.map fun z => UInt8.ofNat z.toNat).getD j 0) = UInt8.ofNat zs[j].toNat := by simp [List.getD, hj]
    rw [e2]
    simp
    omega

/-- the fields of a struct, one behind the other -/
theorem opens_fields {P : Program} {t : TypeId} {fs : Array Field} {H : Type} {enc : TypeId × Value → H} {w : World} {fuel : Nat} {cs : List Value} {x : DataW H × List MemPlace} (ht : P.underlying t = some (.struct fs))
    (h : DataW.trod enc P w 0 (fun _ => true) true fuel t cs = some x) :
    cs.length = P.cellsOf t ∧ ∀ (i : Nat) (f : Field), fs[i]? = some f → ∃ n y, DataW.trod enc P w 0 (fun _ => true) true n f.type ((cs.drop f.offset).take (P.cellsOf f.type)) = some y := by
  obtain ⟨xs, n, _, _, hl, hlen, hf⟩ := DataW.trod_struct ht h
  refine ⟨hl, fun i f hi => ?_⟩
  have := hf i f hi
  have hlt : i < xs.length := by rw [hlen]; exact (Array.getElem?_eq_some_iff.1 hi).1
  rw [List.getElem?_eq_getElem hlt] at this
  exact ⟨n, _, this⟩

end Go.Own

end
section
namespace Go.Proofs.Ytameigmoabimiaa
open Go.RowKit Go.Own
namespace Byt

theorem infoU8 : (Try.prog.info? 5).map (fun i => (i.zero, i.size, i.bytes)) = some (some (.int .u8 0), 1, 1) := by kernel_rfl

theorem vcells {w : World} {D : Nat → Prop} {ao : Option Addr} {bs : List UInt8} (h : View w D ao bs) : ∀ a, ao = some a → ∀ j u, (bs.map byteV)[j]? = some u → w.cell? (a.add j) = some u := by
  intro a ha j u hu
  have hj := (List.getElem?_eq_some_iff.1 hu).1
  rw [List.length_map] at hj
  rcases h with rfl | ⟨b, o, hab, _, _, hc⟩
  · simp at hj
  · rw [ha] at hab
    cases hab
    have e : (⟨b, o, none⟩ : Addr).add j = ⟨b, o + j, none⟩ := by unfold Addr.add; split <;> simp_all
    rw [e, hc j hj]
    rw [← hu]
    simp [byteV, hj]
/-- a slice of bytes of one's own -/
def AB (ao : Option Addr) (n cap : Nat) (l : List UInt8) : Asn := ARow 5 1 (.slice ao n cap) n (l.map byteV)
theorem AB.view {w : World} {S : Nat → Prop} {ao : Option Addr} {n cap : Nat} {l : List UInt8} (h : (AB ao n cap l).holds S w) : View w S ao l := Row.view h
theorem AB.len {w : World} {S : Nat → Prop} {ao : Option Addr} {n cap : Nat} {l : List UInt8} (h : (AB ao n cap l).holds S w) : l.length = n ∧ n ≤ cap ∧ cap ≤ maxLen ∧ (ao = none → n = 0 ∧ cap = 0) := by
  obtain ⟨ao', cap', hv, h1, h2, h3, _⟩ := Row.form h
  simp only [Value.slice.injEq, true_and] at hv
  obtain ⟨rfl, rfl⟩ := hv
  exact ⟨by have := h.own.1; simpa using this, h1, h2, fun e => ⟨(h3 e).1, (h3 e).2.1⟩⟩
section
variable {B : Nat} {w0 w : World} {Ps : List Asn} {ao : Option Addr} {n cap : Nat} {l : List UInt8}
theorem ab_len (H : St B w0 w Ps) (i : Nat) (hi : Ps[i]? = some (AB ao n cap l)) : l.length = n ∧ n ≤ cap ∧ cap ≤ maxLen ∧ (ao = none → n = 0 ∧ cap = 0) := by
  obtain ⟨S, hS, _⟩ := H.at i hi
  exact AB.len hS
theorem ab_view (H : St B w0 w Ps) (i : Nat) (hi : Ps[i]? = some (AB ao n cap l)) : View w (fun k => B ≤ k) ao l := by
  obtain ⟨S, hS, hB, _⟩ := H.at i hi
  exact (AB.view hS).mono hB
/-- the nil slice, as one of one's own -/
theorem ab_nil (H : St B w0 w Ps) : St B w0 w (AB none 0 0 [] :: Ps) :=
  H.new (S' := fun _ => False) (AB none 0 0 []) (Row.nil _ _ _) ((Step.refl (fun _ => False) w))
/-- []byte{} -/
theorem ab_empty (H : St B w0 w Ps) : St B w0 (w.alloc (.cells #[] 5)) (AB (some ⟨w.heap.size, 0, none⟩) 0 0 [] :: Ps) :=
  H.new (S' := fun k => k = w.heap.size) (AB _ 0 0 []) (Row.made w (#[] : Array Value) 5 1 0 (Nat.zero_le _) rfl) (((Step.refl (fun _ => False) w).alloc (.cells #[] 5)).to (fun k hk => .inr (Nat.le_of_eq hk.symm)))
/-- one byte of a slice of one's own -/
theorem ab_byte (H : St B w0 w Ps) (i : Nat) (hi : Ps[i]? = some (AB ao n cap l)) (j : Nat) (hj : j < n) :
    ∃ g, ao = some ⟨g, 0, none⟩ ∧ w.cell? ⟨g, j, none⟩ = some (.int .u8 ((l.getD j 0).toNat : Int)) ∧ w.frozen? ⟨g, j, none⟩ = false ∧
      ∀ c : UInt8, St B w0 (w.setCell ⟨g, j, none⟩ (.int .u8 (c.toNat : Int))) (Ps.set i (AB ao n cap (l.set j c))) := by
  obtain ⟨S, hS, _, put⟩ := H.at i hi
  have hlen := (AB.len hS).1
  obtain ⟨hown, hset⟩ := hS
  rcases hown.2 with ⟨hv, rfl⟩ | ⟨g, cap', cur, hv, h0, hb, hnc, hcm, hcs, htake⟩
  · omega
  · simp only [Value.slice.injEq, true_and] at hv
    obtain ⟨rfl, rfl⟩ := hv
    simp only [Nat.mul_one] at hcs htake
    have hcur : cur[j]? = some (byteV (l.getD j 0)) := by
      have : (cur.toList.take n)[j]? = (l.map byteV)[j]? := by rw [htake]
      rw [List.getElem?_take_of_lt hj] at this
      rw [← Array.getElem?_toList, this]
      simp [hlen, hj]
    refine ⟨g, rfl, cell_of_block hb hcur, frozen_of_block hb, fun c => ?_⟩
    refine put S _ (AB (some ⟨g, 0, none⟩) n cap (l.set j c)) ?_ ((Step.refl S w).setCell (a := ⟨g, j, none⟩) (Or.inl ((hset g).2 rfl)) _)
    have := (hown.stored j (byteV c)).1
    rw [← List.map_set] at this
    exact ⟨this, hset⟩
theorem madeBytes (n : Nat) : (madeCells (Value.int .u8 0).cells (n * 1)).toList = (List.replicate n (0 : UInt8)).map byteV := by
  unfold madeCells
  apply List.ext_getElem?
  intro i
  by_cases hi : i < n
  · simp [hi, Value.cells, byteV, Nat.mod_one]
  · simp [hi]
/-- make([]byte, n) -/
theorem ab_make (H : St B w0 w Ps) (kl kc : IntKind) (n : Nat) (hn : n ≤ 1000000000) :
    ∃ w', (Instr.makeSlice 32 (.int kl (n : Int)) (.int kc (n : Int))).run Try.prog w = .ok (.slice (some ⟨w.heap.size, 0, none⟩) n n) w' ∧ St B w0 w' (AB (some ⟨w.heap.size, 0, none⟩) n n (List.replicate n 0) :: Ps) := by
  obtain ⟨i0, hi, hz0, hz1, hz2⟩ := info_parts infoU8
  obtain ⟨w', hr, hown, hg⟩ := run_make_full (P := Try.prog) w 0 32 5 i0 (.int .u8 0) 1 Try.underlying32 hi hz0 hz1 kl kc n (by rw [hz2]; omega) (by unfold maxLen; omega) (Nat.zero_le _)
  rw [madeBytes] at hown
  refine ⟨w', hr, H.new (S' := fun k => k = w.heap.size) (AB _ n n _) ⟨hown, fun k => by simp [Value.ownBlock, eq_comm]⟩ ?_⟩
  exact ((Step.refl (fun _ => False) w).grown hg (by intro k hk; cases hk)).to (fun k hk => .inr (Nat.le_of_eq hk.symm))
/-- append(x, news...) onto a slice of one's own -/
theorem ab_append (H : St B w0 w Ps) (i : Nat) (hi : Ps[i]? = some (AB ao n cap l)) (ty : TypeId) (bo : Option Addr) (m c : Nat) (news : List UInt8) (hno : bo = none → m = 0 ∧ c = 0) (hl : news.length = m)
    (hc : ∀ a, bo = some a → ∀ j u, (news.map byteV)[j]? = some u → w.cell? (a.add j) = some u) (b1 : n + m ≤ 1000000000) :
    ∃ ao' cap' w', (Builtin.append_ #[32, 32] ty #[.slice ao n cap, .slice bo m c]).run Try.prog w = .ok (.slice ao' (n + m) cap') w' ∧ St B w0 w' (Ps.set i (AB ao' (n + m) cap' (l ++ news))) := by
  obtain ⟨i0, hi0, hz0, hz1, hz2⟩ := info_parts infoU8
  obtain ⟨S, hS, _, put⟩ := H.at i hi
  obtain ⟨v', w', T', hr, hrow, hst⟩ := run_append_row (P := Try.prog) w 32 ty 5 i0 (.int .u8 0) 1 1 Try.underlying32 hi0 hz0 hz1 hz2 rfl (by decide) (.slice ao n cap) n (l.map byteV) hS bo m c (news.map byteV) hno (by rw [List.length_map, hl, Nat.mul_one]) hc (byteV_one _) (by unfold maxLen; omega) (by omega)
  obtain ⟨ao', cap', rfl, _⟩ := hrow.form
  rw [← List.map_append] at hrow
  exact ⟨ao', cap', w', hr, put T' w' (AB ao' (n + m) cap' (l ++ news)) hrow hst⟩
theorem wpList_ab_append {ops : Array Oper} {rest : List Oper} {o : Oper} {a : Act} {Q : Exit → Act → World → Prop} (hgd : o.guard = none) (s x : Operand)
    (ho : o.op = .call { callee := .builtin .append, args := #[s, x], argTypes := #[32, 32] }) (H : St B w0 w Ps) (i : Nat) (hi : Ps[i]? = some (AB ao n cap l)) (hs : a.eval s = .slice ao n cap)
    (bo : Option Addr) (m c : Nat) (news : List UInt8) (hx : a.eval x = .slice bo m c) (hno : bo = none → m = 0 ∧ c = 0) (hl : news.length = m)
    (hc : ∀ a, bo = some a → ∀ j u, (news.map byteV)[j]? = some u → w.cell? (a.add j) = some u) (b1 : n + m ≤ 1000000000)
    (h : ∀ ao' cap' w', St B w0 w' (Ps.set i (AB ao' (n + m) cap' (l ++ news))) → wpList Try.prog ops Q rest (a.put o.dst (.slice ao' (n + m) cap')) w') : wpList Try.prog ops Q (o :: rest) a w := by
  refine wpList_plain hgd fun K hK => ?_
  obtain ⟨ao', cap', w', hrun, h1⟩ := ab_append H i hi o.type bo m c news hno hl hc b1
  unfold Oper.wp
  simp [execOp, ho, resolve, invoke, builtin, hs, hx, hrun, Result.andThen]
  exact hK _ _ (h ao' cap' w' h1)
end

/-- an array of bytes in a block of one's own -/
def A8 (b : Nat) (t : TypeId) (l : List UInt8) : Asn := AVals b t (l.map byteV)
section
variable {B : Nat} {w0 w : World} {Ps : List Asn} {b : Nat} {t : TypeId} {l : List UInt8}
theorem A8.cell (h : St B w0 w Ps) (i : Nat) (hi : Ps[i]? = some (A8 b t l)) (j : Nat) (hj : j < l.length) : w.cell? ⟨b, j, none⟩ = some (.int .u8 ((l.getD j 0).toNat : Int)) ∧ w.frozen? ⟨b, j, none⟩ = false :=
  h.cellV i hi j (by simp [byteV, hj])
theorem A8.store (h : St B w0 w Ps) (i : Nat) (hi : Ps[i]? = some (A8 b t l)) (j : Nat) (c : UInt8) : St B w0 (w.setCell ⟨b, j, none⟩ (.int .u8 (c.toNat : Int))) (Ps.set i (A8 b t (l.set j c))) := by
  have := h.storeV i hi j (byteV c)
  unfold A8
  rw [List.map_set]
  exact this
theorem A8.box (h : St B w0 w Ps) (t : TypeId) (l : List UInt8) : St B w0 (w.alloc (.cells (l.map byteV).toArray t)) (A8 w.heap.size t l :: Ps) := h.boxV t _
theorem A8.row (h : St B w0 w Ps) (i : Nat) (hi : Ps[i]? = some (A8 b t l)) : w.heap[b]? = some (.cells (l.map byteV).toArray t (0, 0)) := h.rowV i hi
theorem A8.there (h : St B w0 w Ps) (i : Nat) (hi : Ps[i]? = some (A8 b t l)) (r : List UInt8) (hl : r.length = l.length) : w.there b 0 (r.map byteV).toArray.size := h.thereV i hi (by simp [hl])
theorem A8.setAll (h : St B w0 w Ps) (i : Nat) (hi : Ps[i]? = some (A8 b t l)) (r : List UInt8) (hl : r.length = l.length) : St B w0 (w.setCells b 0 (r.map byteV).toArray.toList) (Ps.set i (A8 b t r)) := by
  have := Own.St.setAll i (r.map byteV) 0 w Ps (l.map byteV) h hi (by simp [hl])
  simpa [A8] using this
theorem A8.view (h : St B w0 w Ps) (i : Nat) (hi : Ps[i]? = some (A8 b t l)) : View w (fun k => B ≤ k) (some ⟨b, 0, none⟩) l := by
  obtain ⟨h1, h2⟩ := h.ltV i hi
  exact .inr ⟨b, 0, rfl, h1, h2, fun j hj => by rw [Nat.zero_add]; exact (A8.cell h i hi j hj).1⟩
end
/-- an operation that is carried out, also behind a guard -/
theorem wpList_want {P : Program} {ops : Array Oper} {rest : List Oper} {o : Oper} {a : Act} {w : World} {Q : Exit → Act → World → Prop} (hw : Region.wanted o (yielded ops a.tmps) = true) (h : o.wp P a w (fun a' w' => wpList P ops Q rest a' w') Q) : wpList P ops Q (o :: rest) a w := by
  unfold wpList
  rw [if_pos hw]
  exact .inl h
/-- an operation whose value is known -/
theorem wpList_val {P : Program} {ops : Array Oper} {rest : List Oper} {o : Oper} {a : Act} {w : World} {Q : Exit → Act → World → Prop} (hw : Region.wanted o (yielded ops a.tmps) = true) {v : Value} (hrun : (execOp a.eval o).run P w = .ok (.value v) w) (h : wpList P ops Q rest (a.put o.dst v) w) : wpList P ops Q (o :: rest) a w := by
  refine wpList_want hw ?_
  unfold Oper.wp
  rw [hrun]
  exact h
section
variable {ao : Option Addr} {l : List UInt8} {m cap : Nat}
end

end Byt
end Go.Proofs.Ytameigmoabimiaa

end
section
namespace Go.Own
open Go.RowKit

/-- an object with some choice in it -/
def AEx {α : Type} (P : α → Asn) : Asn := ⟨fun S w => ∃ x, (P x).holds S w, fun ⟨x, h⟩ g hd => ⟨x, (P x).keep h g hd⟩, fun ⟨x, h⟩ => (P x).lt h⟩
section
variable {B : Nat} {w0 w w' : World} {Ps Qs : List Asn} {α : Type} {P : α → Asn}
theorem St.openE (h : St B w0 w (AEx P :: Ps)) : ∃ x, St B w0 w (P x :: Ps) := by
  obtain ⟨hb, hs, S, ⟨S1, S2, ⟨x, h1⟩, h2, h3, h4⟩, hB⟩ := h
  exact ⟨x, hb, hs, S, ⟨S1, S2, h1, h2, h3, h4⟩, hB⟩
theorem St.closeE (x : α) (h : St B w0 w (P x :: Ps)) : St B w0 w (AEx P :: Ps) := by
  obtain ⟨hb, hs, S, ⟨S1, S2, h1, h2, h3, h4⟩, hB⟩ := h
  exact ⟨hb, hs, S, ⟨S1, S2, ⟨x, h1⟩, h2, h3, h4⟩, hB⟩

variable {e : TypeId} {size n cap : Nat} {ao : Option Addr} {xs : List Value}
theorem St.rowLen (H : St B w0 w Ps) (i : Nat) (hi : Ps[i]? = some (ARow e size (.slice ao n cap) n xs)) : xs.length = n * size ∧ n ≤ cap ∧ cap ≤ maxLen ∧ (ao = none → n = 0 ∧ cap = 0) := by
  obtain ⟨S, hS, _⟩ := H.at i hi
  obtain ⟨ao', cap', hv, h1, h2, h3, _⟩ := Row.form hS
  simp only [Value.slice.injEq, true_and] at hv
  obtain ⟨rfl, rfl⟩ := hv
  exact ⟨hS.own.1, h1, h2, fun h => ⟨(h3 h).1, (h3 h).2.1⟩⟩
theorem St.rowForm {v : Value} (H : St B w0 w Ps) (i : Nat) (hi : Ps[i]? = some (ARow e size v n xs)) : ∃ ao cap, v = .slice ao n cap := by
  obtain ⟨S, hS, _⟩ := H.at i hi
  obtain ⟨ao', cap', hv, _⟩ := Row.form hS
  exact ⟨ao', cap', hv⟩
/-- one cell of a row of one's own: read, stored -/
theorem St.rowAt (H : St B w0 w Ps) (i : Nat) (hi : Ps[i]? = some (ARow e size (.slice ao n cap) n xs)) (j : Nat) (hj : j < n * size) :
    ∃ g, ao = some ⟨g, 0, none⟩ ∧ (∃ u, xs[j]? = some u ∧ w.cell? ⟨g, j, none⟩ = some u) ∧ w.frozen? ⟨g, j, none⟩ = false ∧
      ∀ u : Value, St B w0 (w.setCell ⟨g, j, none⟩ u) (Ps.set i (ARow e size (.slice ao n cap) n (xs.set j u))) := by
  obtain ⟨S, hS, _, put⟩ := H.at i hi
  have hlen := (H.rowLen i hi).1
  obtain ⟨hown, hset⟩ := hS
  rcases hown.2 with ⟨hv, rfl⟩ | ⟨g, cap', cur, hv, h0, hb, hnc, hcm, hcs, htake⟩
  · omega
  · simp only [Value.slice.injEq, true_and] at hv
    obtain ⟨rfl, rfl⟩ := hv
    have hx : xs[j]? = some xs[j] := List.getElem?_eq_getElem (by omega)
    have hcur : cur[j]? = some xs[j] := by
      have : (cur.toList.take (n * size))[j]? = xs[j]? := by rw [htake]
      rw [List.getElem?_take_of_lt hj] at this
      rw [← Array.getElem?_toList, this, hx]
    refine ⟨g, rfl, ⟨_, hx, cell_of_block hb hcur⟩, frozen_of_block hb, fun u => ?_⟩
    exact put S _ (ARow e size (.slice (some ⟨g, 0, none⟩) n cap) n (xs.set j u)) ⟨(hown.stored j u).1, hset⟩ ((Step.refl S w).setCell (a := ⟨g, j, none⟩) (Or.inl ((hset g).2 rfl)) _)
/-- two cells side by side -/
theorem St.rowFresh (H : St B w0 w Ps) : St B w0 w (ARow e size (.slice none 0 0) 0 [] :: Ps) :=
  H.new (S' := fun _ => False) (ARow e size _ 0 []) (Row.nil w e size) (Step.refl (fun _ => False) w)
end

/-! ### a table of rows: [][]T, where an element of T has one cell -/
section
variable {t e : TypeId} {α : Type} {enc : α → Value}
variable {B : Nat} {w0 w w' : World} {Ps Qs : List Asn} {v : Value} {rows : List (List α)}
end

/-! ### one more: onto a row of elements of one cell, onto a table -/
section
variable {P : Program} {t e : TypeId} {z : Value} {bytes : Nat} {B : Nat} {w0 w : World} {Ps : List Asn} {v : Value}
end
end Go.Own

end
section
namespace Go.Proofs.Ytameigmoabimiaa
open Go.RowKit Go.Own
namespace Byt

/-- bytes that a call may be given -/
structure Given (w : World) (ao : Option Addr) (len cap : Nat) (l : List UInt8) : Prop where
  view : View w (fun k => k < w.heap.size) ao l
  size : l.length = len
  room : len ≤ cap ∧ cap ≤ maxLen
  nil : ao = none → cap = 0
theorem Given.later {w w' : World} {ao : Option Addr} {len cap : Nat} {l : List UInt8} (h : Given w ao len cap l) (g : Below w.heap.size w w') : Given w' ao len cap l :=
  ⟨(View.below h.view g).mono (fun k hk => by have := g.size; omega), h.size, h.room, h.nil⟩

theorem given_new (w : World) (l : List UInt8) (n : Nat) (hn : l.length = n) (hc : n ≤ 1000) (t : TypeId) (fz : Nat × Nat) : Given (w.alloc (.cells (l.map byteV).toArray t fz)) (some ⟨w.heap.size, 0, none⟩) n n l := by
  refine ⟨.inr ⟨w.heap.size, 0, rfl, by simp, by simp, fun j hj => ?_⟩, hn, ⟨Nat.le_refl _, by unfold maxLen; omega⟩, fun h => by cases h⟩
  have hb : (w.alloc (.cells (l.map byteV).toArray t fz)).heap[w.heap.size]? = some (.cells (l.map byteV).toArray t fz) := heap_alloc_new w _
  exact cell_of_block (i := 0 + j) hb (by simp [byteV, hj])

/-- bytes of one's own may be given -/
theorem given_own {B : Nat} {w0 w : World} {Ps : List Asn} {ao : Option Addr} {n cap : Nat} {l : List UInt8} (H : St B w0 w Ps) (i : Nat) (hi : Ps[i]? = some (AB ao n cap l)) : Given w ao n cap l := by
  obtain ⟨h1, h2, h3, h4⟩ := ab_len H i hi
  exact ⟨(ab_view H i hi).live.mono (fun k hk => hk.2), h1, ⟨h2, h3⟩, fun h => (h4 h).2⟩

theorem given_nil {w : World} {ao : Option Addr} {n cap : Nat} {l : List UInt8} (h : Given w ao n cap l) : ao = none → n = 0 ∧ cap = 0 := fun e => ⟨by have := h.room.1; rw [h.nil e] at this; omega, h.nil e⟩
theorem in_given {l : List UInt8} {w : World} {ao : Option Addr} {n cap : Nat} (h : inBytes l w.heap.size w [.slice ao n cap]) : Given w ao n cap l := by
  obtain ⟨ao', cap', h1, h2, h3, h4, h5⟩ := h
  simp only [List.cons.injEq, Value.slice.injEq, and_true] at h1
  obtain ⟨rfl, rfl, rfl⟩ := h1
  exact ⟨h5, rfl, ⟨h2, h3⟩, h4⟩
theorem given_str {w : World} {ao : Option Addr} {n cap : Nat} {l : List UInt8} (g : Given w ao n cap l) : (convert 32 9 (.slice ao n cap)).run Try.prog w = .ok (.string (strB l)) w := by
  have h := g.size
  subst h
  exact run_str (P := Try.prog) 32 5 9 Try.underlying32 Try.underlying5 Try.underlying9 g.view cap

end Byt
end Go.Proofs.Ytameigmoabimiaa

end
section
namespace Go.Own
open Go.RowKit

/-- what is so of a slot's value; new memory does not touch it -/
structure Ty where
  holds : Value → World → Prop
  keep : ∀ {v : Value} {w w' : World}, holds v w → Below w.heap.size w w' → holds v w'

def Ty.is (c : Value) : Ty := ⟨fun v _ => v = c, fun h _ => h⟩

abbrev Lx := List (Tmp × Ty)

/-- what is so of slot t -/
def slotIs (I : Lx) (a : Act) (t : Tmp) (v : Value) (w : World) : Prop :=
  match I.lookup t with
  | some R => R.holds v w
  | none => v = a.tmps.getD t undef

section
variable {P : Program} {ops : Array Oper} {C : World → Prop}

theorem slotIs.keep {I : Lx} {a : Act} {t : Tmp} {v : Value} {w w' : World} (h : slotIs I a t v w) (g : Below w.heap.size w w') : slotIs I a t v w' := by
  unfold slotIs at *
  split at h
  · rename_i R e; exact R.keep h g
  · exact h

/-- an operation gives what R says, wherever it is carried out -/
def Gives (P : Program) (ops : Array Oper) (C : World → Prop) (o : Oper) (I : Lx) (a : Act) (R : Ty) : Prop :=
  ∀ a1 w, C w → (∀ t ∈ o.looksAt ops, slotIs I a t (a1.tmps.getD t undef) w) → ∀ (K : Act → World → Prop) (Q : Exit → Act → World → Prop),
    (∀ v w', R.holds v w' → Below w.heap.size w w' → K (a1.put o.dst v) w') → o.wp P a1 w K Q

/-- the guard is not one of the slots that are not known -/
def guardKnown (ops : Array Oper) (o : Oper) (I : Lx) : Bool :=
  match o.guard with
  | none => true
  | some (g, _) => match (ops[g]?).bind (·.dst) with
    | some d => (I.lookup d).isNone
    | none => true

inductive StepT (P : Program) (ops : Array Oper) (C : World → Prop) (o : Oper) : Lx → Act → Lx → Act → Prop
  | skip {I a} (hg : guardKnown ops o I = true) (hw : Region.wanted o (yielded ops a.tmps) = false) : StepT P ops C o I a I (a.put o.dst undef)
  | val {I a} (v : Value) (hg : guardKnown ops o I = true) (hw : Region.wanted o (yielded ops a.tmps) = true) (h : Gives P ops C o I a (Ty.is v)) : StepT P ops C o I a I (a.put o.dst v)
  | ty {I a} (d : Tmp) (R : Ty) (hd : o.dst = some d) (hg : guardKnown ops o I = true) (hw : Region.wanted o (yielded ops a.tmps) = true) (h : Gives P ops C o I a R) : StepT P ops C o I a ((d, R) :: I) a

/-- what the frame may be -/
structure Rep (C : World → Prop) (I : Lx) (a a1 : Act) (w1 : World) : Prop where
  world : C w1
  defers : a1.defers = a.defers
  size : a1.tmps.size = a.tmps.size
  slot : ∀ t, slotIs I a t (a1.tmps.getD t undef) w1

/-- THE WALK, in the order of the text -/
def wpT (P : Program) (ops : Array Oper) (C : World → Prop) (Q : Act → World → Prop) : List Oper → Lx → Act → Prop
  | [], I, a => ∀ a1 w1, Rep C I a a1 w1 → Q a1 w1
  | o :: rest, I, a => ∃ I' a', StepT P ops C o I a I' a' ∧ wpT P ops C Q rest I' a'

theorem wpT_path {Q : Act → World → Prop} : ∀ (l : List Oper) (I : Lx) (a : Act), wpT P ops C Q l I a →
    ∃ S : Nat → Lx × Act, S 0 = (I, a) ∧ (∀ k o, l[k]? = some o → StepT P ops C o (S k).1 (S k).2 (S (k + 1)).1 (S (k + 1)).2) ∧ ∀ a1 w1, Rep C (S l.length).1 (S l.length).2 a1 w1 → Q a1 w1
  | [], I, a, h => ⟨fun _ => (I, a), rfl, fun k o hk => by simp at hk, h⟩
  | o :: rest, I, a, ⟨I', a', h1, h2⟩ => by
    obtain ⟨S, g0, g1, g2⟩ := wpT_path rest I' a' h2
    refine ⟨fun k => match k with | 0 => (I, a) | k + 1 => S k, rfl, fun k o' hk => ?_, fun a1 w1 hr => g2 a1 w1 (by simpa using hr)⟩
    cases k with
    | zero =>
      obtain rfl : o = o' := by simpa using hk
      show StepT P ops C o I a (S 0).1 (S 0).2
      rw [g0]; exact h1
    | succ k => exact g1 k o' (by simpa using hk)

theorem put_getD (a : Act) (d t : Tmp) (v : Value) (hd : d < a.tmps.size) : (a.put (some d) v).tmps.getD t undef = if t = d then v else a.tmps.getD t undef := by
  show (a.tmps.setIfInBounds d v).getD t undef = _
  by_cases h : t = d
  · subst h; simp [hd]
  · simp [h, Array.getElem?_setIfInBounds_ne (Ne.symm h)]
theorem put_size (a : Act) (d : Option Tmp) (v : Value) : (a.put d v).tmps.size = a.tmps.size := by cases d <;> simp [Act.put]
theorem put_defers (a : Act) (d : Option Tmp) (v : Value) : (a.put d v).defers = a.defers := by cases d <;> rfl

theorem StepT.size {o : Oper} {I I' : Lx} {a a' : Act} (h : StepT P ops C o I a I' a') : a'.tmps.size = a.tmps.size ∧ a'.defers = a.defers := by
  cases h
  · exact ⟨put_size _ _ _, put_defers _ _ _⟩
  · exact ⟨put_size _ _ _, put_defers _ _ _⟩
  · exact ⟨rfl, rfl⟩

/-- a slot that the operation does not write stays -/
theorem StepT.other {o : Oper} {I I' : Lx} {a a' : Act} (h : StepT P ops C o I a I' a') {t : Tmp} (hin : ∀ d, o.dst = some d → d < a.tmps.size) (ht : o.dst ≠ some t) (v : Value) (w : World) : slotIs I' a' t v w ↔ slotIs I a t v w := by
  have hput : ∀ u, (a.put o.dst u).tmps.getD t undef = a.tmps.getD t undef := by
    intro u
    cases hd : o.dst with
    | none => rfl
    | some d => rw [put_getD a d t u (hin d hd), if_neg (fun e => ht (by rw [hd, e]))]
  cases h
  · unfold slotIs; rw [hput]
  · unfold slotIs; rw [hput]
  · rename_i d R hd hg hw h
    unfold slotIs
    rw [List.lookup_cons]
    have : (t == d) = false := by simp; intro e; exact ht (by rw [hd, e])
    simp only [this]

/-- slots of the region: each is written once, and is there -/
def dstsB (l : List Oper) (n : Nat) : Bool := (l.filterMap (·.dst)).Nodup && (l.filterMap (·.dst)).all (· < n)

theorem dsts_lt {l : List Oper} {n : Nat} (h : dstsB l n = true) {k : Nat} {o : Oper} {d : Tmp} (hk : l[k]? = some o) (hd : o.dst = some d) : d < n := by
  simp only [dstsB, Bool.and_eq_true, List.all_eq_true, decide_eq_true_eq] at h
  exact h.2 d (List.mem_filterMap.2 ⟨o, List.mem_of_getElem? hk, hd⟩)

theorem dsts_one {n : Nat} : ∀ {l : List Oper}, dstsB l n = true → ∀ {j k : Nat} {x y : Oper} {d : Tmp}, l[j]? = some x → l[k]? = some y → x.dst = some d → y.dst = some d → j = k
  | [], _, j, _, _, _, _, hj, _, _, _ => by simp at hj
  | o :: l, h, j, k, x, y, d, hj, hk, hx, hy => by
    have hrest : dstsB l n = true := by
      simp only [dstsB, Bool.and_eq_true, decide_eq_true_eq] at h ⊢
      cases ho : o.dst <;> simp_all
    have hnot : ∀ (i : Nat) (z : Oper), l[i]? = some z → o.dst = some d → z.dst ≠ some d := by
      intro i z hi hod hz
      simp only [dstsB, Bool.and_eq_true, decide_eq_true_eq, List.filterMap_cons, hod, List.nodup_cons] at h
      exact h.1.1 (List.mem_filterMap.2 ⟨z, List.mem_of_getElem? hi, hz⟩)
    cases j with
    | zero =>
      cases k with
      | zero => rfl
      | succ k =>
        obtain rfl : o = x := by simpa using hj
        exact absurd hy (hnot k y (by simpa using hk) hx)
    | succ j =>
      cases k with
      | zero =>
        obtain rfl : o = y := by simpa using hk
        exact absurd hx (hnot j x (by simpa using hj) hy)
      | succ k => rw [dsts_one hrest (j := j) (k := k) (by simpa using hj) (by simpa using hk) hx hy]

theorem eval_looks {o : Oper} {a a1 : Act} (h : ∀ t ∈ o.looksAt ops, a1.tmps.getD t undef = a.tmps.getD t undef) : ∀ x ∈ o.op.operands, a1.eval x = a.eval x := by
  intro x hx
  cases x with
  | tmp t => exact h t (List.mem_append_left _ (List.mem_filterMap.2 ⟨.tmp t, by simpa using hx, rfl⟩))
  | _ => rfl

theorem wanted_looks {o : Oper} {I : Lx} {a a1 : Act} {w : World} (hg : guardKnown ops o I = true) (hs : a1.tmps.size = a.tmps.size) (h : ∀ t ∈ o.looksAt ops, slotIs I a t (a1.tmps.getD t undef) w) :
    Region.wanted o (yielded ops a1.tmps) = Region.wanted o (yielded ops a.tmps) := by
  unfold Region.wanted
  cases hgd : o.guard with
  | none => rfl
  | some gw =>
    obtain ⟨g, want⟩ := gw
    have : yielded ops a1.tmps g = yielded ops a.tmps g := by
      unfold yielded
      cases hd : (ops[g]?).bind (·.dst) with
      | none => rfl
      | some d =>
        have hm : d ∈ o.looksAt ops := by
          unfold Oper.looksAt
          refine List.mem_append_right _ ?_
          rw [hgd]
          simp [hd]
        have h1 := h d hm
        unfold slotIs at h1
        have hn : I.lookup d = none := by simpa [guardKnown, hgd, hd] using hg
        rw [hn] at h1
        simp only at h1
        simp only [Option.bind_some]
        have : a1.tmps[d]? = a.tmps[d]? := by
          by_cases hlt : d < a.tmps.size
          · have hlt1 : d < a1.tmps.size := hs ▸ hlt
            simp only [Array.getD, hlt, hlt1, dif_pos] at h1
            rw [Array.getElem?_eq_getElem hlt, Array.getElem?_eq_getElem hlt1]
            exact congrArg some h1
          · rw [Array.getElem?_eq_none (Nat.le_of_not_lt hlt), Array.getElem?_eq_none (Nat.le_of_not_lt (hs ▸ hlt))]
        rw [this]
    simp only [this]

/-- which operations a slot waits for: read off the Bool over the region -/
theorem lexFrom_free {md : Region.Mode} : ∀ (fuel k : Nat) (listed : Array Bool), Region.lexFrom md ops fuel k listed = true → k + fuel = ops.size → (∀ i, listed.getD i true = decide (i < k ∨ ops.size ≤ i)) → listed.size = ops.size →
    ∀ i oi, k ≤ i → ops[i]? = some oi → (∀ e ∈ oi.after, Region.binds md e = true → e.on < i) ∧ ∀ j oj, i < j → ops[j]? = some oj → (∃ e ∈ oj.after, Region.binds md e = true ∧ e.on = i) ∨ oi.apart ops oj = true
  | 0, k, listed, _, hk, _, _, i, oi, hi, ho => by
    have := (Array.getElem?_eq_some_iff.1 ho).1
    omega
  | fuel + 1, k, listed, h, hk, hl, hsz, i, oi, hi, ho => by
    simp only [Region.lexFrom, Bool.and_eq_true] at h
    obtain ⟨⟨hr, hf⟩, hB⟩ := h
    by_cases hik : i = k
    · subst hik
      refine ⟨fun e he hb => ?_, fun j oj hj hoj => ?_⟩
      · have hr' : i ∈ Region.ready md ops listed := by simpa using hr
        obtain ⟨_, o', ho', hall⟩ := mem_ready.1 hr'
        obtain rfl : oi = o' := by rw [ho] at ho'; simpa using ho'
        have h1 := hall e he hb
        rcases Nat.lt_or_ge e.on i with h2 | h2
        · exact h2
        · exfalso
          rcases Nat.lt_or_ge e.on ops.size with h3 | h3
          · have h4 := hl e.on
            have h5 : e.on < listed.size := by omega
            simp [h5] at h4 h1
            rw [h1] at h4
            simp at h4
            omega
          · simp [Array.getElem?_eq_none (show listed.size ≤ e.on by omega)] at h1
      · by_cases hw : ∃ e ∈ oj.after, Region.binds md e = true ∧ e.on = i
        · exact .inl hw
        · refine .inr (Region.free_spec ho hf j oj hoj (by omega) ?_ (fun e he hb heq => hw ⟨e, he, hb, heq⟩))
          rw [hl]
          have := (Array.getElem?_eq_some_iff.1 hoj).1
          simp; omega
    · refine lexFrom_free fuel (k + 1) _ hB (by omega) (fun j => ?_) (by simpa using hsz) i oi (by omega) ho
      by_cases hjk : j = k
      · subst hjk
        have : j < listed.size := by omega
        simp [this]
      · rw [getD_set_ne true (Ne.symm hjk), hl]
        exact decide_eq_decide.2 (by omega)

/-- the state of a run: what has come up, and what the frame holds -/
structure RunInv (md : Region.Mode) (n : Nat) (ops : Array Oper) (C : World → Prop) (a0 : Act) (S : Nat → Lx × Act) (listed : Array Bool) (a1 : Act) (w1 : World) : Prop where
  world : C w1
  defers : a1.defers = a0.defers
  size : a1.tmps.size = a0.tmps.size
  lsize : listed.size = ops.size
  closed : ∀ (j : Nat) (oj : Oper), ops[j]? = some oj → listed.getD j false = true → ∀ e ∈ oj.after, Region.binds md e = true → listed.getD e.on false = true
  tail : ∀ j, n ≤ j → j < ops.size → listed.getD j true = false
  done : ∀ (j : Nat) (oj : Oper) (d : Tmp), ops[j]? = some oj → listed.getD j false = true → oj.dst = some d → slotIs (S (j + 1)).1 (S (j + 1)).2 d (a1.tmps.getD d undef) w1
  rest : ∀ t, (∀ (j : Nat) (oj : Oper), ops[j]? = some oj → listed.getD j false = true → oj.dst ≠ some t) → a1.tmps.getD t undef = a0.tmps.getD t undef

theorem path_sizes {a0 : Act} {S : Nat → Lx × Act} (hS0 : S 0 = ([], a0)) {n : Nat} (hn : n ≤ ops.size) (hst : ∀ (k : Nat) (o : Oper), k < n → ops[k]? = some o → StepT P ops C o (S k).1 (S k).2 (S (k + 1)).1 (S (k + 1)).2) :
    ∀ k, k ≤ n → (S k).2.tmps.size = a0.tmps.size ∧ (S k).2.defers = a0.defers
  | 0, _ => by rw [hS0]; exact ⟨rfl, rfl⟩
  | k + 1, hk => by
    have h := path_sizes hS0 hn hst k (by omega)
    have g := (hst k ops[k] (by omega) (Array.getElem?_eq_getElem (by omega))).size
    exact ⟨g.1.trans h.1, g.2.trans h.2⟩

theorem path_other {a0 : Act} {S : Nat → Lx × Act} (hS0 : S 0 = ([], a0)) {n : Nat} (hn : n ≤ ops.size) (hst : ∀ (k : Nat) (o : Oper), k < n → ops[k]? = some o → StepT P ops C o (S k).1 (S k).2 (S (k + 1)).1 (S (k + 1)).2)
    (hin : ∀ (k : Nat) (o : Oper) (d : Tmp), ops[k]? = some o → o.dst = some d → d < a0.tmps.size) {t : Tmp} (v : Value) (w : World) (m : Nat) :
    ∀ q, m + q ≤ n → (∀ j oj, m ≤ j → j < m + q → ops[j]? = some oj → oj.dst ≠ some t) → (slotIs (S (m + q)).1 (S (m + q)).2 t v w ↔ slotIs (S m).1 (S m).2 t v w)
  | 0, _, _ => Iff.rfl
  | q + 1, hq, hno => by
    have ih := path_other hS0 hn hst hin (t := t) v w m q (by omega) (fun j oj h1 h2 => hno j oj h1 (by omega))
    have hk : ops[m + q]? = some ops[m + q] := Array.getElem?_eq_getElem (by omega)
    have hs := path_sizes hS0 hn hst (m + q) (by omega)
    exact ((hst (m + q) _ (by omega) hk).other (fun d hd => by rw [hs.1]; exact hin _ _ d hk hd) (hno (m + q) _ (by omega) (by omega) hk) v w).trans ih

theorem slot0 {a0 : Act} {S : Nat → Lx × Act} (hS0 : S 0 = ([], a0)) (t : Tmp) (v : Value) (w : World) : slotIs (S 0).1 (S 0).2 t v w ↔ v = a0.tmps.getD t undef := by
  rw [hS0]; exact Iff.rfl

theorem path_keys {a0 : Act} {S : Nat → Lx × Act} (hS0 : S 0 = ([], a0)) {n : Nat} (hn : n ≤ ops.size) (hst : ∀ (k : Nat) (o : Oper), k < n → ops[k]? = some o → StepT P ops C o (S k).1 (S k).2 (S (k + 1)).1 (S (k + 1)).2) {t : Tmp} :
    ∀ k, k ≤ n → (∀ (j : Nat) (oj : Oper), j < k → ops[j]? = some oj → oj.dst ≠ some t) → (S k).1.lookup t = none
  | 0, _, _ => by rw [hS0]; rfl
  | k + 1, hk, hno => by
    have ih := path_keys hS0 hn hst k (by omega) (fun j oj h1 h2 => hno j oj (by omega) h2)
    have hs := hst k ops[k] (by omega) (Array.getElem?_eq_getElem (by omega))
    have hd := hno k ops[k] (by omega) (Array.getElem?_eq_getElem (by omega))
    generalize S k = si at *
    generalize S (k + 1) = sj at *
    obtain ⟨Ii, ai⟩ := si
    obtain ⟨Ij, aj⟩ := sj
    cases hs with
    | skip => exact ih
    | val => exact ih
    | ty d R hdd =>
      show List.lookup t ((d, R) :: Ii) = none
      rw [List.lookup_cons]
      have : (t == d) = false := by simp; intro e; exact hd (by rw [hdd, e])
      simp only [this]
      exact ih

/-- WHATEVER ORDER IS DRAWN -/
theorem wpAny_lax {md : Region.Mode} {Q' : Exit → Act → World → Prop} (hC : ∀ w w', C w → Below w.heap.size w w' → C w') {a0 : Act} {S : Nat → Lx × Act} (hS0 : S 0 = ([], a0))
    {n : Nat} (hn : n ≤ ops.size) (hst : ∀ (k : Nat) (o : Oper), k < n → ops[k]? = some o → StepT P ops C o (S k).1 (S k).2 (S (k + 1)).1 (S (k + 1)).2)
    (hin : ∀ (k : Nat) (o : Oper) (d : Tmp), ops[k]? = some o → o.dst = some d → d < a0.tmps.size)
    (hone : ∀ (j k : Nat) (x y : Oper) (d : Tmp), ops[j]? = some x → ops[k]? = some y → x.dst = some d → y.dst = some d → j = k)
    (hlex : ∀ (i : Nat) (oi : Oper), ops[i]? = some oi → (∀ e ∈ oi.after, Region.binds md e = true → e.on < i) ∧ ∀ j oj, i < j → ops[j]? = some oj → (∃ e ∈ oj.after, Region.binds md e = true ∧ e.on = i) ∨ oi.apart ops oj = true)
    (hwait : ∀ (i : Nat) (oi : Oper), n ≤ i → ops[i]? = some oi → ∀ j, j < n → ∃ e ∈ oi.after, Region.binds md e = true ∧ e.on = j)
    (hfin : ∀ (fuel : Nat) (listed : Array Bool) (a1 : Act) (w1 : World), (∃ s, (List.range ops.size).filter (fun i => !listed.getD i true) = s ∧ s.length = fuel) → listed.size = ops.size → (∀ i, i < n → listed.getD i true = true) → (∀ j, n ≤ j → j < ops.size → listed.getD j true = false) → Rep C (S n).1 (S n).2 a1 w1 → wpAny P md ops Q' fuel listed a1 w1) :
    ∀ (fuel : Nat) (listed : Array Bool) (a1 : Act) (w1 : World), (∃ s, (List.range ops.size).filter (fun i => !listed.getD i true) = s ∧ s.length = fuel) → RunInv md n ops C a0 S listed a1 w1 → wpAny P md ops Q' fuel listed a1 w1 := by
  -- all that is not listed: none is ready only if none is left
  have hready : ∀ listed : Array Bool, listed.size = ops.size → Region.ready md ops listed = [] → ∀ i, i < ops.size → listed.getD i true = true := by
    intro listed hls hr i
    induction i using Nat.strongRecOn with
    | _ i ih =>
      intro hi
      rcases hb : listed.getD i true with _ | _
      · exfalso
        have : i ∈ Region.ready md ops listed := by
          refine mem_ready.2 ⟨hb, ops[i], Array.getElem?_eq_getElem hi, fun e he hbd => ?_⟩
          have h1 := (hlex i _ (Array.getElem?_eq_getElem hi)).1 e he hbd
          have h2 := ih e.on h1 (by omega)
          have h3 : e.on < listed.size := by omega
          simpa [h3] using h2
        rw [hr] at this
        cases this
      · rfl
  have hend : ∀ (fuel : Nat) (listed : Array Bool) (a1 : Act) (w1 : World), (∃ s, (List.range ops.size).filter (fun i => !listed.getD i true) = s ∧ s.length = fuel) → RunInv md n ops C a0 S listed a1 w1 → (∀ i, i < n → listed.getD i true = true) → wpAny P md ops Q' fuel listed a1 w1 := by
    intro fuel listed a1 w1 hcnt hI hall
    have hsz := path_sizes hS0 hn hst n (Nat.le_refl _)
    refine hfin fuel listed a1 w1 hcnt hI.lsize hall hI.tail ⟨hI.world, hI.defers.trans hsz.2.symm, hI.size.trans hsz.1.symm, fun t => ?_⟩
    by_cases hw : ∃ (j : Nat) (oj : Oper), j < n ∧ ops[j]? = some oj ∧ oj.dst = some t
    · obtain ⟨j, oj, hjn, hj, hd⟩ := hw
      have hjl := (Array.getElem?_eq_some_iff.1 hj).1
      have hl : listed.getD j false = true := by
        have h1 := hall j hjn
        have h2 : j < listed.size := by rw [hI.lsize]; exact hjl
        simpa [h2] using h1
      have h1 := hI.done j oj t hj hl hd
      have h2 := path_other hS0 hn hst hin (t := t) (a1.tmps.getD t undef) w1 (j + 1) (n - (j + 1)) (by omega) (fun i oi h1 h2 hi hdi => by
        have := hone i j oi oj t hi hj hdi hd; omega)
      rw [show j + 1 + (n - (j + 1)) = n by omega] at h2
      exact h2.2 h1
    · have h1 := hI.rest t (fun j oj hj hl hd => by
        by_cases hjn : j < n
        · exact hw ⟨j, oj, hjn, hj, hd⟩
        · have hjl := (Array.getElem?_eq_some_iff.1 hj).1
          have := hI.tail j (by omega) hjl
          have h2 : j < listed.size := by rw [hI.lsize]; exact hjl
          simp [h2] at this hl
          rw [this] at hl; cases hl)
      have h2 := path_other hS0 hn hst hin (t := t) (a1.tmps.getD t undef) w1 0 n (by omega) (fun j oj _ h2 hj hd => hw ⟨j, oj, by omega, hj, hd⟩)
      rw [Nat.zero_add] at h2
      exact h2.2 ((slot0 hS0 t _ w1).2 h1)
  intro fuel
  induction fuel with
  | zero =>
    rintro listed a1 w1 ⟨s, hs, hlen⟩ hI
    refine hend 0 listed a1 w1 ⟨s, hs, hlen⟩ hI (fun i hi => ?_)
    have hnil : s = [] := List.eq_nil_of_length_eq_zero hlen
    subst hnil
    have := List.filter_eq_nil_iff.1 hs i (List.mem_range.2 (by omega))
    simpa using this
  | succ fuel ih =>
    rintro listed a1 w1 ⟨s, hs, hlen⟩ hI
    by_cases hdone : ∀ i, i < n → listed.getD i true = true
    · exact hend (fuel + 1) listed a1 w1 ⟨s, hs, hlen⟩ hI hdone
    refine ⟨fun h0 => absurd (fun i hi => hready listed hI.lsize h0 i (by omega)) hdone, fun i hi => ?_⟩
    obtain ⟨hun, oi, hoi, hall⟩ := mem_ready.1 hi
    have hin' : i < n := by
      rcases Nat.lt_or_ge i n with h | h
      · exact h
      · exfalso
        refine hdone (fun j hj => ?_)
        obtain ⟨e, he, hb, heq⟩ := hwait i oi h hoi j hj
        have h1 := hall e he hb
        rw [heq] at h1
        have h2 : j < listed.size := by rw [hI.lsize]; omega
        simpa [h2] using h1
    have hil := (Array.getElem?_eq_some_iff.1 hoi).1
    have hill : i < listed.size := by rw [hI.lsize]; exact hil
    have hunf : listed.getD i false = false := by simpa [hill] using hun
    have hcount : ∃ s', (List.range ops.size).filter (fun j => !(listed.setIfInBounds i true).getD j true) = s' ∧ s'.length = fuel := by
      refine ⟨_, rfl, ?_⟩
      have hn : (List.range ops.size).Nodup := List.nodup_range
      have e : (List.range ops.size).filter (fun j => !(listed.setIfInBounds i true).getD j true) = ((List.range ops.size).filter fun j => !listed.getD j true).erase i := by
        rw [List.Nodup.erase_eq_filter (List.Pairwise.filter _ hn), List.filter_filter]
        apply List.filter_congr
        intro j hj
        by_cases hji : j = i
        · subst hji; simp [hill]
        · rw [getD_set_ne true (Ne.symm hji)]; simp [hji]
      rw [e, List.length_erase_of_mem (List.mem_filter.2 ⟨List.mem_range.2 hil, by simp only [hun]; rfl⟩), hs, hlen]
      rfl
    -- what the operation looks at is as the walk had it
    have hlook : ∀ t ∈ oi.looksAt ops, slotIs (S i).1 (S i).2 t (a1.tmps.getD t undef) w1 := by
      intro t ht
      have hback : (∀ (j : Nat) (oj : Oper), ops[j]? = some oj → oj.dst = some t → i ≤ j) → (∀ (j : Nat) (oj : Oper), ops[j]? = some oj → oj.dst = some t → listed.getD j false = false) → slotIs (S i).1 (S i).2 t (a1.tmps.getD t undef) w1 := by
        intro h1 h2
        have h3 := path_other hS0 hn hst hin (t := t) (a1.tmps.getD t undef) w1 0 i (by omega) (fun j oj _ hj ho hd => by have := h1 j oj ho hd; omega)
        rw [Nat.zero_add] at h3
        refine h3.2 ((slot0 hS0 t _ w1).2 (hI.rest t (fun j oj hj hl hd => ?_)))
        rw [h2 j oj hj hd] at hl; cases hl
      by_cases hw : ∃ (j : Nat) (oj : Oper), ops[j]? = some oj ∧ oj.dst = some t
      · obtain ⟨j, oj, hj, hd⟩ := hw
        have huniq : ∀ (j' : Nat) (oj' : Oper), ops[j']? = some oj' → oj'.dst = some t → j' = j := fun j' oj' h1 h2 => hone j' j oj' oj t h1 hj h2 hd
        rcases Nat.lt_trichotomy j i with hji | hji | hji
        · rcases (hlex j oj hj).2 i oi hji hoi with ⟨e, he, hb, heq⟩ | hap
          · have hl : listed.getD j false = true := by rw [← heq]; exact hall e he hb
            have h1 := hI.done j oj t hj hl hd
            have h2 := path_other hS0 hn hst hin (t := t) (a1.tmps.getD t undef) w1 (j + 1) (i - (j + 1)) (by omega) (fun j' oj' h1 _ h3 h4 => by have := huniq j' oj' h3 h4; omega)
            rw [show j + 1 + (i - (j + 1)) = i by omega] at h2
            exact h2.2 h1
          · exact absurd ht ((Oper.apart_spec hap).1 t hd)
        · subst hji
          refine hback (fun j' oj' h1 h2 => by have := huniq j' oj' h1 h2; omega) (fun j' oj' h1 h2 => by rw [huniq j' oj' h1 h2]; exact hunf)
        · rcases (hlex i oi hoi).2 j oj hji hj with ⟨e, he, hb, heq⟩ | hap
          · refine hback (fun j' oj' h1 h2 => by have := huniq j' oj' h1 h2; omega) (fun j' oj' h1 h2 => ?_)
            rw [huniq j' oj' h1 h2]
            rcases hlj : listed.getD j false with _ | _
            · rfl
            · have := hI.closed j oj hj hlj e he hb
              rw [heq, hunf] at this; cases this
          · exact absurd ht ((Oper.apart_spec hap).2.2 t hd)
      · exact hback (fun j oj h1 h2 => absurd ⟨j, oj, h1, h2⟩ hw) (fun j oj h1 h2 => absurd ⟨j, oj, h1, h2⟩ hw)
    have hsz := path_sizes hS0 hn hst i (by omega)
    have hsame : a1.tmps.size = (S i).2.tmps.size := hI.size.trans hsz.1.symm
    -- behind it
    have hnext : ∀ (v : Value) (w' : World), (∀ d, oi.dst = some d → slotIs (S (i + 1)).1 (S (i + 1)).2 d v w') → Below w1.heap.size w1 w' → RunInv md n ops C a0 S (listed.setIfInBounds i true) (a1.put oi.dst v) w' := by
      intro v w' hv hb
      have hget : ∀ t, oi.dst ≠ some t → (a1.put oi.dst v).tmps.getD t undef = a1.tmps.getD t undef := by
        intro t ht
        cases hd : oi.dst with
        | none => rfl
        | some d => rw [put_getD a1 d t v (by rw [hI.size]; exact hin i oi d hoi hd), if_neg (fun e => ht (by rw [hd, e]))]
      have hlist : ∀ j, (listed.setIfInBounds i true).getD j false = true → j = i ∨ listed.getD j false = true := by
        intro j hj
        by_cases hji : j = i
        · exact .inl hji
        · rw [getD_set_ne false (Ne.symm hji)] at hj; exact .inr hj
      refine ⟨hC _ _ hI.world hb, (put_defers _ _ _).trans hI.defers, (put_size _ _ _).trans hI.size, by simpa using hI.lsize, fun j oj hj hl e he hbd => ?_, fun j hnj hjl => ?_, fun j oj d hj hl hd => ?_, fun t ht => ?_⟩
      · rcases hlist j hl with rfl | hl
        · obtain rfl : oj = oi := by rw [hoi] at hj; simpa using hj.symm
          exact getD_set_true (hall e he hbd)
        · exact getD_set_true (hI.closed j oj hj hl e he hbd)
      · rw [getD_set_ne true (by omega)]; exact hI.tail _ hnj hjl
      · rcases hlist j hl with rfl | hl
        · obtain rfl : oj = oi := by rw [hoi] at hj; simpa using hj.symm
          rw [hd, put_getD a1 d d v (by rw [hI.size]; exact hin j oj d hj hd), if_pos rfl]
          exact hv d hd
        · have hne : oi.dst ≠ some d := by
            intro h
            have := hone i j oi oj d hoi hj h hd
            subst this
            rw [hunf] at hl; cases hl
          rw [hget d hne]
          exact (hI.done j oj d hj hl hd).keep hb
      · have hne : oi.dst ≠ some t := ht i oi hoi (by simp [hill])
        rw [hget t hne]
        exact hI.rest t (fun j oj hj hl => ht j oj hj (getD_set_true hl))
    have hkey : ∀ d, oi.dst = some d → (S i).1.lookup d = none := fun d hd => path_keys hS0 hn hst i (by omega) (fun j oj h1 h2 h3 => by have := hone j i oj oi d h2 hoi h3 hd; omega)
    have hstep := hst i oi hin' hoi
    unfold wpOp
    simp only [hoi]
    generalize hSi : S i = si at *
    generalize hSj : S (i + 1) = sj at *
    obtain ⟨Ii, ai⟩ := si
    obtain ⟨Ij, aj⟩ := sj
    simp only at hstep hlook hnext hsame hkey
    cases hstep with
    | skip hg hw =>
      rw [wanted_looks hg hsame hlook, hw]
      simp only [Bool.false_eq_true, if_false]
      refine ih _ _ _ hcount (hnext undef w1 (fun d hd => ?_) (Below.refl _ _))
      unfold slotIs
      rw [hkey d hd, hd]
      simp only
      rw [put_getD ai d d undef (by rw [← hsame, hI.size]; exact hin i oi d hoi hd), if_pos rfl]
    | val v hg hw h =>
      rw [wanted_looks hg hsame hlook, hw]
      simp only [if_true]
      refine .inl (h a1 w1 hI.world hlook _ _ (fun u w' hu hb => ih _ _ _ hcount (hnext u w' (fun d hd => ?_) hb)))
      unfold slotIs
      rw [hkey d hd, hd]
      simp only
      rw [put_getD ai d d v (by rw [← hsame, hI.size]; exact hin i oi d hoi hd), if_pos rfl]
      exact hu
    | ty d R hd hg hw h =>
      rw [wanted_looks hg hsame hlook, hw]
      simp only [if_true]
      refine .inl (h a1 w1 hI.world hlook _ _ (fun u w' hu hb => ih _ _ _ hcount (hnext u w' (fun d' hd' => ?_) hb)))
      obtain rfl : d = d' := by rw [hd] at hd'; simpa using hd'
      unfold slotIs
      rw [List.lookup_cons]
      simp only [BEq.rfl]
      exact hu

theorem count_none (n : Nat) : (List.range n).filter (fun i => !(Array.replicate n false).getD i true) = List.range n := by
  apply List.filter_eq_self.2
  intro i hi
  have := List.mem_range.1 hi
  simp [this]

theorem start_inv {md : Region.Mode} {n : Nat} {a : Act} {w : World} {S : Nat → Lx × Act} (hC : C { w with drawn := w.drawn + 1 }) : RunInv md n ops C a S (Array.replicate ops.size false) a { w with drawn := w.drawn + 1 } := by
  have hf : ∀ j, (Array.replicate ops.size false).getD j false = true → False := by
    intro j hl
    by_cases hi : j < ops.size <;> simp [hi] at hl
  exact ⟨hC, rfl, rfl, by simp, fun j oj hj hl => (hf j hl).elim, fun j _ hj => by simp [hj], fun j oj d hj hl => (hf j hl).elim, fun t _ => rfl⟩

/-- THE REGION -/
theorem wp_region_lax {id : Nat} {Q : Exit → Act → World → Prop} {a : Act} {w : World} {l : List Oper} (hm : P.follows .mixedOrders = true) (hB : Region.lexB .any l.toArray = true) (hD : dstsB l a.tmps.size = true)
    (h : wpT P l.toArray (Below w.heap.size w) (fun a' w' => Q .normal a' w') l [] a) : (Code.region id l.toArray true).wp P Q a w := by
  obtain ⟨S, hS0, hst, hfin⟩ := wpT_path l [] a h
  have hB' : Region.lexFrom .any l.toArray l.toArray.size 0 (Array.replicate l.toArray.size false) = true := by
    simp only [Region.lexB, Bool.and_eq_true] at hB; exact hB.2
  refine wp_region_any hm ?_
  refine wpAny_lax (P := P) (ops := l.toArray) (C := Below w.heap.size w) (md := .any) (a0 := a) (S := S) (fun w1 w2 h1 h2 => h1.trans (h2.mono h1.size)) hS0 (n := l.toArray.size) (Nat.le_refl _) (fun k o _ hk => hst k o (by simpa using hk))
    (fun k o d hk hd => dsts_lt hD (k := k) (by simpa using hk) hd) (fun j k x y d hj hk hx hy => dsts_one hD (j := j) (k := k) (by simpa using hj) (by simpa using hk) hx hy)
    (fun i oi hi => lexFrom_free _ 0 _ hB' (by simp) (fun i => ?_) (by simp) i oi (Nat.zero_le _) hi) (fun i oi hi ho => absurd (Array.getElem?_eq_some_iff.1 ho).1 (by omega))
    (fun fuel listed a1 w1 ⟨s, hs, hlen⟩ hls hall _ hr => ?_) _ _ _ _ ⟨_, rfl, ?_⟩ (start_inv ⟨rfl, rfl, rfl, Nat.le_refl _, fun _ _ => rfl⟩)
  · by_cases hi : i < l.length
    · simp [hi]
    · simp [hi]; omega
  · have hq : Q .normal a1 w1 := hfin a1 w1 (by simpa using hr)
    have hnr : Region.ready .any l.toArray listed = [] := by
      apply List.eq_nil_iff_forall_not_mem.2
      intro i hi
      obtain ⟨h0, o, ho, _⟩ := mem_ready.1 hi
      have := hall i (Array.getElem?_eq_some_iff.1 ho).1
      rw [this] at h0; cases h0
    exact wpAny_done hnr hq fuel
  · rw [count_none]; simp

/-! ### The steps of the walk -/
section steps
variable {Q : Act → World → Prop} {o : Oper} {rest : List Oper} {I : Lx} {a : Act}

/-- an operand that is known -/
def known (I : Lx) : Operand → Bool
  | .tmp t => (I.lookup t).isNone
  | _ => true

theorem looks_of_operand {x : Operand} {t : Tmp} (h : x ∈ o.op.operands) (hx : x = .tmp t) : t ∈ o.looksAt ops :=
  List.mem_append_left _ (List.mem_filterMap.2 ⟨x, by simpa using h, by rw [hx]⟩)

theorem known_eval {x : Operand} {a1 : Act} {w : World} (hx : known I x = true) (hm : x ∈ o.op.operands) (ht : ∀ t ∈ o.looksAt ops, slotIs I a t (a1.tmps.getD t undef) w) : a1.eval x = a.eval x := by
  cases x with
  | tmp t =>
    have h := ht t (looks_of_operand hm rfl)
    unfold slotIs at h
    have : I.lookup t = none := by simpa [known] using hx
    rw [this] at h
    exact h
  | _ => rfl

theorem wpT_move {x : Operand} (v : Value) (ho : o.op = .move x) (hv : a.eval x = v) (hx : known I x = true) (hg : guardKnown ops o I = true) (hw : Region.wanted o (yielded ops a.tmps) = true) (k : wpT P ops C Q rest I (a.put o.dst v)) : wpT P ops C Q (o :: rest) I a :=
  ⟨_, _, .val v hg hw (fun a1 w _ ht K Q' hK => by
    have e := known_eval hx (by rw [ho]; simp [Op.operands]) ht
    unfold Oper.wp
    simp only [ho, execOp]
    rw [e, hv]
    exact hK _ _ rfl (Below.refl _ _)), k⟩

def notSelect (o : Oper) : Bool := match o.op with | .select .. => false | _ => true

/-- an operation over known slots: run once, in any world of the class -/
theorem wpT_run (v : Value) (hs : notSelect o = true) (hl : (o.op.operands.toList.all (known I)) = true) (hg : guardKnown ops o I = true) (hw : Region.wanted o (yielded ops a.tmps) = true)
    (hrun : ∀ w, C w → (execOp a.eval o).run P w = .ok (.value v) w) (k : wpT P ops C Q rest I (a.put o.dst v)) : wpT P ops C Q (o :: rest) I a :=
  ⟨_, _, .val v hg hw (fun a1 w hC ht K Q' hK => by
    have e : execOp a1.eval o = execOp a.eval o := execOp_congr o (fun cs b h => by simp [notSelect, h] at hs) fun x hx => known_eval (by
      simp only [List.all_eq_true] at hl
      exact hl x (by simpa using hx)) hx ht
    unfold Oper.wp
    rw [e, hrun w hC]
    exact hK _ _ rfl (Below.refl _ _)), k⟩

/-- what is asked at the end: whatever the slots that are not known hold -/
def FinQ (Q : Act → World → Prop) : Lx → Act → World → Prop
  | [], a, w => Q a w
  | (d, R) :: I, a, w => ∀ v, R.holds v w → FinQ Q I (a.put (some d) v) w

theorem rep_fin {n : Nat} : ∀ (I : Lx) (a a1 : Act) (w1 : World), a.tmps.size = n → (I.map (·.1)).Nodup → (∀ d ∈ I.map (·.1), d < n) → Rep C I a a1 w1 → FinQ Q I a w1 → Q a1 w1
  | [], a, a1, w1, hn, _, _, h, hq => by
    have : a1 = a := by
      obtain ⟨t1, d1⟩ := a1
      obtain ⟨t0, d0⟩ := a
      have e1 : t1 = t0 := by
        have hs : t1.size = t0.size := h.size
        apply Array.ext hs
        intro i h1 h2
        have := h.slot i
        have e : t1.getD i undef = t0.getD i undef := this
        simpa [h1, h2] using e
      have e2 : d1 = d0 := h.defers
      rw [e1, e2]
    rw [this]; exact hq
  | (d, R) :: I, a, a1, w1, hn, hk, hr, h, hq => by
    have hd : R.holds (a1.tmps.getD d undef) w1 := by
      have := h.slot d
      unfold slotIs at this
      rw [List.lookup_cons] at this
      simpa using this
    simp only [List.map_cons, List.nodup_cons] at hk
    have hdn : d < a.tmps.size := by rw [hn]; exact hr d (by simp)
    refine rep_fin I (a.put (some d) (a1.tmps.getD d undef)) a1 w1 (by rw [put_size]; exact hn) hk.2 (fun d' hd' => hr d' (by simp only [List.map_cons, List.mem_cons]; exact .inr hd')) ⟨h.world, by rw [put_defers]; exact h.defers, by rw [put_size]; exact h.size, fun t => ?_⟩ (hq _ hd)
    by_cases ht : t = d
    · subst ht
      have hno : I.lookup t = none := by
        cases hl : I.lookup t with
        | none => rfl
        | some R' =>
          exfalso
          have := List.lookup_eq_some_iff.1 hl
          obtain ⟨l1, l2, e, _⟩ := this
          exact hk.1 (by rw [e]; simp)
      unfold slotIs
      rw [hno]
      simp only
      rw [put_getD a t t _ hdn, if_pos rfl]
    · have := h.slot t
      unfold slotIs at this ⊢
      rw [List.lookup_cons] at this
      have hb : (t == d) = false := by simpa using ht
      simp only [hb] at this
      rw [put_getD a d t _ hdn, if_neg ht]
      exact this

theorem wpT_end (hk : ((I.map (·.1)).Nodup && (I.map (·.1)).all (· < a.tmps.size)) = true) (h : ∀ w, C w → FinQ Q I a w) : wpT P ops C Q [] I a := fun a1 w1 hr => by
  simp only [Bool.and_eq_true, decide_eq_true_eq, List.all_eq_true] at hk
  exact rep_fin I a a1 w1 rfl hk.1 hk.2 hr (h w1 hr.world)
end steps


/-! ### The same over a frame that is a list -/
section lists
variable {Q : Act → World → Prop} {o : Oper} {rest : List Oper} {I : Lx} {fs : List Value} {ds : List Deferred}

def mkA (fs : List Value) (ds : List Deferred) : Act := ⟨fs.toArray, ds⟩
def setL (fs : List Value) (d : Option Tmp) (v : Value) : List Value := match d with | some d => fs.set d v | none => fs
theorem mkA_put (d : Option Tmp) (v : Value) : (mkA fs ds).put d v = mkA (setL fs d v) ds := by
  cases d with
  | none => rfl
  | some d => simp [mkA, setL, Act.put]

/-- what an operand is -/
def ev (fs : List Value) : Operand → Value
  | .tmp t => fs.getD t undef
  | .const v => v
  | .global g => .pointer (some ⟨g, 0, none⟩)
  | .func f => .func (.func f) #[] #[]
theorem mkA_eval (x : Operand) : (mkA fs ds).eval x = ev fs x := by
  cases x with
  | tmp t => simp [mkA, ev, Act.eval]
  | _ => rfl
theorem mkA_evalF : (mkA fs ds).eval = ev fs := funext mkA_eval

def wantedL (ops : Array Oper) (fs : List Value) (o : Oper) : Bool :=
  match o.guard with
  | none => true
  | some (g, want) => match (ops.toList[g]?).bind (·.dst) with
    | none => Region.wanted o (fun _ => none)
    | some d => match fs[d]? with
      | some (.bool b) => Region.wanted o (fun _ => some b)
      | _ => Region.wanted o (fun _ => none)

theorem wantedL_eq : Region.wanted o (yielded ops (mkA fs ds).tmps) = wantedL ops fs o := by
  unfold wantedL Region.wanted
  cases hg : o.guard with
  | none => rfl
  | some gw =>
    obtain ⟨g, want⟩ := gw
    have e : ops.toList[g]? = ops[g]? := by simp
    simp only [e]
    have hy : yielded ops (mkA fs ds).tmps g = match (ops[g]?).bind (·.dst) with | none => none | some d => match fs[d]? with | some (.bool b) => some b | _ => none := by
      unfold yielded
      cases hd : (ops[g]?).bind (·.dst) with
      | none => rfl
      | some d =>
        simp only [mkA, Option.bind_some, List.getElem?_toArray]
        cases fs[d]? with
        | none => rfl
        | some v => cases v <;> rfl
    simp only [hy]
    cases hd : (ops[g]?).bind (·.dst) with
    | none => rfl
    | some d =>
      simp only
      cases fs[d]? with
      | none => rfl
      | some v => cases v <;> rfl

/-- THE WALK over a list -/
def wpL (P : Program) (ops : Array Oper) (C : World → Prop) (Q : Act → World → Prop) (ds : List Deferred) (l : List Oper) (I : Lx) (fs : List Value) : Prop := wpT P ops C Q l I (mkA fs ds)

theorem wp_lax_list {id : Nat} {Q : Exit → Act → World → Prop} {w : World} {l : List Oper} (hm : P.follows .mixedOrders = true) (hB : Region.lexB .any l.toArray = true) (hD : dstsB l fs.length = true)
    (h : wpL P l.toArray (Below w.heap.size w) (fun a' w' => Q .normal a' w') ds l [] fs) : (Code.region id l.toArray true).wp P Q ⟨fs.toArray, ds⟩ w :=
  wp_region_lax hm hB (by simpa using hD) h

theorem wpL_move {x : Operand} (v : Value) (ho : o.op = .move x) (hv : ev fs x = v) (hx : known I x = true) (hg : guardKnown ops o I = true) (hw : wantedL ops fs o = true) (k : wpL P ops C Q ds rest I (setL fs o.dst v)) : wpL P ops C Q ds (o :: rest) I fs :=
  wpT_move v ho ((mkA_eval x).trans hv) hx hg (wantedL_eq.trans hw) (by rw [mkA_put]; exact k)
theorem wpL_run (v : Value) (hs : notSelect o = true) (hl : (o.op.operands.toList.all (known I)) = true) (hg : guardKnown ops o I = true) (hw : wantedL ops fs o = true)
    (hrun : ∀ w, C w → (execOp (ev fs) o).run P w = .ok (.value v) w) (k : wpL P ops C Q ds rest I (setL fs o.dst v)) : wpL P ops C Q ds (o :: rest) I fs :=
  wpT_run v hs hl hg (wantedL_eq.trans hw) (by rw [mkA_evalF]; exact hrun) (by rw [mkA_put]; exact k)
/-- run against a frame that is a variable, from what its operands are -/
theorem wpL_run1 {x : Operand} (vx v : Value) (hx : ev fs x = vx) (hs : notSelect o = true) (hl : (o.op.operands.toList.all (known I)) = true) (hg : guardKnown ops o I = true) (hw : wantedL ops fs o = true)
    (hrun : ∀ w (ρ : Operand → Value), C w → ρ x = vx → (∀ c, ρ (.const c) = c) → (execOp ρ o).run P w = .ok (.value v) w) (k : wpL P ops C Q ds rest I (setL fs o.dst v)) : wpL P ops C Q ds (o :: rest) I fs :=
  wpL_run v hs hl hg hw (fun w hC => hrun w _ hC hx fun _ => rfl) k
theorem wpL_run2 {x y : Operand} (vx vy v : Value) (hx : ev fs x = vx) (hy : ev fs y = vy) (hs : notSelect o = true) (hl : (o.op.operands.toList.all (known I)) = true) (hg : guardKnown ops o I = true) (hw : wantedL ops fs o = true)
    (hrun : ∀ w (ρ : Operand → Value), C w → ρ x = vx → ρ y = vy → (∀ c, ρ (.const c) = c) → (execOp ρ o).run P w = .ok (.value v) w) (k : wpL P ops C Q ds rest I (setL fs o.dst v)) : wpL P ops C Q ds (o :: rest) I fs :=
  wpL_run v hs hl hg hw (fun w hC => hrun w _ hC hx hy fun _ => rfl) k
theorem enter_of {P : Program} {f : FuncId} {xs : List Operand} {ts : Array TypeId} {o : Oper} {w : World} (ho : o.op = .call { callee := .value (.func f), args := xs.toArray, argTypes := ts }) (ρ : Operand → Value) (hρ : ρ (.func f) = .func (.func f) #[] #[])
    (hfn : ∀ (args : Array Value) w, (callFunc f args).run P w = .ok (.enter f args) w) : (execOp ρ o).run P w = .ok (.enter f (xs.map ρ).toArray) w := by
  simp [execOp, ho, resolve, hρ, Deferred.ofValue, invoke, go_sem, hfn]

/-- what is asked at the end -/
def FinL (Q : Act → World → Prop) (ds : List Deferred) : Lx → List Value → World → Prop
  | [], fs, w => Q ⟨fs.toArray, ds⟩ w
  | (d, R) :: I, fs, w => ∀ v, R.holds v w → FinL Q ds I (fs.set d v) w
theorem finL_finQ : ∀ (I : Lx) (fs : List Value) (w : World), FinL Q ds I fs w → FinQ Q I (mkA fs ds) w
  | [], _, _, h => h
  | (d, R) :: I, fs, w, h => fun v hv => by rw [mkA_put]; exact finL_finQ I _ w (h v hv)
theorem wpL_end (hk : ((I.map (·.1)).Nodup && (I.map (·.1)).all (· < fs.length)) = true) (h : ∀ w, C w → FinL Q ds I fs w) : wpL P ops C Q ds [] I fs :=
  wpT_end (by simpa [mkA] using hk) (fun w hw => finL_finQ I fs w (h w hw))
end lists

end
end Go.Own

end
