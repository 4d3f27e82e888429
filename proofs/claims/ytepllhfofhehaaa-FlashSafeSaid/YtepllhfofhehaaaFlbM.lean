/- Layer 7, the landed flash: pages held twice, as they are now and as they were when safe last; rows of pages, laid flat. -/
import Derived.Test.YtepllhfofhehaaaFlaK
namespace Go.FlaM
/-- all that was done, done whole -/
def nowG (pp : Nat) (safe : List (List Bs)) (L : List Act) : List (List Bs) := L.foldl (fun g a => doOne pp g a 128) safe
theorem nowG_snoc (pp : Nat) (safe : List (List Bs)) (L : List Act) (a : Act) : nowG pp safe (L ++ [a]) = doOne pp (nowG pp safe L) a 128 := by simp [nowG, List.foldl_append]
def ActOk (n pp : Nat) (a : Act) : Prop := a.seg < n ∧ ((0 ≤ a.page ∧ a.page < (pp : Int) ∧ a.b.length = 128) ∨ (a.page = -1 ∧ a.b = []))
theorem nowG_shape {n pp : Nat} : ∀ (L : List Act) (safe : List (List Bs)), Shape safe n pp → (∀ a ∈ L, ActOk n pp a) → Shape (nowG pp safe L) n pp
  | [], _, h, _ => h
  | a :: L, safe, h, ha => nowG_shape L _ (shape_one h a (ha a (List.mem_cons_self ..)) 128) (fun x hx => ha x (List.mem_cons_of_mem _ hx))
/-- operations, each with what a function tells of its number -/
def doAllF (pp : Nat) (φ : Nat → Int) : List (List Bs) → Nat → List Act → List (List Bs)
  | safe, _, [] => safe
  | safe, i, a :: r => doAllF pp φ (doOne pp safe a (φ i)) (i + 1) r
theorem doAll_F (pp : Nat) (fates : List Int) : ∀ (L : List Act) (safe : List (List Bs)) (i : Nat), doAll pp fates safe i L = doAllF pp (fun i => fates.getD i 0) safe i L
  | [], _, _ => rfl
  | _ :: L, _, i => doAll_F pp fates L _ (i + 1)
theorem doOne_big {pp : Nat} (hpp : pp ≤ 64) (safe : List (List Bs)) (a : Act) (e e' : Int) (h : 128 ≤ e) (h' : 128 ≤ e') : doOne pp safe a e = doOne pp safe a e' := by
  unfold doOne
  rw [show min e.toNat 128 = min e'.toNat 128 by omega, show min e.toNat pp = min e'.toNat pp by omega]
theorem doAllF_big {pp : Nat} (hpp : pp ≤ 64) (φ : Nat → Int) (hφ : ∀ i, 128 ≤ φ i) : ∀ (L : List Act) (safe : List (List Bs)) (i : Nat), doAllF pp φ safe i L = nowG pp safe L
  | [], _, _ => rfl
  | a :: L, safe, i => by
    show doAllF pp φ (doOne pp safe a (φ i)) (i + 1) L = nowG pp (doOne pp safe a 128) L
    rw [doOne_big hpp safe a (φ i) 128 (hφ i) (by omega)]
    exact doAllF_big hpp φ hφ L _ (i + 1)
theorem doAll_whole {pp : Nat} (fates : List Int) : ∀ (L : List Act) (safe : List (List Bs)) (i : Nat), (∀ j, j < L.length → fates.getD (i + j) 0 = 128) → doAll pp fates safe i L = nowG pp safe L
  | [], _, _, _ => rfl
  | a :: L, safe, i, h => by
    show doAll pp fates (doOne pp safe a (fates.getD i 0)) (i + 1) L = nowG pp (doOne pp safe a 128) L
    have h0 : fates.getD i 0 = 128 := h 0 (Nat.zero_lt_succ _)
    rw [h0]
    exact doAll_whole fates L _ (i + 1) (fun j hj => by have := h (j + 1) (Nat.succ_lt_succ hj); rw [show i + 1 + j = i + (j + 1) by omega]; exact this)
theorem doAllF_step (pp : Nat) (φ : Nat → Int) (L : List Act) (g : List (List Bs)) (i : Nat) (a : Act) (h : L[i]? = some a) : doAllF pp φ g i (L.drop i) = doAllF pp φ (doOne pp g a (φ i)) (i + 1) (L.drop (i + 1)) := by
  obtain ⟨hl, rfl⟩ := List.getElem?_eq_some_iff.1 h
  rw [List.drop_eq_getElem_cons hl]
  rfl

/-! ### rows of pages, laid flat -/
def Wide (row : List Bs) : Prop := ∀ x ∈ row, x.length = 128
theorem flat_len : ∀ {row : List Bs}, Wide row → row.flatten.length = row.length * 128
  | [], _ => rfl
  | x :: row, h => by
    rw [List.flatten_cons, List.length_append, h x (List.mem_cons_self ..), flat_len (fun y hy => h y (List.mem_cons_of_mem _ hy)), List.length_cons]
    omega
theorem flat_page : ∀ {row : List Bs} (k : Nat), Wide row → k < row.length → (row.flatten.drop (k * 128)).take 128 = row.getD k []
  | [], _, _, hk => by simp at hk
  | x :: row, 0, h, _ => by
    have hx := h x (List.mem_cons_self ..)
    rw [Nat.zero_mul, List.drop_zero, List.flatten_cons, ← hx, List.take_left]
    rfl
  | x :: row, k + 1, h, hk => by
    have hx := h x (List.mem_cons_self ..)
    rw [List.flatten_cons, List.drop_append, List.drop_of_length_le (by omega), List.nil_append, hx, show (k + 1) * 128 - 128 = k * 128 by omega, flat_page k (fun y hy => h y (List.mem_cons_of_mem _ hy)) (by simpa using hk)]
    rfl
theorem flat_set : ∀ {row : List Bs} (k : Nat) (b : Bs), Wide row → k < row.length → (row.set k b).flatten = row.flatten.take (k * 128) ++ b ++ row.flatten.drop ((k + 1) * 128)
  | [], _, _, _, hk => by simp at hk
  | x :: row, 0, b, h, _ => by
    have hx := h x (List.mem_cons_self ..)
    rw [Nat.zero_mul, List.take_zero, List.nil_append, List.set_cons_zero, List.flatten_cons, List.flatten_cons, List.drop_append, List.drop_of_length_le (by omega), List.nil_append, hx, show (0 + 1) * 128 - 128 = 0 by omega, List.drop_zero]
  | x :: row, k + 1, b, h, hk => by
    have hx := h x (List.mem_cons_self ..)
    rw [List.set_cons_succ, List.flatten_cons, List.flatten_cons, flat_set k b (fun y hy => h y (List.mem_cons_of_mem _ hy)) (by simpa using hk), List.take_append, List.drop_append, List.take_of_length_le (i := (k + 1) * 128) (l := x) (by omega), List.drop_of_length_le (i := (k + 1 + 1) * 128) (l := x) (by omega), List.nil_append, hx,
      show (k + 1) * 128 - 128 = k * 128 by omega, show (k + 1 + 1) * 128 - 128 = (k + 1) * 128 by omega]
    simp only [List.append_assoc]
theorem wide_set {row : List Bs} (h : Wide row) (k : Nat) (b : Bs) (hb : b.length = 128) : Wide (row.set k b) := fun x hx => by
  rcases List.mem_or_eq_of_mem_set hx with h1 | rfl
  · exact h x h1
  · exact hb
theorem wide_of {G : List (List Bs)} {n pp : Nat} (h : Shape G n pp) (i : Nat) (hi : i < n) : Wide (G.getD i []) := fun x hx => by
  obtain ⟨k, hk, rfl⟩ := List.getElem_of_mem hx
  have hk2 : k < pp := by rw [h.rows i hi] at hk; exact hk
  have := h.pages i k hi hk2
  unfold pageAt at this
  rw [List.getD_eq_getElem?_getD, List.getElem?_eq_getElem hk] at this
  exact this
/-- the first m pages of a row are erased -/
def wipeTo (row : List Bs) : Nat → List Bs
  | 0 => row
  | m + 1 => (wipeTo row m).set m blank
theorem wipeTo_len (row : List Bs) (m : Nat) : (wipeTo row m).length = row.length := by
  induction m with
  | zero => rfl
  | succ m ih => rw [wipeTo, List.length_set, ih]
theorem wide_wipe {row : List Bs} (h : Wide row) (m : Nat) : Wide (wipeTo row m) := by
  induction m with
  | zero => exact h
  | succ m ih => exact wide_set ih m blank blank_len
theorem clear_row (G : List (List Bs)) (i m : Nat) (hi : i < G.length) : clearTo G i m = G.set i (wipeTo (G.getD i []) m) := by
  induction m with
  | zero =>
    show G = G.set i (G.getD i [])
    rw [List.getD_eq_getElem?_getD, List.getElem?_eq_getElem hi]
    exact (List.set_getElem_self hi).symm
  | succ m ih =>
    show setPage (clearTo G i m) i m blank = G.set i ((wipeTo (G.getD i []) m).set m blank)
    rw [ih]
    unfold setPage
    rw [getD_set_self _ _ _ _ hi, List.set_set]
end Go.FlaM
namespace Go.Proofs.Ytepllhfofhehaaa
open Go.RowKit Go.Own
namespace Fla
open Go.FlaM Byt
theorem nowG_at {s : FS} {N : Nat} (ok : Ok s N) (i k : Nat) (hi : i < s.safe.length) (hk : k < s.pp) : pageAt (nowG s.pp s.safe s.L) i k = now s i k := by
  have h := doAll_at (n := s.safe.length) ok.pp.2 (List.replicate s.L.length 128) i k hi hk s.L s.safe 0 ok.shape ok.acts (fun j hj => by rw [Nat.zero_add]; simp [List.getD, List.getElem?_replicate, hj])
  rw [doAll_whole _ _ _ 0 (fun j hj => by rw [Nat.zero_add]; simp [List.getD, List.getElem?_replicate, hj])] at h
  exact h
end Fla
end Go.Proofs.Ytepllhfofhehaaa
