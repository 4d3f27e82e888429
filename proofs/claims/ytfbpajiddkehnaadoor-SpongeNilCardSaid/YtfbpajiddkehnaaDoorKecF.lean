/- Filling an array place by place; what a round's three sweeps leave. -/
import Derived.Test.YtfbpajiddkehnaaDoorKecM
namespace Go.KecM

/-- an array of N words, of which those are laid whose turn was before n -/
def fill (N : Nat) (ord : Nat → Nat) (f : Nat → W) (n : Nat) : List W := (List.range N).map fun i => if ord i < n then f i else 0
theorem fill_len (N : Nat) (ord : Nat → Nat) (f : Nat → W) (n : Nat) : (fill N ord f n).length = N := by simp [fill]
theorem fill_get (N : Nat) (ord : Nat → Nat) (f : Nat → W) (n i : Nat) (hi : i < N) : (fill N ord f n).getD i 0 = if ord i < n then f i else 0 := by simp [fill, hi]
theorem fill_zero (N : Nat) (ord : Nat → Nat) (f : Nat → W) : fill N ord f 0 = List.replicate N 0 := by
  apply List.ext_getElem
  · simp [fill]
  · intro i h1 h2; simp [fill]
theorem fill_all (N : Nat) (ord : Nat → Nat) (f : Nat → W) (M : Nat) (h : ∀ i, i < N → ord i < M) : fill N ord f M = (List.range N).map f := by
  apply List.ext_getElem
  · simp [fill]
  · intro i h1 h2
    have hi : i < N := by simpa [fill] using h1
    simp [fill, h i hi]
theorem fill_set (N : Nat) (ord : Nat → Nat) (f : Nat → W) (n p : Nat) (h1 : ord p = n) (h2 : ∀ i, i < N → ord i = n → i = p) : (fill N ord f n).set p (f p) = fill N ord f (n + 1) := by
  apply List.ext_getElem
  · simp [fill]
  · intro i g1 g2
    have hi : i < N := by simpa [fill] using g2
    by_cases hip : i = p
    · subst hip
      simp [fill, h1]
    · rw [List.getElem_set_ne (Ne.symm hip)]
      have : ord i ≠ n := fun h => hip (h2 i hi h)
      simp only [fill, List.getElem_map, List.getElem_range]
      by_cases h : ord i < n
      · rw [if_pos h, if_pos (by omega)]
      · rw [if_neg h, if_neg (by omega)]

/-- the xor of a column's first y words -/
def parTo (s : St) (x : Nat) : Nat → W
  | 0 => 0
  | y + 1 => parTo s x y ^^^ at' s x y
theorem par_to (s : St) (x : Nat) : par s x = parTo s x 5 := by simp [par, parTo]
/-- the parities, as the first sweep has them: columns before x whole, y words of column x -/
def pcell (s : St) (x y : Nat) : List W := (List.range 5).map fun i => if i < x then par s i else if i = x then parTo s x y else 0
theorem pcell_zero (s : St) : pcell s 0 0 = List.replicate 5 0 := by
  apply List.ext_getElem
  · simp [pcell]
  · intro i h1 h2
    simp only [pcell, List.getElem_map, List.getElem_range, List.getElem_replicate]
    by_cases h : i = 0
    · subst h; rfl
    · rw [if_neg (by omega), if_neg h]
theorem pcell_get (s : St) (x y : Nat) (hx : x < 5) : (pcell s x y).getD x 0 = parTo s x y := by simp [pcell, hx]
theorem pcell_set (s : St) (x y : Nat) : (pcell s x y).set x (parTo s x y ^^^ at' s x y) = pcell s x (y + 1) := by
  apply List.ext_getElem
  · simp [pcell]
  · intro i h1 h2
    by_cases h : i = x
    · subst h; simp [pcell, parTo]
    · rw [List.getElem_set_ne (Ne.symm h)]
      simp [pcell, h]
theorem pcell_next (s : St) (x : Nat) : pcell s x 5 = pcell s (x + 1) 0 := by
  apply List.ext_getElem
  · simp [pcell]
  · intro i h1 h2
    simp only [pcell, List.getElem_map, List.getElem_range]
    by_cases h : i < x
    · rw [if_pos h, if_pos (by omega)]
    · by_cases h' : i = x
      · subst h'; simp [par_to]
      · rw [if_neg h, if_neg h', if_neg (by omega)]
        by_cases h'' : i = x + 1
        · rw [if_pos h'']; rfl
        · rw [if_neg h'']
theorem pcell_all (s : St) (x : Nat) (hx : x < 5) : (pcell s 5 0).getD x 0 = par s x := by simp [pcell, hx]

/-- the second sweep: turned and moved -/
def ord2 (i : Nat) : Nat := 5 * ((i % 5 + 3 * (i / 5)) % 5) + i % 5
def fin2 (s : St) (i : Nat) : W := rot (at' (theta s) (i % 5 + 3 * (i / 5)) (i % 5)) (turn (i % 5 + 3 * (i / 5)) (i % 5))
theorem place2 : ∀ x y : Fin 5, ord2 (y.val + 5 * ((2 * x.val + 3 * y.val) % 5)) = 5 * x.val + y.val ∧ ∀ i : Fin 25, ord2 i.val = 5 * x.val + y.val → i.val = y.val + 5 * ((2 * x.val + 3 * y.val) % 5) := by decide +kernel
theorem all2 : ∀ i : Fin 25, ord2 i.val < 25 := by decide
theorem fill2_set (s : St) (x y : Nat) (hx : x < 5) (hy : y < 5) : (fill 25 ord2 (fin2 s) (5 * x + y)).set (y + 5 * ((2 * x + 3 * y) % 5)) (rot (at' (theta s) x y) (turn x y)) = fill 25 ord2 (fin2 s) (5 * x + y + 1) := by
  have h := place2 ⟨x, hx⟩ ⟨y, hy⟩
  have hf : fin2 s (y + 5 * ((2 * x + 3 * y) % 5)) = rot (at' (theta s) x y) (turn x y) := by
    have e1 : (y + 5 * ((2 * x + 3 * y) % 5)) % 5 = y := by omega
    have e2 : (y + 5 * ((2 * x + 3 * y) % 5)) / 5 = (2 * x + 3 * y) % 5 := by omega
    unfold fin2
    rw [e1, e2]
    have e3 : (y + 3 * ((2 * x + 3 * y) % 5)) % 5 = x % 5 := by omega
    unfold at' turn
    rw [e3]
  rw [← hf]
  exact fill_set 25 ord2 (fin2 s) _ _ h.1 (fun i hi he => h.2 ⟨i, hi⟩ he)
theorem fill2_all (s : St) : fill 25 ord2 (fin2 s) 25 = rhopi (theta s) := by
  rw [fill_all 25 ord2 _ 25 (fun i hi => all2 ⟨i, hi⟩)]
  unfold rhopi mk
  apply List.map_congr_left
  intro i hi
  rfl

/-- the third sweep -/
def ord3 (i : Nat) : Nat := 5 * (i % 5) + i / 5
def fin3 (s : St) (i : Nat) : W := at' s (i % 5) (i / 5) ^^^ (at' s (i % 5 + 2) (i / 5) &&& ~~~ (at' s (i % 5 + 1) (i / 5)))
theorem fill3_set (s : St) (x y : Nat) (hx : x < 5) (hy : y < 5) : (fill 25 ord3 (fin3 s) (5 * x + y)).set (x + 5 * y) (at' s x y ^^^ (at' s (x + 2) y &&& ~~~ (at' s (x + 1) y))) = fill 25 ord3 (fin3 s) (5 * x + y + 1) := by
  have hf : fin3 s (x + 5 * y) = at' s x y ^^^ (at' s (x + 2) y &&& ~~~ (at' s (x + 1) y)) := by
    unfold fin3
    rw [show (x + 5 * y) % 5 = x by omega, show (x + 5 * y) / 5 = y by omega]
  rw [← hf]
  exact fill_set 25 ord3 (fin3 s) _ _ (by unfold ord3; omega) (fun i hi he => by unfold ord3 at he; omega)
theorem fill3_all (s : St) : fill 25 ord3 (fin3 s) 25 = chi s := by
  rw [fill_all 25 ord3 _ 25 (fun i hi => by unfold ord3; omega)]
  rfl
theorem theta_at (s : St) (x y : Nat) (hx : x < 5) (hy : y < 5) : at' (theta s) x y = at' s x y ^^^ par s (x + 4) ^^^ rot (par s (x + 1)) 1 := by
  unfold theta; rw [mk_at, Nat.mod_eq_of_lt hx, Nat.mod_eq_of_lt hy]
theorem par_mod (s : St) (x : Nat) : par s (x % 5) = par s x := by unfold par at'; rw [Nat.mod_mod]
theorem at_get (s : St) (x y : Nat) (hx : x < 5) (hy : y < 5) : s.getD (x + 5 * y) 0 = at' s x y := by unfold at'; rw [Nat.mod_eq_of_lt hx, Nat.mod_eq_of_lt hy]
end Go.KecM
