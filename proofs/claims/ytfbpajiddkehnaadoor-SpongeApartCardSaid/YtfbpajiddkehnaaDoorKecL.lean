/- What the landed round's steps leave: the parities in one sweep, the words turned in place. -/
import Derived.Test.YtfbpajiddkehnaaDoorKecF
namespace Go.KecM

/-- laid where the turn was before n; as it was elsewhere -/
def mixd (N : Nat) (ord : Nat → Nat) (f g : Nat → W) (n : Nat) : List W := (List.range N).map fun i => if ord i < n then f i else g i
theorem mixd_len (N : Nat) (ord : Nat → Nat) (f g : Nat → W) (n : Nat) : (mixd N ord f g n).length = N := by simp [mixd]
theorem mixd_get (N : Nat) (ord : Nat → Nat) (f g : Nat → W) (n i : Nat) (hi : i < N) : (mixd N ord f g n).getD i 0 = if ord i < n then f i else g i := by simp [mixd, hi]
theorem mixd_zero (N : Nat) (ord : Nat → Nat) (f : Nat → W) (s : List W) (hs : s.length = N) : mixd N ord f (fun i => s.getD i 0) 0 = s := by
  apply List.ext_getElem
  · simp [mixd, hs]
  · intro i h1 h2; simp [mixd, h2]
theorem mixd_all (N : Nat) (ord : Nat → Nat) (f g : Nat → W) (M : Nat) (h : ∀ i, i < N → ord i < M) : mixd N ord f g M = (List.range N).map f := by
  apply List.ext_getElem
  · simp [mixd]
  · intro i h1 h2
    have hi : i < N := by simpa [mixd] using h1
    simp [mixd, h i hi]
theorem mixd_set (N : Nat) (ord : Nat → Nat) (f g : Nat → W) (n p : Nat) (h1 : ord p = n) (h2 : ∀ i, i < N → ord i = n → i = p) : (mixd N ord f g n).set p (f p) = mixd N ord f g (n + 1) := by
  apply List.ext_getElem
  · simp [mixd]
  · intro i g1 g2
    have hi : i < N := by simpa [mixd] using g2
    by_cases hip : i = p
    · subst hip
      simp [mixd, h1]
    · rw [List.getElem_set_ne (Ne.symm hip)]
      have : ord i ≠ n := fun h => hip (h2 i hi h)
      simp only [mixd, List.getElem_map, List.getElem_range]
      by_cases h : ord i < n
      · rw [if_pos h, if_pos (by omega)]
      · rw [if_neg h, if_neg (by omega)]

/-- the parities, word by word -/
def pacc (s : St) : Nat → List W
  | 0 => List.replicate 5 0
  | i + 1 => (pacc s i).set (i % 5) ((pacc s i).getD (i % 5) 0 ^^^ s.getD i 0)
theorem pacc_len (s : St) (n : Nat) : (pacc s n).length = 5 := by
  induction n with
  | zero => rfl
  | succ n ih => simp [pacc, ih]
theorem pacc_all (s : St) : pacc s 25 = (List.range 5).map (par s) := by
  simp [pacc, par, at', List.range_succ, List.replicate]
theorem pacc_get (s : St) (x : Nat) (hx : x < 5) : (pacc s 25).getD x 0 = par s x := by rw [pacc_all]; simp [hx]

/-- the first step, in place -/
def thst (s : St) (n : Nat) : List W := mixd 25 ord3 (fun i => at' (theta s) (i % 5) (i / 5)) (fun i => s.getD i 0) n
theorem thst_zero (s : St) (hs : s.length = 25) : thst s 0 = s := mixd_zero _ _ _ _ hs
theorem thst_len (s : St) (n : Nat) : (thst s n).length = 25 := mixd_len _ _ _ _ _
theorem thst_get (s : St) (x y : Nat) (hx : x < 5) (hy : y < 5) : (thst s (5 * x + y)).getD (x + 5 * y) 0 = at' s x y := by
  unfold thst
  rw [mixd_get _ _ _ _ _ _ (by omega), if_neg (by unfold ord3; omega), at_get s x y hx hy]
theorem thst_set (s : St) (x y : Nat) (hx : x < 5) (hy : y < 5) : (thst s (5 * x + y)).set (x + 5 * y) (at' s x y ^^^ (par s (x + 4) ^^^ rot (par s (x + 1)) 1)) = thst s (5 * x + (y + 1)) := by
  have hf : (fun i => at' (theta s) (i % 5) (i / 5)) (x + 5 * y) = at' s x y ^^^ (par s (x + 4) ^^^ rot (par s (x + 1)) 1) := by
    show at' (theta s) ((x + 5 * y) % 5) ((x + 5 * y) / 5) = _
    rw [show (x + 5 * y) % 5 = x by omega, show (x + 5 * y) / 5 = y by omega, theta_at s x y hx hy, BitVec.xor_assoc]
  rw [← hf]
  exact mixd_set 25 ord3 _ _ _ _ (by unfold ord3; omega) (fun i hi he => by unfold ord3 at he; omega)
theorem thst_all (s : St) : thst s 25 = theta s := by
  unfold thst
  rw [mixd_all 25 ord3 _ _ 25 (fun i hi => by unfold ord3; omega)]
  apply List.ext_getElem
  · simp [theta, mk]
  · intro i h1 h2
    have hi : i < 25 := by simpa using h1
    have h := mk_get (fun x y => at' s x y ^^^ par s (x + 4) ^^^ rot (par s (x + 1)) 1) i hi
    simp only [List.getElem_map, List.getElem_range]
    rw [theta_at s _ _ (Nat.mod_lt _ (by decide)) (by omega)]
    simp [theta, mk, hi]

/-- the second step, in place -/
def rho (s : St) : St := (List.range 25).map fun i => rot (s.getD i 0) (turns.getD i 0)
def rhst (s : St) (n : Nat) : List W := mixd 25 id (fun i => rot (s.getD i 0) (turns.getD i 0)) (fun i => s.getD i 0) n
theorem rhst_zero (s : St) (hs : s.length = 25) : rhst s 0 = s := mixd_zero _ _ _ _ hs
theorem rhst_len (s : St) (n : Nat) : (rhst s n).length = 25 := mixd_len _ _ _ _ _
theorem rhst_get (s : St) (i : Nat) (hi : i < 25) : (rhst s i).getD i 0 = s.getD i 0 := by
  unfold rhst
  rw [mixd_get _ _ _ _ _ _ hi, if_neg (by simp)]
theorem rhst_set (s : St) (i : Nat) : (rhst s i).set i (rot (s.getD i 0) (turns.getD i 0)) = rhst s (i + 1) :=
  mixd_set 25 id (fun i => rot (s.getD i 0) (turns.getD i 0)) _ _ _ rfl (fun j hj he => he)
theorem rhst_all (s : St) : rhst s 25 = rho s := mixd_all 25 id _ _ 25 (fun i hi => hi)
theorem rho_len (s : St) : (rho s).length = 25 := by simp [rho]
theorem rho_at (s : St) (x y : Nat) : at' (rho s) x y = rot (at' s x y) (turn x y) := by
  have h : x % 5 + 5 * (y % 5) < 25 := by omega
  unfold at' turn rho
  simp [h]

/-- the third step -/
def pim (s : St) : St := mk fun x y => at' s (x + 3 * y) x
def pist (s : St) (n : Nat) : List W := fill 25 ord2 (fun i => at' s (i % 5 + 3 * (i / 5)) (i % 5)) n
theorem pist_zero (s : St) : pist s 0 = List.replicate 25 0 := fill_zero _ _ _
theorem pist_len (s : St) (n : Nat) : (pist s n).length = 25 := fill_len _ _ _ _
theorem pist_set (s : St) (x y : Nat) (hx : x < 5) (hy : y < 5) : (pist s (5 * x + y)).set (y + 5 * ((2 * x + 3 * y) % 5)) (at' s x y) = pist s (5 * x + (y + 1)) := by
  have h := place2 ⟨x, hx⟩ ⟨y, hy⟩
  have hf : (fun i => at' s (i % 5 + 3 * (i / 5)) (i % 5)) (y + 5 * ((2 * x + 3 * y) % 5)) = at' s x y := by
    show at' s ((y + 5 * ((2 * x + 3 * y) % 5)) % 5 + 3 * ((y + 5 * ((2 * x + 3 * y) % 5)) / 5)) ((y + 5 * ((2 * x + 3 * y) % 5)) % 5) = at' s x y
    rw [show (y + 5 * ((2 * x + 3 * y) % 5)) % 5 = y by omega, show (y + 5 * ((2 * x + 3 * y) % 5)) / 5 = (2 * x + 3 * y) % 5 by omega]
    unfold at'
    rw [show (y + 3 * ((2 * x + 3 * y) % 5)) % 5 = x % 5 by omega]
  rw [← hf]
  exact fill_set 25 ord2 _ _ _ h.1 (fun i hi he => h.2 ⟨i, hi⟩ he)
theorem pist_all (s : St) : pist s 25 = pim s := by
  unfold pist
  rw [fill_all 25 ord2 _ 25 (fun i hi => all2 ⟨i, hi⟩)]
  rfl
theorem pim_rho (s : St) : pim (rho s) = rhopi s := by
  unfold pim rhopi
  congr 1
  funext x y
  rw [rho_at]

/-- the fourth step -/
def chst (s : St) (n : Nat) : List W := mixd 25 ord3 (fin3 s) (fun i => s.getD i 0) n
theorem chst_zero (s : St) (hs : s.length = 25) : chst s 0 = s := mixd_zero _ _ _ _ hs
theorem chst_len (s : St) (n : Nat) : (chst s n).length = 25 := mixd_len _ _ _ _ _
theorem chst_get (s : St) (x y : Nat) (hx : x < 5) (hy : y < 5) : (chst s (5 * x + y)).getD (x + 5 * y) 0 = at' s x y := by
  unfold chst
  rw [mixd_get _ _ _ _ _ _ (by omega), if_neg (by unfold ord3; omega), at_get s x y hx hy]
theorem chst_set (s : St) (x y : Nat) (hx : x < 5) (hy : y < 5) : (chst s (5 * x + y)).set (x + 5 * y) (at' s x y ^^^ (at' s (x + 2) y &&& ~~~ (at' s (x + 1) y))) = chst s (5 * x + (y + 1)) := by
  have hf : fin3 s (x + 5 * y) = at' s x y ^^^ (at' s (x + 2) y &&& ~~~ (at' s (x + 1) y)) := by
    unfold fin3
    rw [show (x + 5 * y) % 5 = x by omega, show (x + 5 * y) / 5 = y by omega]
  rw [← hf]
  exact mixd_set 25 ord3 _ _ _ _ (by unfold ord3; omega) (fun i hi he => by unfold ord3 at he; omega)
theorem chst_all (s : St) : chst s 25 = chi s := by
  unfold chst
  rw [mixd_all 25 ord3 _ _ 25 (fun i hi => by unfold ord3; omega)]
  rfl
end Go.KecM
