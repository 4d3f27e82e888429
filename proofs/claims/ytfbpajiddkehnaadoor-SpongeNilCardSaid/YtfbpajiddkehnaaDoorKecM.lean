/- The mathematics of a permutation of 1600 bits, word by word. -/
namespace Go.KecM

abbrev W := BitVec 64
/-- a word turned left -/
def rot (w : W) (n : Nat) : W := (w <<< n) ||| (w >>> (64 - n))

theorem rot_bit (w : W) (n i : Nat) (hn : n < 64) (hi : i < 64) : (rot w n).getLsbD i = w.getLsbD ((i + (64 - n)) % 64) := by
  unfold rot
  rw [BitVec.getLsbD_or, BitVec.getLsbD_shiftLeft, BitVec.getLsbD_ushiftRight]
  by_cases h : i < n
  · have e : (i + (64 - n)) % 64 = 64 - n + i := by omega
    rw [e]
    simp [hi, h]
  · have e : (i + (64 - n)) % 64 = i - n := by omega
    rw [e]
    have : w.getLsbD (64 - n + i) = false := BitVec.getLsbD_of_ge _ _ (by omega)
    simp [hi, h, this]
theorem rot_xor (a b : W) (n : Nat) (hn : n < 64) : rot (a ^^^ b) n = rot a n ^^^ rot b n := by
  apply BitVec.eq_of_getLsbD_eq
  intro i hi
  simp only [BitVec.getLsbD_xor, rot_bit _ _ _ hn hi]
theorem rot_zero (w : W) : rot w 0 = w := by
  apply BitVec.eq_of_getLsbD_eq
  intro i hi
  rw [rot_bit _ _ _ (by omega) hi]
  rw [show (i + (64 - 0)) % 64 = i by omega]
theorem rot_rot (w : W) (m n : Nat) (hm : m < 64) (hn : n < 64) : rot (rot w m) n = rot w ((m + n) % 64) := by
  apply BitVec.eq_of_getLsbD_eq
  intro i hi
  rw [rot_bit _ _ _ hn hi, rot_bit _ _ _ hm (Nat.mod_lt _ (by omega)), rot_bit _ _ _ (Nat.mod_lt _ (by omega)) hi]
  congr 1
  omega
theorem rot_inj (n : Nat) (hn : n < 64) {a b : W} (h : rot a n = rot b n) : a = b := by
  have h2 := congrArg (rot · ((64 - n) % 64)) h
  simp only [rot_rot _ _ _ hn (Nat.mod_lt _ (by omega)), show (n + (64 - n) % 64) % 64 = 0 by omega, rot_zero] at h2
  exact h2

/-- a state: 25 words -/
abbrev St := List W
def at' (s : St) (x y : Nat) : W := s.getD (x % 5 + 5 * (y % 5)) 0
def mk (f : Nat → Nat → W) : St := (List.range 25).map fun i => f (i % 5) (i / 5)
theorem mk_len (f : Nat → Nat → W) : (mk f).length = 25 := by simp [mk]
theorem mk_get (f : Nat → Nat → W) (i : Nat) (hi : i < 25) : (mk f).getD i 0 = f (i % 5) (i / 5) := by simp [mk, hi]
theorem mk_at (f : Nat → Nat → W) (x y : Nat) : at' (mk f) x y = f (x % 5) (y % 5) := by
  unfold at'
  rw [mk_get _ _ (by omega)]
  congr 1 <;> omega
theorem st_ext {s t : St} (hs : s.length = 25) (ht : t.length = 25) (h : ∀ x y, x < 5 → y < 5 → at' s x y = at' t x y) : s = t := by
  apply List.ext_getElem (by omega)
  intro i h1 h2
  have := h (i % 5) (i / 5) (by omega) (by omega)
  unfold at' at this
  rw [show i % 5 % 5 + 5 * (i / 5 % 5) = i by omega] at this
  simpa [h1, h2] using this

/-- by how many bits the word at x, y is turned -/
def turns : List Nat := [0, 1, 62, 28, 27, 36, 44, 6, 55, 20, 3, 10, 43, 25, 39, 41, 45, 15, 21, 8, 18, 2, 61, 56, 14]
def turn (x y : Nat) : Nat := turns.getD (x % 5 + 5 * (y % 5)) 0
theorem turn_lt (x y : Nat) : turn x y < 64 := by
  have : ∀ i : Fin 25, turns.getD i.val 0 < 64 := by decide
  exact this ⟨x % 5 + 5 * (y % 5), by omega⟩

/-- the xor of a column -/
def par (s : St) (x : Nat) : W := at' s x 0 ^^^ at' s x 1 ^^^ at' s x 2 ^^^ at' s x 3 ^^^ at' s x 4
def theta (s : St) : St := mk fun x y => at' s x y ^^^ par s (x + 4) ^^^ rot (par s (x + 1)) 1
/-- turned, and moved: the word at y, 2 x + 3 y was at x, y -/
def rhopi (s : St) : St := mk fun x y => rot (at' s (x + 3 * y) x) (turn (x + 3 * y) x)
def chi (s : St) : St := mk fun x y => at' s x y ^^^ (at' s (x + 2) y &&& ~~~ (at' s (x + 1) y))
def iota (m : W) (s : St) : St := s.set 0 (s.getD 0 0 ^^^ m)
def roundM (m : W) (s : St) : St := iota m (chi (rhopi (theta s)))

theorem roundM_len (m : W) (s : St) : (roundM m s).length = 25 := by simp [roundM, iota, chi, mk_len]

/-! ### unlike states stay unlike -/
theorem par_add5 (s : St) (x : Nat) : par s (x + 5) = par s x := by
  unfold par at'
  rw [show (x + 5) % 5 = x % 5 by omega]

theorem xor_cancel {a b c : W} (h : a ^^^ c = b ^^^ c) : a = b := by
  have := congrArg (· ^^^ c) h
  simpa [BitVec.xor_assoc] using this

/-- a parity that is its own spread is 0 -/
theorem par_zero (p : Nat → W) (h5 : ∀ x, p (x + 5) = p x) (h : ∀ x, p x = p (x + 4) ^^^ rot (p (x + 1)) 1) : ∀ x, p x = 0 := by
  have hr : ∀ (n : Nat) (x : Nat), n < 64 → rot (p x) n = rot (p (x + 4)) n ^^^ rot (p (x + 1)) ((n + 1) % 64) := by
    intro n x hn
    conv => lhs; rw [h x]
    rw [rot_xor _ _ _ hn, rot_rot _ _ _ (by omega) hn, Nat.add_comm 1 n]
  -- spreading 2, 4, 8, 16 times
  have step : ∀ (a : Nat) (m c : Nat), m + m < 64 → (∀ x, p x = p (x + (5 * a - c)) ^^^ rot (p (x + c)) m) → c ≤ 5 * a → (∀ x, p x = p (x + (10 * a - 2 * c)) ^^^ rot (p (x + 2 * c)) (m + m)) := by
    intro a m c hm hx hc x
    have h1 := hx x
    have h2 := hx (x + (5 * a - c))
    have h3 := hx (x + c)
    have e1 : x + (5 * a - c) + (5 * a - c) = x + (10 * a - 2 * c) := by omega
    have e2 : p (x + (5 * a - c) + c) = p x := by
      rw [show x + (5 * a - c) + c = x + 5 * a by omega]
      clear h1 h2 h3 hx hc
      induction a with
      | zero => simp
      | succ a ih => rw [show x + 5 * (a + 1) = x + 5 * a + 5 by omega, h5]; exact ih (by omega)
    have e3 : p (x + c + (5 * a - c)) = p x := by rw [show x + c + (5 * a - c) = x + (5 * a - c) + c by omega]; exact e2
    rw [e1, e2] at h2
    rw [e3, show x + c + c = x + 2 * c by omega] at h3
    rw [h1, h2, h3, rot_xor _ _ _ (by omega), rot_rot _ _ _ (by omega) (by omega), Nat.mod_eq_of_lt hm]
    apply BitVec.eq_of_getLsbD_eq
    intro i _
    simp only [BitVec.getLsbD_xor]
    cases (p (x + (10 * a - 2 * c))).getLsbD i <;> cases (rot (p x) m).getLsbD i <;> cases (rot (p (x + 2 * c)) (m + m)).getLsbD i <;> rfl
  have t1 : ∀ x, p x = p (x + (5 * 1 - 1)) ^^^ rot (p (x + 1)) 1 := h
  have t2 := step 1 1 1 (by omega) t1 (by omega)
  have t4 := step 2 2 2 (by omega) t2 (by omega)
  have t8 := step 4 4 4 (by omega) t4 (by omega)
  have t16 := step 8 8 8 (by omega) t8 (by omega)
  have per : ∀ (a x : Nat), p (x + 5 * a) = p x := by
    intro a x
    induction a with
    | zero => simp
    | succ a ih => rw [show x + 5 * (a + 1) = x + 5 * a + 5 by omega, h5, ih]
  -- once and sixteen times: the turns by 1 and by 16 are the same
  have hrot : ∀ x, rot (p x) 1 = rot (p x) 16 := by
    intro x
    have h1 := h (x + 4)
    have h2 := t16 (x + 4)
    rw [show x + 4 + (10 * 8 - 2 * 8) = x + 3 + 5 * 13 by omega, per, show x + 4 + 2 * 8 = x + 5 * 4 by omega, per] at h2
    rw [show x + 4 + 4 = x + 3 + 5 * 1 by omega, per, show x + 4 + 1 = x + 5 * 1 by omega, per] at h1
    have h3 := h1.symm.trans h2
    rw [BitVec.xor_comm _ (rot (p x) 1), BitVec.xor_comm _ (rot (p x) (8 + 8))] at h3
    exact xor_cancel h3
  have h15 : ∀ x, rot (p x) 15 = p x := by
    intro x
    have := congrArg (rot · 63) (hrot x)
    simp only [rot_rot _ _ _ (show 1 < 64 by omega) (show 63 < 64 by omega), rot_rot _ _ _ (show 16 < 64 by omega) (show 63 < 64 by omega)] at this
    rw [rot_zero] at this
    exact this.symm
  have h1 : ∀ x, rot (p x) 1 = p x := by
    intro x
    have a1 := h15 x
    -- 15 * 47 = 705 = 11 * 64 + 1
    have : ∀ n, rot (p x) (15 * n % 64) = p x := by
      intro n
      induction n with
      | zero => exact rot_zero _
      | succ n ih =>
        have := congrArg (rot · 15) ih
        simp only [rot_rot _ _ _ (Nat.mod_lt (15 * n) (show 64 > 0 by omega)) (show 15 < 64 by omega)] at this
        rw [show (15 * n % 64 + 15) % 64 = 15 * (n + 1) % 64 by omega, a1] at this
        exact this
    exact this 47
  have h2 : ∀ x, p x = p (x + 4) ^^^ p (x + 1) := by
    intro x; conv => lhs; rw [h x, h1 (x + 1)]
  -- a row of five whose each is the xor of its neighbours
  have h3 : ∀ x, p (x + 3) = p x := by
    intro x
    have a := h2 (x + 1)
    have b := h2 (x + 2)
    rw [show x + 1 + 4 = x + 5 by omega, h5] at a
    rw [show x + 2 + 4 = x + 1 + 5 by omega, h5, show x + 2 + 1 = x + 3 by omega, show x + 1 + 1 = x + 2 by omega] at *
    rw [a] at b
    have b2 := congrArg (p x ^^^ ·) b
    apply BitVec.eq_of_getLsbD_eq
    intro i _
    have ai := congrArg (·.getLsbD i) a
    have bi := congrArg (·.getLsbD i) (h2 (x + 2))
    rw [show x + 2 + 4 = x + 1 + 5 by omega, h5, show x + 2 + 1 = x + 3 by omega] at bi
    simp only [BitVec.getLsbD_xor] at ai bi
    revert ai bi
    cases (p (x + 1)).getLsbD i <;> cases (p x).getLsbD i <;> cases (p (x + 2)).getLsbD i <;> cases (p (x + 3)).getLsbD i <;> simp
  intro x
  have a : p (x + 1) = p x := by
    have := h3 (x + 1 + 0)
    have b := h3 (x + 3)
    rw [show x + 3 + 3 = x + 1 + 5 by omega, h5] at b
    rw [b, h3]
  have b : p (x + 4) = p x := by
    rw [show x + 4 = x + 1 + 3 by omega, h3, a]
  have c := h2 x
  rw [a, b] at c
  rw [c]; simp

theorem theta_inj {s t : St} (hs : s.length = 25) (ht : t.length = 25) (h : theta s = theta t) : s = t := by
  have hxy : ∀ x y, x < 5 → y < 5 → at' s x y ^^^ par s (x + 4) ^^^ rot (par s (x + 1)) 1 = at' t x y ^^^ par t (x + 4) ^^^ rot (par t (x + 1)) 1 := by
    intro x y hx hy
    have := congrArg (at' · x y) h
    simp only [theta, mk_at, Nat.mod_eq_of_lt hx, Nat.mod_eq_of_lt hy] at this
    exact this
  have hp5 : ∀ x, par s (x + 5) ^^^ par t (x + 5) = par s x ^^^ par t x := fun x => by rw [par_add5, par_add5]
  have hpm : ∀ x, par s (x % 5) = par s x ∧ par t (x % 5) = par t x := fun x => by unfold par at'; rw [Nat.mod_mod]; exact ⟨rfl, rfl⟩
  have hz := par_zero (fun x => par s x ^^^ par t x) hp5 (fun x => by
    have hcol : ∀ y, y < 5 → at' s (x % 5) y ^^^ at' t (x % 5) y = (par s (x + 4) ^^^ par t (x + 4)) ^^^ rot (par s (x + 1) ^^^ par t (x + 1)) 1 := by
      intro y hy
      have := hxy (x % 5) y (Nat.mod_lt _ (by omega)) hy
      have e1 : par s (x % 5 + 4) = par s (x + 4) := by rw [← (hpm (x % 5 + 4)).1, ← (hpm (x + 4)).1, show (x % 5 + 4) % 5 = (x + 4) % 5 by omega]
      have e2 : par t (x % 5 + 4) = par t (x + 4) := by rw [← (hpm (x % 5 + 4)).2, ← (hpm (x + 4)).2, show (x % 5 + 4) % 5 = (x + 4) % 5 by omega]
      have e3 : par s (x % 5 + 1) = par s (x + 1) := by rw [← (hpm (x % 5 + 1)).1, ← (hpm (x + 1)).1, show (x % 5 + 1) % 5 = (x + 1) % 5 by omega]
      have e4 : par t (x % 5 + 1) = par t (x + 1) := by rw [← (hpm (x % 5 + 1)).2, ← (hpm (x + 1)).2, show (x % 5 + 1) % 5 = (x + 1) % 5 by omega]
      rw [e1, e2, e3, e4] at this
      rw [rot_xor _ _ _ (by omega)]
      apply BitVec.eq_of_getLsbD_eq
      intro i _
      have hi := congrArg (·.getLsbD i) this
      simp only [BitVec.getLsbD_xor] at hi ⊢
      revert hi
      cases (at' s (x % 5) y).getLsbD i <;> cases (at' t (x % 5) y).getLsbD i <;> cases (par s (x + 4)).getLsbD i <;> cases (par t (x + 4)).getLsbD i <;> cases (rot (par s (x + 1)) 1).getLsbD i <;> cases (rot (par t (x + 1)) 1).getLsbD i <;> simp
    show par s x ^^^ par t x = _
    rw [← (hpm x).1, ← (hpm x).2]
    have c0 := hcol 0 (by omega)
    have c1 := hcol 1 (by omega)
    have c2 := hcol 2 (by omega)
    have c3 := hcol 3 (by omega)
    have c4 := hcol 4 (by omega)
    have e : par s (x % 5) ^^^ par t (x % 5) = (at' s (x % 5) 0 ^^^ at' t (x % 5) 0) ^^^ (at' s (x % 5) 1 ^^^ at' t (x % 5) 1) ^^^ (at' s (x % 5) 2 ^^^ at' t (x % 5) 2) ^^^ (at' s (x % 5) 3 ^^^ at' t (x % 5) 3) ^^^ (at' s (x % 5) 4 ^^^ at' t (x % 5) 4) := by
      unfold par
      apply BitVec.eq_of_getLsbD_eq
      intro i _
      simp only [BitVec.getLsbD_xor]
      cases (at' s (x % 5) 0).getLsbD i <;> cases (at' s (x % 5) 1).getLsbD i <;> cases (at' s (x % 5) 2).getLsbD i <;> cases (at' s (x % 5) 3).getLsbD i <;> cases (at' s (x % 5) 4).getLsbD i <;> simp
    rw [e, c0, c1, c2, c3, c4]
    apply BitVec.eq_of_getLsbD_eq
    intro i _
    simp only [BitVec.getLsbD_xor]
    cases (par s (x + 4)).getLsbD i <;> cases (par t (x + 4)).getLsbD i <;> cases (rot (par s (x + 1) ^^^ par t (x + 1)) 1).getLsbD i <;> rfl)
  have hpar : ∀ x, par s x = par t x := by
    intro x
    have := congrArg (· ^^^ par t x) (hz x)
    simpa [BitVec.xor_assoc] using this
  apply st_ext hs ht
  intro x y hx hy
  have := hxy x y hx hy
  rw [hpar, hpar] at this
  exact xor_cancel (xor_cancel this)

theorem rhopi_inj {s t : St} (hs : s.length = 25) (ht : t.length = 25) (h : rhopi s = rhopi t) : s = t := by
  apply st_ext hs ht
  intro x y hx hy
  -- the word at x, y goes to y, 2 x + 3 y
  have := congrArg (at' · y (2 * x + 3 * y)) h
  simp only [rhopi, mk_at] at this
  have e1 : (y % 5 + 3 * ((2 * x + 3 * y) % 5)) % 5 = x := by omega
  have e2 : (y % 5) % 5 = y := by omega
  have hat : ∀ u : St, at' u (y % 5 + 3 * ((2 * x + 3 * y) % 5)) (y % 5) = at' u x y := by
    intro u; unfold at'; rw [e1, e2, Nat.mod_eq_of_lt hx, Nat.mod_eq_of_lt hy]
  rw [hat, hat] at this
  exact rot_inj _ (turn_lt _ _) this

theorem chi_bits : ∀ a b c d e a' b' c' d' e' : Bool,
    (a ^^ (c && !b)) = (a' ^^ (c' && !b')) → (b ^^ (d && !c)) = (b' ^^ (d' && !c')) → (c ^^ (e && !d)) = (c' ^^ (e' && !d')) → (d ^^ (a && !e)) = (d' ^^ (a' && !e')) → (e ^^ (b && !a)) = (e' ^^ (b' && !a')) →
      a = a' ∧ b = b' ∧ c = c' ∧ d = d' ∧ e = e' := by decide

theorem chi_inj {s t : St} (hs : s.length = 25) (ht : t.length = 25) (h : chi s = chi t) : s = t := by
  have hrow : ∀ y, y < 5 → ∀ i, i < 64 → ∀ x, x < 5 → ((at' s x y).getLsbD i ^^ ((at' s (x + 2) y).getLsbD i && !(at' s (x + 1) y).getLsbD i)) = ((at' t x y).getLsbD i ^^ ((at' t (x + 2) y).getLsbD i && !(at' t (x + 1) y).getLsbD i)) := by
    intro y hy i hi x hx
    have := congrArg (fun u => (at' u x y).getLsbD i) h
    simp only [chi, mk_at, Nat.mod_eq_of_lt hx, Nat.mod_eq_of_lt hy, BitVec.getLsbD_xor, BitVec.getLsbD_and, BitVec.getLsbD_not, hi, decide_true, Bool.true_and] at this
    exact this
  apply st_ext hs ht
  intro x y hx hy
  apply BitVec.eq_of_getLsbD_eq
  intro i hi
  have r0 := hrow y hy i hi 0 (by omega)
  have r1 := hrow y hy i hi 1 (by omega)
  have r2 := hrow y hy i hi 2 (by omega)
  have r3 := hrow y hy i hi 3 (by omega)
  have r4 := hrow y hy i hi 4 (by omega)
  have w : ∀ (u : St) (k : Nat), at' u (5 + k) y = at' u k y := fun u k => by unfold at'; rw [Nat.add_mod_left]
  rw [show 3 + 2 = 5 + 0 from rfl, w, w] at r3
  rw [show 4 + 2 = 5 + 1 from rfl, show 4 + 1 = 5 + 0 from rfl, w, w, w, w] at r4
  obtain ⟨a0, a1, a2, a3, a4⟩ := chi_bits _ _ _ _ _ _ _ _ _ _ r0 r1 r2 r3 r4
  match x, hx with
  | 0, _ => exact a0
  | 1, _ => exact a1
  | 2, _ => exact a2
  | 3, _ => exact a3
  | 4, _ => exact a4

theorem iota_inj (m : W) {s t : St} (hs : s.length = 25) (ht : t.length = 25) (h : iota m s = iota m t) : s = t := by
  unfold iota at h
  apply List.ext_getElem (by omega)
  intro i h1 h2
  by_cases hi : i = 0
  · subst hi
    have := congrArg (·.getD 0 0) h
    simp only [List.getD_eq_getElem?_getD, List.getElem?_set_self (show 0 < s.length by omega), List.getElem?_set_self (show 0 < t.length by omega), Option.getD_some] at this
    have h3 := xor_cancel this
    simpa [show 0 < s.length by omega, show 0 < t.length by omega] using h3
  · have := congrArg (·[i]?) h
    simp only [List.getElem?_set_ne (Ne.symm hi)] at this
    simpa [h1, h2] using this

theorem roundM_inj (m : W) {s t : St} (hs : s.length = 25) (ht : t.length = 25) (h : roundM m s = roundM m t) : s = t :=
  theta_inj hs ht (rhopi_inj (mk_len _) (mk_len _) (chi_inj (mk_len _) (mk_len _) (iota_inj m (mk_len _) (mk_len _) h)))

/-- rounds differ by their constant in the first word alone -/
theorem roundM_first (m n : W) (s : St) : (roundM m s).set 0 ((roundM m s).getD 0 0 ^^^ m) = (roundM n s).set 0 ((roundM n s).getD 0 0 ^^^ n) := by
  have key : ∀ m : W, (roundM m s).set 0 ((roundM m s).getD 0 0 ^^^ m) = chi (rhopi (theta s)) := by
    intro m
    unfold roundM iota
    have hl : (chi (rhopi (theta s))).length = 25 := mk_len _
    obtain ⟨u, hu⟩ : ∃ u, u = chi (rhopi (theta s)) := ⟨_, rfl⟩
    rw [← hu] at hl ⊢
    match u, hl with
    | a :: r, _ => simp [BitVec.xor_assoc]
  rw [key, key]

/-- the constant of a round -/
def lf (r : Nat) : Nat := if 2 * r ≥ 256 then (2 * r) ^^^ 369 else 2 * r
def lfs : Nat → Nat
  | 0 => 1
  | t + 1 => lf (lfs t)
def cbit (t : Nat) : Nat := lfs t % 2
def kmark (round : Nat) : Nat := ((List.range 7).map fun j => cbit ((j + 7 * (round % 255)) % 255) * 2 ^ (2 ^ j - 1)).sum
def markW (round : Nat) : W := BitVec.ofNat 64 (kmark round)

def roundN (round : Nat) (s : St) : St := roundM (markW round) s
def perm : Nat → St → St
  | 0, s => s
  | n + 1, s => roundN n (perm n s)
theorem perm_len (n : Nat) (s : St) (hs : s.length = 25) : (perm n s).length = 25 := by
  cases n with
  | zero => exact hs
  | succ n => exact roundM_len _ _
theorem perm_inj (n : Nat) {s t : St} (hs : s.length = 25) (ht : t.length = 25) (h : perm n s = perm n t) : s = t := by
  induction n with
  | zero => exact h
  | succ n ih => exact ih (roundM_inj _ (perm_len n s hs) (perm_len n t ht) h)

theorem shown_perm : (perm 24 (List.replicate 25 0)).getD 0 0 = 0xF1258F7940E1DDE7#64 := by decide +kernel
theorem turns_unlike : ∀ i k : Fin 25, (turns.getD i.val 0 = turns.getD k.val 0) = (i = k) := by decide
end Go.KecM
