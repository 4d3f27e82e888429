/- The mathematics of a cyclic sum: a register of 32 bits, crun on bitAt by bitAt. -/
namespace Go.CrcM

abbrev R := BitVec 32
def poly : R := 0xEDB88320#32

/-- one tick of the register -/
def tick (r : R) : R := if r.getLsbD 0 then (r >>> 1) ^^^ poly else r >>> 1
/-- one tick tock -/
def tock (r : R) : R := if r.getLsbD 31 then (r <<< 1) ^^^ 0xDB710641#32 else r <<< 1

def ticks : Nat → R → R
  | 0, r => r
  | n + 1, r => tick (ticks n r)
def tocks : Nat → R → R
  | 0, r => r
  | n + 1, r => tock (tocks n r)

theorem tick_bit (r : R) (i : Nat) : (tick r).getLsbD i = ((r.getLsbD (1 + i)) ^^ (r.getLsbD 0 && poly.getLsbD i)) := by
  unfold tick
  cases h : r.getLsbD 0 <;> simp

theorem tick_xor (a b : R) : tick (a ^^^ b) = tick a ^^^ tick b := by
  apply BitVec.eq_of_getLsbD_eq
  intro i _
  simp only [tick_bit, BitVec.getLsbD_xor]
  cases a.getLsbD 0 <;> cases b.getLsbD 0 <;> cases a.getLsbD (1 + i) <;> cases b.getLsbD (1 + i) <;> cases poly.getLsbD i <;> rfl

theorem poly_bits (i : Nat) (h : i < 32) : (0xDB710641#32).getLsbD i = if i = 0 then true else poly.getLsbD (i - 1) := by
  have : ∀ i : Fin 32, (0xDB710641#32).getLsbD i.val = if i.val = 0 then true else poly.getLsbD (i.val - 1) := by decide
  exact this ⟨i, h⟩
theorem poly_top : poly.getLsbD 31 = true := by decide

theorem tock_step (r : R) : tock (tick r) = r := by
  have ht : (tick r).getLsbD 31 = r.getLsbD 0 := by rw [tick_bit, poly_top]; simp
  apply BitVec.eq_of_getLsbD_eq
  intro i hi
  unfold tock
  rw [ht]
  by_cases h0 : i = 0
  · subst h0
    cases h : r.getLsbD 0 <;> simp
  · cases h : r.getLsbD 0
    · simp only [Bool.false_eq_true, if_false, BitVec.getLsbD_shiftLeft, tick_bit, h]
      simp [hi, show 1 + (i - 1) = i by omega, show ¬ i < 1 by omega]
    · simp only [if_true, BitVec.getLsbD_xor, BitVec.getLsbD_shiftLeft, tick_bit, h, poly_bits i hi, h0, if_false]
      simp [hi, show 1 + (i - 1) = i by omega, show ¬ i < 1 by omega]

theorem tick_back (r : R) : tick (tock r) = r := by
  have ht : (tock r).getLsbD 0 = r.getLsbD 31 := by
    unfold tock
    cases h : r.getLsbD 31 <;> simp
  apply BitVec.eq_of_getLsbD_eq
  intro i hi
  rw [tick_bit, ht]
  unfold tock
  by_cases h31 : i = 31
  · subst h31
    cases h : r.getLsbD 31 <;> simp [poly]
  · have h1 : 1 + i < 32 := by omega
    cases h : r.getLsbD 31
    · simp [h1, BitVec.getLsbD_eq_getElem hi]
    · simp only [if_true, BitVec.getLsbD_xor, BitVec.getLsbD_shiftLeft, poly_bits (1 + i) h1, Bool.true_and]
      simp [h1]

theorem tick_inj {a b : R} (h : tick a = tick b) : a = b := by rw [← tock_step a, ← tock_step b, h]
theorem tick_zero : tick 0 = 0 := by decide
theorem tick_eq_zero {a : R} (h : tick a = 0) : a = 0 := tick_inj (h.trans tick_zero.symm)

theorem ticks_xor (n : Nat) (a b : R) : ticks n (a ^^^ b) = ticks n a ^^^ ticks n b := by
  induction n with
  | zero => rfl
  | succ n ih => simp only [ticks, ih, tick_xor]
theorem ticks_inj (n : Nat) {a b : R} (h : ticks n a = ticks n b) : a = b := by
  induction n with
  | zero => exact h
  | succ n ih => exact ih (tick_inj h)
theorem ticks_zero (n : Nat) : ticks n 0 = 0 := by
  induction n with
  | zero => rfl
  | succ n ih => simp only [ticks, ih, tick_zero]
theorem ticks_eq_zero (n : Nat) {a : R} (h : ticks n a = 0) : a = 0 := ticks_inj n (h.trans (ticks_zero n).symm)
theorem ticks_add (m n : Nat) (a : R) : ticks (m + n) a = ticks n (ticks m a) := by
  induction n with
  | zero => rfl
  | succ n ih => rw [Nat.add_succ]; simp only [ticks, ih]
theorem ticks_comm (n : Nat) (a : R) : ticks n (tick a) = tick (ticks n a) := by
  rw [show tick a = ticks 1 a from rfl, ← ticks_add, Nat.add_comm, ticks_add]; rfl
theorem ticks_backs (n : Nat) (a : R) : ticks n (tocks n a) = a := by
  induction n with
  | zero => rfl
  | succ n ih => rw [show ticks (n + 1) (tocks (n + 1) a) = tick (ticks n (tock (tocks n a))) from rfl, ← ticks_comm, tick_back, ih]

/-- a byte, as the register's lowest bits -/
def low (c : UInt8) : R := BitVec.ofNat 32 c.toNat
theorem low_bit (c : UInt8) (i : Nat) : (low c).getLsbD i = (decide (i < 8) && c.toNat.testBit i) := by
  unfold low
  rw [BitVec.getLsbD_ofNat]
  by_cases h : i < 8
  · simp [h, show i < 32 by omega]
  · have : c.toNat.testBit i = false := Nat.testBit_lt_two_pow (Nat.lt_of_lt_of_le c.toNat_lt (Nat.pow_le_pow_right (by decide) (by omega : 8 ≤ i)))
    simp [h, this]

/-- the register behind a byte -/
def feed (r : R) (c : UInt8) : R := ticks 8 (r ^^^ low c)
def crun (r : R) (l : List UInt8) : R := l.foldl feed r
/-- the sum of bytes behind others -/
def msum (s : R) (l : List UInt8) : R := ~~~ crun (~~~ s) l

theorem crun_nil (r : R) : crun r [] = r := rfl
theorem crun_cons (r : R) (c : UInt8) (l : List UInt8) : crun r (c :: l) = crun (feed r c) l := rfl
theorem crun_append (r : R) (a b : List UInt8) : crun r (a ++ b) = crun (crun r a) b := by unfold crun; rw [List.foldl_append]
theorem crun_snoc (r : R) (a : List UInt8) (c : UInt8) : crun r (a ++ [c]) = feed (crun r a) c := by rw [crun_append]; rfl
theorem msum_append (s : R) (a b : List UInt8) : msum (msum s a) b = msum s (a ++ b) := by
  unfold msum; rw [BitVec.not_not, crun_append]

/-- a bitAt of a register as a register -/
def one (b : Bool) : R := if b then 1 else 0
/-- the register behind n bits -/
def rb (r : R) (f : Nat → Bool) : Nat → R
  | 0 => r
  | n + 1 => tick (rb r f n ^^^ one (f n))

theorem one_xor (a b : Bool) : one (a ^^ b) = one a ^^^ one b := by cases a <;> cases b <;> rfl
theorem xor4 (a b c d : R) : (a ^^^ b) ^^^ (c ^^^ d) = (a ^^^ c) ^^^ (b ^^^ d) := by
  rw [BitVec.xor_assoc, BitVec.xor_assoc, ← BitVec.xor_assoc b c d, BitVec.xor_comm b c, BitVec.xor_assoc c b d]
theorem rb_xor (a b : R) (f g : Nat → Bool) (n : Nat) : rb (a ^^^ b) (fun i => f i ^^ g i) n = rb a f n ^^^ rb b g n := by
  induction n with
  | zero => rfl
  | succ n ih => simp only [rb, ih, one_xor]; rw [xor4, tick_xor]
theorem rb_congr (r : R) (f g : Nat → Bool) (n : Nat) (h : ∀ i, i < n → f i = g i) : rb r f n = rb r g n := by
  induction n with
  | zero => rfl
  | succ n ih => simp only [rb]; rw [ih (fun i hi => h i (by omega)), h n (by omega)]
theorem rb_add (r : R) (f : Nat → Bool) (m n : Nat) : rb r f (m + n) = rb (rb r f m) (fun i => f (m + i)) n := by
  induction n with
  | zero => rfl
  | succ n ih => rw [Nat.add_succ]; simp only [rb, ih]

/-- shifted up, a tick shifts it down -/
theorem tick_shl (x : R) (h : x.getLsbD 31 = false) : tick (x <<< 1) = x := by
  apply BitVec.eq_of_getLsbD_eq
  intro i hi
  rw [tick_bit]
  by_cases h31 : i = 31
  · subst h31; simp only [h]; simp
  · simp [show 1 + i < 32 by omega, BitVec.getLsbD_eq_getElem hi]

/-- what the first n bits of w are -/
def lowN (w : R) : Nat → R
  | 0 => 0
  | n + 1 => lowN w n ^^^ (one (w.getLsbD n) <<< n)
theorem one_bit (b : Bool) (i : Nat) : (one b).getLsbD i = (b && decide (i = 0)) := by
  unfold one
  cases b
  · simp
  · simp [BitVec.getLsbD_one]
theorem lowN_bit (w : R) (n i : Nat) (hn : n ≤ 32) : (lowN w n).getLsbD i = (decide (i < n) && w.getLsbD i) := by
  induction n with
  | zero => simp [lowN]
  | succ n ih =>
    simp only [lowN, BitVec.getLsbD_xor, ih (by omega), BitVec.getLsbD_shiftLeft, one_bit]
    by_cases h1 : i < n
    · simp [h1, show i < n + 1 by omega]
    · by_cases h2 : i = n
      · subst h2; simp [show i < 32 by omega]
      · have : ¬ i < n + 1 := by omega
        simp [h1, this]
        intro _ _ _; omega
theorem lowN_all (w : R) : lowN w 32 = w := by
  apply BitVec.eq_of_getLsbD_eq
  intro i hi
  rw [lowN_bit w 32 i (by omega)]; simp [hi]

theorem ticks_one (b : Bool) (n : Nat) (hn : n < 32) : ticks n (one b <<< n) = one b := by
  induction n with
  | zero => simp [ticks]
  | succ n ih =>
    have e : one b <<< (n + 1) = (one b <<< n) <<< 1 := by rw [BitVec.shiftLeft_add]
    have hb : (one b <<< n).getLsbD 31 = false := by
      rw [BitVec.getLsbD_shiftLeft, one_bit]
      simp
      omega
    rw [e]
    show tick (ticks n _) = _
    rw [← ticks_comm, tick_shl _ hb, ih (by omega)]

/-- n bits at once: up to 32 -/
theorem rb_low (r w : R) (n : Nat) (hn : n ≤ 32) : rb r (fun i => w.getLsbD i) n = ticks n (r ^^^ lowN w n) := by
  induction n with
  | zero => simp [rb, ticks, lowN]
  | succ n ih =>
    simp only [rb, ih (by omega), lowN]
    rw [show r ^^^ (lowN w n ^^^ one (w.getLsbD n) <<< n) = (r ^^^ lowN w n) ^^^ (one (w.getLsbD n) <<< n) by rw [BitVec.xor_assoc]]
    show _ = tick (ticks n _)
    rw [ticks_xor n _ (one _ <<< n), ticks_one _ n (by omega)]

/-- bitAt i of bytes, counted from the lowest bitAt of the first one on -/
def bitAt (l : List UInt8) (i : Nat) : Bool := (l.getD (i / 8) 0).toNat.testBit (i % 8)

theorem feed_bits (r : R) (c : UInt8) : feed r c = rb r (fun i => c.toNat.testBit i) 8 := by
  have h : rb r (fun i => c.toNat.testBit i) 8 = rb r (fun i => (low c).getLsbD i) 8 := rb_congr _ _ _ _ (fun i hi => by rw [low_bit]; simp [hi])
  have h2 : lowN (low c) 8 = low c := by
    apply BitVec.eq_of_getLsbD_eq
    intro i hi
    rw [lowN_bit _ _ _ (by omega), low_bit]
    by_cases h : i < 8 <;> simp [h]
  rw [h, rb_low _ _ _ (by omega), h2]
  rfl

theorem crun_bits (r : R) (l : List UInt8) : crun r l = rb r (bitAt l) (8 * l.length) := by
  induction l generalizing r with
  | nil => rfl
  | cons c l ih =>
    rw [crun_cons, ih, feed_bits]
    have e : 8 * (c :: l).length = 8 + 8 * l.length := by simp; omega
    rw [e, rb_add]
    have h1 : rb r (fun i => c.toNat.testBit i) 8 = rb r (bitAt (c :: l)) 8 := rb_congr _ _ _ _ (fun i hi => by
      unfold bitAt; rw [show i / 8 = 0 by omega, show i % 8 = i by omega]; simp)
    rw [h1]
    apply rb_congr
    intro i hi
    unfold bitAt
    rw [show (8 + i) / 8 = i / 8 + 1 by omega, show (8 + i) % 8 = i % 8 by omega]
    simp

/-- THE BURST: bits within 32 neighbouring ones, turned, turn the register -/
theorem burst (e : Nat → Bool) (w : R) (first n : Nat) (he : ∀ i, i < n → e i = (decide (first ≤ i) && w.getLsbD (i - first))) (h : rb 0 e n = 0) : ∀ i, i < n → e i = false := by
  -- ahead of the first one nothing is turned
  have h0 : ∀ m, m ≤ first → m ≤ n → rb 0 e m = 0 := by
    intro m hm hn
    induction m with
    | zero => rfl
    | succ m ih =>
      simp only [rb]
      rw [ih (by omega) (by omega), he m (by omega)]
      simp only [show ¬ first ≤ m by omega, decide_false, Bool.false_and]
      exact tick_zero
  -- behind the last one it only runs on
  have h1 : ∀ k, rb 0 e n = 0 → first + 32 + k = n → rb 0 e (first + 32) = 0 := by
    intro k
    clear h
    intro h hk
    subst hk
    induction k with
    | zero => exact h
    | succ k ih =>
      have : e (first + 32 + k) = false := by
        rw [he _ (by omega)]
        rw [show first + 32 + k - first = 32 + k by omega]
        simp [BitVec.getLsbD_of_ge]
      rw [← Nat.add_assoc] at h
      simp only [rb, this] at h
      have h2 := tick_eq_zero h
      simp [one] at h2
      exact ih (fun i hi => he i (by omega)) (fun m hm hn => h0 m hm (by omega)) h2
  intro i hi
  by_cases hf : first ≤ i
  · by_cases hn : n ≤ first + 32
    · -- the end is within
      obtain ⟨k, rfl⟩ : ∃ k, n = first + k := ⟨n - first, by omega⟩
      rw [rb_add, h0 first (Nat.le_refl _) (by omega), rb_congr 0 _ (fun i => w.getLsbD i) k (fun j hj => by rw [he _ (by omega)]; simp), rb_low _ _ _ (by omega)] at h
      have h2 := ticks_eq_zero _ h
      rw [he i hi]
      have h3 : (lowN w k).getLsbD (i - first) = false := by
        have : lowN w k = 0 := by simpa using h2
        rw [this]; simp
      rw [lowN_bit _ _ _ (by omega)] at h3
      simp [show i - first < k by omega] at h3
      simp [hf, h3]
    · have h := h1 (n - (first + 32)) h (by omega)
      rw [rb_add, h0 first (Nat.le_refl _) (by omega), rb_congr 0 _ (fun i => w.getLsbD i) 32 (fun j hj => by rw [he _ (by omega)]; simp), rb_low _ _ _ (by omega)] at h
      have h2 := ticks_eq_zero _ h
      rw [lowN_all] at h2
      have hw : w = 0 := by simpa using h2
      rw [he i hi, hw]; simp
  · rw [he i hi]; simp [hf]

/-- a word's four bytes, the lowest first -/
def le4 (r : R) : List UInt8 := [UInt8.ofNat r.toNat, UInt8.ofNat (r.toNat / 256), UInt8.ofNat (r.toNat / 65536), UInt8.ofNat (r.toNat / 16777216)]

theorem le4_bit (r : R) (i : Nat) (hi : i < 32) : bitAt (le4 r) i = r.getLsbD i := by
  unfold bitAt le4
  have hb : ∀ k, (UInt8.ofNat (r.toNat / 2 ^ (8 * k))).toNat.testBit (i % 8) = r.toNat.testBit (8 * k + i % 8) := by
    intro k
    rw [UInt8.toNat_ofNat', Nat.testBit_mod_two_pow, Nat.testBit_div_two_pow]
    have : i % 8 < 8 := Nat.mod_lt _ (by decide)
    simp [this, Nat.add_comm]
  have h0 := hb 0
  have h1 := hb 1
  have h2 := hb 2
  have h3 := hb 3
  simp only [Nat.reduceMul, Nat.reducePow, Nat.div_one, Nat.zero_add, Nat.mul_zero] at h0 h1 h2 h3
  rw [BitVec.getLsbD]
  have hc : i / 8 = 0 ∨ i / 8 = 1 ∨ i / 8 = 2 ∨ i / 8 = 3 := by omega
  rcases hc with h | h | h | h <;> rw [h]
  · simp only [List.getD_cons_zero, h0]; congr 1; omega
  · simp only [List.getD_cons_succ, List.getD_cons_zero, h1]; congr 1; omega
  · simp only [List.getD_cons_succ, List.getD_cons_zero, h2]; congr 1; omega
  · simp only [List.getD_cons_succ, List.getD_cons_zero, h3]; congr 1; omega

theorem crun_le4 (r w : R) : crun r (le4 w) = ticks 32 (r ^^^ w) := by
  rw [crun_bits]
  show rb r (bitAt (le4 w)) 32 = _
  rw [rb_congr r _ (fun i => w.getLsbD i) 32 (fun i hi => le4_bit w i hi), rb_low _ _ _ (Nat.le_refl _), lowN_all]

def sealed (l : List UInt8) : List UInt8 := l ++ le4 (msum 0 l)

theorem msum_sealed (l : List UInt8) : msum 0 (sealed l) = 0x2144DF1C#32 := by
  have : msum 0 (sealed l) = ~~~ (ticks 32 (crun (~~~ 0) l ^^^ ~~~ (crun (~~~ 0) l))) := by
    unfold msum sealed
    rw [crun_append, crun_le4]
    rfl
  rw [this]
  have e : crun (~~~ 0) l ^^^ ~~~ (crun (~~~ 0) l) = BitVec.allOnes 32 := by
    apply BitVec.eq_of_getLsbD_eq
    intro i hi
    simp only [BitVec.getLsbD_xor, BitVec.getLsbD_not, BitVec.getLsbD_allOnes, hi, decide_true, Bool.true_and]
    cases (crun (~~~ 0) l).getLsbD i <;> rfl
  rw [e]
  decide +kernel

theorem le4_inj {a b : R} (h : le4 a = le4 b) : a = b := by
  apply BitVec.eq_of_getLsbD_eq
  intro i hi
  rw [← le4_bit a i hi, ← le4_bit b i hi, h]

/-- P2.6: which four bytes lead from one sum to another -/
theorem msum_le4 (s w : R) : msum s (le4 w) = ~~~ (ticks 32 (~~~ s ^^^ w)) := by unfold msum; rw [crun_le4]
theorem msum_fits (a b : R) : msum a (le4 (tocks 32 (~~~ b) ^^^ ~~~ a)) = b := by
  rw [msum_le4]
  have : ~~~ a ^^^ (tocks 32 (~~~ b) ^^^ ~~~ a) = tocks 32 (~~~ b) := by
    apply BitVec.eq_of_getLsbD_eq
    intro i hi
    simp only [BitVec.getLsbD_xor, BitVec.getLsbD_not, hi, decide_true, Bool.true_and]
    cases a.getLsbD i <;> cases (tocks 32 (~~~ b)).getLsbD i <;> rfl
  rw [this, ticks_backs, BitVec.not_not]
theorem msum_inj (s : R) {a b : R} (h : msum s (le4 a) = msum s (le4 b)) : a = b := by
  rw [msum_le4, msum_le4] at h
  have h2 : ticks 32 (~~~ s ^^^ a) = ticks 32 (~~~ s ^^^ b) := by
    have := congrArg (~~~ ·) h
    simpa using this
  have h3 := ticks_inj 32 h2
  have := congrArg (~~~ s ^^^ ·) h3
  simpa [← BitVec.xor_assoc] using this

end Go.CrcM
