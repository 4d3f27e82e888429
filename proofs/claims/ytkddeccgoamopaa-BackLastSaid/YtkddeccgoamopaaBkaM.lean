/- Layer 8, the landed disk: blocks held twice, as they are now and as they were when safe last; rows of blocks, laid flat. -/
import Derived.Test.YtkddeccgoamopaaBakM
namespace Go.BakM
/-- all that was written, in its order -/
def nowG (safe : List Bs) (L : List Put) : List Bs := L.foldl (fun g a => g.set a.pos a.b) safe
theorem nowG_snoc (safe : List Bs) (L : List Put) (a : Put) : nowG safe (L ++ [a]) = (nowG safe L).set a.pos a.b := by simp [nowG, List.foldl_append]
theorem nowG_len : ∀ (L : List Put) (safe : List Bs), (nowG safe L).length = safe.length
  | [], _ => rfl
  | a :: L, safe => (nowG_len L _).trans (by simp)
def PutOk (n : Nat) (a : Put) : Prop := a.pos < n ∧ a.b.length = 256
theorem nowG_shape {n : Nat} : ∀ (L : List Put) (safe : List Bs), Shape safe n → (∀ a ∈ L, PutOk n a) → Shape (nowG safe L) n
  | [], _, h, _ => h
  | a :: L, _, h, ha => nowG_shape L _ (shape_set h _ _ (ha a (List.mem_cons_self ..)).2) (fun x hx => ha x (List.mem_cons_of_mem _ hx))
/-- writes, those that a function takes by their numbers -/
def doAllF (φ : Nat → Bool) : List Bs → Nat → List Put → List Bs
  | safe, _, [] => safe
  | safe, i, a :: r => doAllF φ (if φ i then safe.set a.pos a.b else safe) (i + 1) r
theorem doAll_F (t : Nat) : ∀ (L : List Put) (safe : List Bs) (i : Nat), doAll t safe i L = doAllF (bitOf t) safe i L
  | [], _, _ => rfl
  | _ :: L, _, i => doAll_F t L _ (i + 1)
theorem doAllF_all (φ : Nat → Bool) (hφ : ∀ i, φ i = true) : ∀ (L : List Put) (safe : List Bs) (i : Nat), doAllF φ safe i L = nowG safe L
  | [], _, _ => rfl
  | a :: L, safe, i => by
    show doAllF φ (if φ i then safe.set a.pos a.b else safe) (i + 1) L = nowG (safe.set a.pos a.b) L
    rw [hφ i, if_pos rfl]
    exact doAllF_all φ hφ L _ (i + 1)
theorem doAll_full (L : List Put) (safe : List Bs) (i : Nat) : doAll full safe i L = nowG safe L := by
  rw [doAll_F]; exact doAllF_all _ bit_full L safe i
theorem doAllF_step (φ : Nat → Bool) (L : List Put) (g : List Bs) (i : Nat) (a : Put) (h : L[i]? = some a) : doAllF φ g i (L.drop i) = doAllF φ (if φ i then g.set a.pos a.b else g) (i + 1) (L.drop (i + 1)) := by
  obtain ⟨hl, rfl⟩ := List.getElem?_eq_some_iff.1 h
  rw [List.drop_eq_getElem_cons hl]
  rfl
theorem shape_F {n : Nat} (φ : Nat → Bool) : ∀ (L : List Put) (safe : List Bs) (i : Nat), Shape safe n → (∀ a ∈ L, PutOk n a) → Shape (doAllF φ safe i L) n
  | [], _, _, h, _ => h
  | a :: L, safe, i, h, ha => by
    unfold doAllF
    refine shape_F φ L _ (i + 1) ?_ (fun x hx => ha x (List.mem_cons_of_mem _ hx))
    split
    · exact shape_set h _ _ (ha a (List.mem_cons_self ..)).2
    · exact h
theorem nowG_at {s : DS} {N : Nat} (ok : Ok s N) (i : Nat) : (nowG s.safe s.L).getD i [] = now s i := by
  rw [← doAll_full s.L s.safe 0]
  exact doAll_get full i s.L s.safe 0 (fun a ha => (ok.puts a ha).1) (fun j _ => bit_full _)

/-! ### rows of blocks, laid flat -/
def Wide (row : List Bs) : Prop := ∀ x ∈ row, x.length = 256
theorem flat_len : ∀ {row : List Bs}, Wide row → row.flatten.length = row.length * 256
  | [], _ => rfl
  | x :: row, h => by
    rw [List.flatten_cons, List.length_append, h x (List.mem_cons_self ..), flat_len (fun y hy => h y (List.mem_cons_of_mem _ hy)), List.length_cons]
    omega
theorem flat_page : ∀ {row : List Bs} (k : Nat), Wide row → k < row.length → (row.flatten.drop (k * 256)).take 256 = row.getD k []
  | [], _, _, hk => by simp at hk
  | x :: row, 0, h, _ => by
    have hx := h x (List.mem_cons_self ..)
    rw [Nat.zero_mul, List.drop_zero, List.flatten_cons, ← hx, List.take_left]
    rfl
  | x :: row, k + 1, h, hk => by
    have hx := h x (List.mem_cons_self ..)
    rw [List.flatten_cons, List.drop_append, List.drop_of_length_le (by omega), List.nil_append, hx, show (k + 1) * 256 - 256 = k * 256 by omega, flat_page k (fun y hy => h y (List.mem_cons_of_mem _ hy)) (by simpa using hk)]
    rfl
theorem flat_set : ∀ {row : List Bs} (k : Nat) (b : Bs), Wide row → k < row.length → (row.set k b).flatten = row.flatten.take (k * 256) ++ b ++ row.flatten.drop (k * 256 + 256)
  | [], _, _, _, hk => by simp at hk
  | x :: row, 0, b, h, _ => by
    have hx := h x (List.mem_cons_self ..)
    rw [Nat.zero_mul, List.take_zero, List.nil_append, List.set_cons_zero, List.flatten_cons, List.flatten_cons, List.drop_append, List.drop_of_length_le (by omega), List.nil_append, hx, show 0 + 256 - 256 = 0 by omega, List.drop_zero]
  | x :: row, k + 1, b, h, hk => by
    have hx := h x (List.mem_cons_self ..)
    rw [List.set_cons_succ, List.flatten_cons, List.flatten_cons, flat_set k b (fun y hy => h y (List.mem_cons_of_mem _ hy)) (by simpa using hk), List.take_append, List.drop_append, List.take_of_length_le (i := (k + 1) * 256) (l := x) (by omega), List.drop_of_length_le (i := (k + 1) * 256 + 256) (l := x) (by omega), List.nil_append, hx,
      show (k + 1) * 256 - 256 = k * 256 by omega, show (k + 1) * 256 + 256 - 256 = k * 256 + 256 by omega]
    simp only [List.append_assoc]
theorem wide_of {G : List Bs} {n : Nat} (h : Shape G n) : Wide G := fun x hx => by
  obtain ⟨k, hk, rfl⟩ := List.getElem_of_mem hx
  have := h.blocks k (by rw [← h.len]; exact hk)
  rw [List.getD_eq_getElem?_getD, List.getElem?_eq_getElem hk] at this
  exact this
theorem Ok.putsOk {s : DS} {N : Nat} (ok : Ok s N) : ∀ a ∈ s.L, PutOk s.safe.length a := ok.puts
end Go.BakM
