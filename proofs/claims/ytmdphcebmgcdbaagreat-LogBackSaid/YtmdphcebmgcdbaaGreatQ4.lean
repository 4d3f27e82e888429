/- Merged: FlbM FlbG Mny LaxG LaxH Slo LawLogE LogZ LawLogI LawLogJ LawLogK FlaR KeyI RecJ LogI LgaM PagR PagT PagG PagJ PagQ -/
import Derived.Great.Walk
import Derived.Carry
import Derived.BigQuiet
import Derived.Deep.QuietTactic
import Derived.BigRegion
import Derived.Lib.Hide
import Derived.Laws.Rows
import Derived.Test.YtmdphcebmgcdbaaGreatQ1
import Derived.Test.YtmdphcebmgcdbaaGreatQ2
import Derived.Test.YtmdphcebmgcdbaaGreatQ3
set_option linter.unusedVariables false
section
namespace Go.FlaM
def nowG (pp : Nat) (safe : List (List Bs)) (L : List Act) : List (List Bs) := L.foldl (fun g a => doOne pp g a 128) safe
theorem nowG_snoc (pp : Nat) (safe : List (List Bs)) (L : List Act) (a : Act) : nowG pp safe (L ++ [a]) = doOne pp (nowG pp safe L) a 128 := by simp [nowG, List.foldl_append]
def ActOk (n pp : Nat) (a : Act) : Prop := a.seg < n ∧ ((0 ≤ a.page ∧ a.page < (pp : Int) ∧ a.b.length = 128) ∨ (a.page = -1 ∧ a.b = []))
theorem nowG_shape {n pp : Nat} : ∀ (L : List Act) (safe : List (List Bs)), Shape safe n pp → (∀ a ∈ L, ActOk n pp a) → Shape (nowG pp safe L) n pp
  | [], _, h, _ => h
  | a :: L, safe, h, ha => nowG_shape L _ (shape_one h a (ha a (List.mem_cons_self ..)) 128) (fun x hx => ha x (List.mem_cons_of_mem _ hx))
def doAllF (pp : Nat) (φ : Nat → Int) : List (List Bs) → Nat → List Act → List (List Bs)
  | safe, _, [] => safe
  | safe, i, a :: r => doAllF pp φ (doOne pp safe a (φ i)) (i + 1) r
theorem doOne_big {pp : Nat} (hpp : pp ≤ 64) (safe : List (List Bs)) (a : Act) (e e' : Int) (h : 128 ≤ e) (h' : 128 ≤ e') : doOne pp safe a e = doOne pp safe a e' := by
  unfold doOne
  rw [show min e.toNat 128 = min e'.toNat 128 by omega, show min e.toNat pp = min e'.toNat pp by omega]
theorem doAllF_big {pp : Nat} (hpp : pp ≤ 64) (φ : Nat → Int) (hφ : ∀ i, 128 ≤ φ i) : ∀ (L : List Act) (safe : List (List Bs)) (i : Nat), doAllF pp φ safe i L = nowG pp safe L
  | [], _, _ => rfl
  | a :: L, safe, i => by
    show doAllF pp φ (doOne pp safe a (φ i)) (i + 1) L = nowG pp (doOne pp safe a 128) L
    rw [doOne_big hpp safe a (φ i) 128 (hφ i) (by omega)]
    exact doAllF_big hpp φ hφ L _ (i + 1)
theorem doAll_whole {pp : Nat} (fates : List Int) : ∀ (L : List Act) (safe : List (List Bs)) (i : Nat), (∀ j, j < L.length → fates.getD (i + j) 0 = 128) → doAll pp fates safe i L = nowG pp safe L
  | [], _, _, _ => rfl
  | a :: L, safe, i, h => by
    show doAll pp fates (doOne pp safe a (fates.getD i 0)) (i + 1) L = nowG pp (doOne pp safe a 128) L
    have h0 : fates.getD i 0 = 128 := h 0 (Nat.zero_lt_succ _)
    rw [h0]
    exact doAll_whole fates L _ (i + 1) (fun j hj => by have := h (j + 1) (Nat.succ_lt_succ hj); rw [show i + 1 + j = i + (j + 1) by omega]; exact this)
theorem doAllF_step (pp : Nat) (φ : Nat → Int) (L : List Act) (g : List (List Bs)) (i : Nat) (a : Act) (h : L[i]? = some a) : doAllF pp φ g i (L.drop i) = doAllF pp φ (doOne pp g a (φ i)) (i + 1) (L.drop (i + 1)) := by
  obtain ⟨hl, rfl⟩ := List.getElem?_eq_some_iff.1 h
  rw [List.drop_eq_getElem_cons hl]
  rfl
def Wide (row : List Bs) : Prop := ∀ x ∈ row, x.length = 128
theorem flat_len : ∀ {row : List Bs}, Wide row → row.flatten.length = row.length * 128
  | [], _ => rfl
  | x :: row, h => by
    rw [List.flatten_cons, List.length_append, h x (List.mem_cons_self ..), flat_len (fun y hy => h y (List.mem_cons_of_mem _ hy)), List.length_cons]
    omega
theorem flat_page : ∀ {row : List Bs} (k : Nat), Wide row → k < row.length → (row.flatten.drop (k * 128)).take 128 = row.getD k []
  | [], _, _, hk => by simp at hk
  | x :: row, 0, h, _ => by
    have hx := h x (List.mem_cons_self ..)
    rw [Nat.zero_mul, List.drop_zero, List.flatten_cons, ← hx, List.take_left]
    rfl
  | x :: row, k + 1, h, hk => by
    have hx := h x (List.mem_cons_self ..)
    rw [List.flatten_cons, List.drop_append, List.drop_of_length_le (by omega), List.nil_append, hx, show (k + 1) * 128 - 128 = k * 128 by omega, flat_page k (fun y hy => h y (List.mem_cons_of_mem _ hy)) (by simpa using hk)]
    rfl
theorem flat_set : ∀ {row : List Bs} (k : Nat) (b : Bs), Wide row → k < row.length → (row.set k b).flatten = row.flatten.take (k * 128) ++ b ++ row.flatten.drop ((k + 1) * 128)
  | [], _, _, _, hk => by simp at hk
  | x :: row, 0, b, h, _ => by
    have hx := h x (List.mem_cons_self ..)
    rw [Nat.zero_mul, List.take_zero, List.nil_append, List.set_cons_zero, List.flatten_cons, List.flatten_cons, List.drop_append, List.drop_of_length_le (by omega), List.nil_append, hx, show (0 + 1) * 128 - 128 = 0 by omega, List.drop_zero]
  | x :: row, k + 1, b, h, hk => by
    have hx := h x (List.mem_cons_self ..)
    rw [List.set_cons_succ, List.flatten_cons, List.flatten_cons, flat_set k b (fun y hy => h y (List.mem_cons_of_mem _ hy)) (by simpa using hk), List.take_append, List.drop_append, List.take_of_length_le (i := (k + 1) * 128) (l := x) (by omega), List.drop_of_length_le (i := (k + 1 + 1) * 128) (l := x) (by omega), List.nil_append, hx,
      show (k + 1) * 128 - 128 = k * 128 by omega, show (k + 1 + 1) * 128 - 128 = (k + 1) * 128 by omega]
    simp only [List.append_assoc]
theorem wide_set {row : List Bs} (h : Wide row) (k : Nat) (b : Bs) (hb : b.length = 128) : Wide (row.set k b) := fun x hx => by
  rcases List.mem_or_eq_of_mem_set hx with h1 | rfl
  · exact h x h1
  · exact hb
theorem wide_of {G : List (List Bs)} {n pp : Nat} (h : Shape G n pp) (i : Nat) (hi : i < n) : Wide (G.getD i []) := fun x hx => by
  obtain ⟨k, hk, rfl⟩ := List.getElem_of_mem hx
  have hk2 : k < pp := by rw [h.rows i hi] at hk; exact hk
  have := h.pages i k hi hk2
  unfold pageAt at this
  rw [List.getD_eq_getElem?_getD, List.getElem?_eq_getElem hk] at this
  exact this
def wipeTo (row : List Bs) : Nat → List Bs
  | 0 => row
  | m + 1 => (wipeTo row m).set m blank
theorem wipeTo_len (row : List Bs) (m : Nat) : (wipeTo row m).length = row.length := by
  induction m with
  | zero => rfl
  | succ m ih => rw [wipeTo, List.length_set, ih]
theorem wide_wipe {row : List Bs} (h : Wide row) (m : Nat) : Wide (wipeTo row m) := by
  induction m with
  | zero => exact h
  | succ m ih => exact wide_set ih m blank blank_len
theorem clear_row (G : List (List Bs)) (i m : Nat) (hi : i < G.length) : clearTo G i m = G.set i (wipeTo (G.getD i []) m) := by
  induction m with
  | zero =>
    show G = G.set i (G.getD i [])
    rw [List.getD_eq_getElem?_getD, List.getElem?_eq_getElem hi]
    exact (List.set_getElem_self hi).symm
  | succ m ih =>
    show setPage (clearTo G i m) i m blank = G.set i ((wipeTo (G.getD i []) m).set m blank)
    rw [ih]
    unfold setPage
    rw [getD_set_self _ _ _ _ hi, List.set_set]
end Go.FlaM
namespace Go.Proofs.YtmdphcebmgcdbaaGreat
open Go.RowKit Go.Own
namespace Fla
open Go.FlaM Byt
theorem nowG_at {s : FS} {N : Nat} (ok : Ok s N) (i k : Nat) (hi : i < s.safe.length) (hk : k < s.pp) : pageAt (nowG s.pp s.safe s.L) i k = now s i k := by
  have h := doAll_at (n := s.safe.length) ok.pp.2 (List.replicate s.L.length 128) i k hi hk s.L s.safe 0 ok.shape ok.acts (fun j hj => by rw [Nat.zero_add]; simp [List.getD, hj])
  rw [doAll_whole _ _ _ 0 (fun j hj => by rw [Nat.zero_add]; simp [List.getD, hj])] at h
  exact h
end Fla
end Go.Proofs.YtmdphcebmgcdbaaGreat
end
section
namespace Go.Own
open Go.RowKit Go.FlaM
section
variable {t e : TypeId}
def pRow (e : TypeId) (r : Option Addr × Nat) (row : List Bs) : Asn := ARow e 128 (gsl r row.length) row.length (row.flatten.map byteV)
def pParts (t e : TypeId) (v : Value) (rs : List (Option Addr × Nat)) (rows : List (List Bs)) : List Asn := gOuter t v rs rows :: List.zipWith (pRow e) rs rows
def PGrid (t e : TypeId) (v : Value) (rows : List (List Bs)) : Asn := AEx (α := { rs : List (Option Addr × Nat) // rs.length = rows.length }) fun rs => AJoin (pParts t e v rs.1 rows)
variable {B : Nat} {w0 w w' : World} {Ps Qs : List Asn} {v : Value} {rows : List (List Bs)}
theorem St.pOpen (h : St B w0 w (PGrid t e v rows :: Ps)) : ∃ rs, rs.length = rows.length ∧ St B w0 w (pParts t e v rs rows ++ Ps) := by
  obtain ⟨⟨rs, hl⟩, h⟩ := h.openE
  exact ⟨rs, hl, h.openJ⟩
theorem St.pClose {rs : List (Option Addr × Nat)} (hl : rs.length = rows.length) (h : St B w0 w (pParts t e v rs rows ++ Ps)) : St B w0 w (PGrid t e v rows :: Ps) :=
  St.closeE (α := { rs : List (Option Addr × Nat) // rs.length = rows.length }) (P := fun rs => AJoin (pParts t e v rs.1 rows)) ⟨rs, hl⟩ h.closeJ
theorem St.pRowAt (H : St B w0 w (PGrid t e v rows :: Ps)) (i : Nat) (row : List Bs) (hi : rows[i]? = some row) :
    ∃ (g c : Nat) (r : Option Addr × Nat) (Qs : List Asn), v = .slice (some ⟨g, 0, none⟩) rows.length c ∧ w.cell? ⟨g, i, none⟩ = some (gsl r row.length) ∧ St B w0 w (pRow e r row :: Qs) ∧
      ∀ (w' : World) (row' : List Bs), row'.length = row.length → St B w0 w' (pRow e r row' :: Qs) → St B w0 w' (PGrid t e v (rows.set i row') :: Ps) := by
  obtain ⟨rs, hl, h⟩ := H.pOpen
  have hil := (List.getElem?_eq_some_iff.1 hi).1
  have hr : rs[i]? = some rs[i] := List.getElem?_eq_getElem (by omega)
  have h0 : (pParts t e v rs rows ++ Ps)[0]? = some (gOuter t v rs rows) := rfl
  obtain ⟨ao0, c, rfl⟩ := h.rowForm 0 h0
  obtain ⟨g, rfl, ⟨u, hu, hc⟩, _, _⟩ := h.rowAt 0 h0 i (by omega)
  rw [zip_at _ _ _ _ _ _ hr hi] at hu
  cases hu
  have hz := zip_at (pRow e) rs rows i _ _ hr hi
  have hzl := (List.getElem?_eq_some_iff.1 hz).1
  have h1 : (pParts t e (.slice (some ⟨g, 0, none⟩) rows.length c) rs rows ++ Ps)[i + 1]? = some (pRow e rs[i] row) := by
    unfold pParts
    rw [List.cons_append, List.getElem?_cons_succ, List.getElem?_append_left hzl]
    exact hz
  refine ⟨g, c, rs[i], _, rfl, hc, h.front (i + 1) h1, fun w' row' hlen h' => ?_⟩
  refine St.pClose (rs := rs) (by rw [List.length_set]; exact hl) ?_
  have h2 := h'.back (i + 1) (List.getElem?_eq_some_iff.1 h1).1
  have e1 : (pParts t e (.slice (some ⟨g, 0, none⟩) rows.length c) rs rows ++ Ps).set (i + 1) (pRow e rs[i] row') = pParts t e (.slice (some ⟨g, 0, none⟩) rows.length c) rs (rows.set i row') ++ Ps := by
    unfold pParts
    rw [List.cons_append, List.set_cons_succ, List.set_append_left _ _ hzl, zip_set _ _ _ _ _ _ hr, List.cons_append]
    congr 1
    unfold gOuter
    rw [List.length_set, zip_same (fun r row => gsl r row.length) (fun r row => gsl r row.length) rs rows i row row' hi (fun r => by rw [hlen])]
  rw [← e1]
  exact h2
theorem perm_put {α : Type _} (Z : List α) (Ps : List α) (i : Nat) (x y : α) (h : Z[i]? = some y) : (Z ++ x :: Ps).Perm (y :: (Z.set i x ++ Ps)) := by
  obtain ⟨hl, rfl⟩ := List.getElem?_eq_some_iff.1 h
  have p1 : (Z ++ x :: Ps).Perm (x :: (Z ++ Ps)) := List.perm_middle
  have p2 : (Z[i] :: Z.eraseIdx i).Perm Z := erase_perm Z i hl
  have hl2 : i < (Z.set i x).length := by simpa using hl
  have p3 := erase_perm (Z.set i x) i hl2
  rw [List.getElem_set_self, List.eraseIdx_set_eq] at p3
  refine p1.trans ?_
  refine ((p2.symm.append_right Ps).cons x).trans ?_
  refine (List.Perm.swap Z[i] x _).trans ?_
  exact (p3.append_right Ps).cons _
theorem St.pPut {r : Option Addr × Nat} {row' : List Bs} (H : St B w0 w (PGrid t e v rows :: pRow e r row' :: Ps)) (i : Nat) (hi : i < rows.length) :
    ∃ (g c : Nat), v = .slice (some ⟨g, 0, none⟩) rows.length c ∧ (∃ u, w.cell? ⟨g, i, none⟩ = some u) ∧ w.frozen? ⟨g, i, none⟩ = false ∧ St B w0 (w.setCell ⟨g, i, none⟩ (gsl r row'.length)) (PGrid t e v (rows.set i row') :: Ps) := by
  obtain ⟨rs, hl, h⟩ := H.pOpen
  have hr : rs[i]? = some rs[i] := List.getElem?_eq_getElem (by omega)
  have hi2 : rows[i]? = some rows[i] := List.getElem?_eq_getElem hi
  have h0 : (pParts t e v rs rows ++ pRow e r row' :: Ps)[0]? = some (gOuter t v rs rows) := rfl
  obtain ⟨ao0, c, rfl⟩ := h.rowForm 0 h0
  obtain ⟨g, rfl, ⟨u, hu, hc⟩, hf, put⟩ := h.rowAt 0 h0 i (by omega)
  refine ⟨g, c, rfl, ⟨u, hc⟩, hf, ?_⟩
  have hp := put (gsl r row'.length)
  unfold pParts at hp
  rw [List.cons_append, List.set_cons_zero] at hp
  have hz := zip_at (pRow e) rs rows i _ _ hr hi2
  have h2 := (hp.perm ((perm_put _ Ps i (pRow e r row') _ hz).cons _)).drop2
  refine St.pClose (rs := rs.set i r) (by rw [List.length_set, List.length_set]; exact hl) ?_
  have e1 : pParts t e (.slice (some ⟨g, 0, none⟩) rows.length c) (rs.set i r) (rows.set i row') = gOuter t (.slice (some ⟨g, 0, none⟩) rows.length c) (rs.set i r) (rows.set i row') :: (List.zipWith (pRow e) rs rows).set i (pRow e r row') := by
    unfold pParts
    congr 1
    apply List.ext_getElem?
    intro j
    rw [List.getElem?_zipWith]
    by_cases hj : i = j
    · subst hj
      rw [List.getElem?_set_self (by omega), List.getElem?_set_self hi, List.getElem?_set_self (by rw [List.length_zipWith]; omega)]
    · rw [List.getElem?_set_ne hj, List.getElem?_set_ne hj, List.getElem?_set_ne hj, List.getElem?_zipWith]
  have e2 : gOuter t (.slice (some ⟨g, 0, none⟩) rows.length c) (rs.set i r) (rows.set i row') = ARow t 1 (.slice (some ⟨g, 0, none⟩) rows.length c) rows.length ((List.zipWith (fun r row => gsl r row.length) rs rows).set i (gsl r row'.length)) := by
    unfold gOuter
    rw [List.length_set]
    congr 1
    apply List.ext_getElem?
    intro j
    rw [List.getElem?_zipWith]
    by_cases hj : i = j
    · subst hj
      rw [List.getElem?_set_self (by omega), List.getElem?_set_self hi, List.getElem?_set_self (by rw [List.length_zipWith]; omega)]
    · rw [List.getElem?_set_ne hj, List.getElem?_set_ne hj, List.getElem?_set_ne hj, List.getElem?_zipWith]
  rw [e1, e2, List.cons_append]
  exact h2
theorem St.freshRows {e : TypeId} {size : Nat} {Q : Asn} : ∀ (n : Nat) {Ps : List Asn}, St B w0 w (Q :: Ps) → St B w0 w (Q :: (List.replicate n (ARow e size (.slice none 0 0) 0 []) ++ Ps))
  | 0, _, h => h
  | n + 1, _, h => by
    rw [List.replicate_succ, List.cons_append]
    exact (St.freshRows n h).rowFresh.swap2
theorem St.pMake {P : Program} {t2 : TypeId} {bytes : Nat} (O : One P t2 t (.slice none 0 0) bytes) (H : St B w0 w Ps) (kl kc : IntKind) (n : Nat) (hn : n ≤ 100000000) (b2 : bytes ≤ 1000) :
    ∃ w' g, (Instr.makeSlice t2 (.int kl (n : Int)) (.int kc (n : Int))).run P w = .ok (.slice (some ⟨g, 0, none⟩) n n) w' ∧ St B w0 w' (PGrid t e (.slice (some ⟨g, 0, none⟩) n n) (List.replicate n []) :: Ps) := by
  obtain ⟨w', g, hr, h⟩ := St.oneMake O H kl kc n hn b2 rfl
  refine ⟨w', g, hr, St.pClose (rs := List.replicate n (none, 0)) (by simp) ?_⟩
  have h2 := St.freshRows (e := e) (size := 128) n h
  have e1 : pParts t e (.slice (some ⟨g, 0, none⟩) n n) (List.replicate n (none, 0)) (List.replicate n []) = ARow t 1 (.slice (some ⟨g, 0, none⟩) n n) n (List.replicate n (.slice none 0 0)) :: List.replicate n (ARow e 128 (.slice none 0 0) 0 []) := by
    unfold pParts gOuter
    rw [List.zipWith_replicate, List.zipWith_replicate, List.length_replicate, Nat.min_self]
    rfl
  rw [e1, List.cons_append]
  exact h2
end
end Go.Own
end
section
namespace Go.Own
open Go.RowKit Go.FlaM
section
variable {B : Nat} {w0 w : World} {Ps : List Asn} {t e : TypeId}
variable {v : Value} {rows : List (List Bs)}
theorem St.pRowAtX (H : St B w0 w (PGrid t e v rows :: Ps)) (i : Nat) (row : List Bs) (hi : rows[i]? = some row) :
    ∃ (g c : Nat) (r : Option Addr × Nat) (Qs : List Asn), v = .slice (some ⟨g, 0, none⟩) rows.length c ∧ w.cell? ⟨g, i, none⟩ = some (gsl r row.length) ∧ St B w0 w (pRow e r row :: Qs) ∧
      ∀ (w' : World) (row' : List Bs) (Xs : List Asn), row'.length = row.length → St B w0 w' (Xs ++ pRow e r row' :: Qs) → St B w0 w' (Xs ++ PGrid t e v (rows.set i row') :: Ps) := by
  obtain ⟨rs, hl, h⟩ := H.pOpen
  have hil := (List.getElem?_eq_some_iff.1 hi).1
  have hr : rs[i]? = some rs[i] := List.getElem?_eq_getElem (by omega)
  have h0 : (pParts t e v rs rows ++ Ps)[0]? = some (gOuter t v rs rows) := rfl
  obtain ⟨ao0, c, rfl⟩ := h.rowForm 0 h0
  obtain ⟨g, rfl, ⟨u, hu, hc⟩, _, _⟩ := h.rowAt 0 h0 i (by omega)
  rw [zip_at _ _ _ _ _ _ hr hi] at hu
  cases hu
  have hz := zip_at (pRow e) rs rows i _ _ hr hi
  have hzl := (List.getElem?_eq_some_iff.1 hz).1
  have h1 : (pParts t e (.slice (some ⟨g, 0, none⟩) rows.length c) rs rows ++ Ps)[i + 1]? = some (pRow e rs[i] row) := by
    unfold pParts
    rw [List.cons_append, List.getElem?_cons_succ, List.getElem?_append_left hzl]
    exact hz
  refine ⟨g, c, rs[i], _, rfl, hc, h.front (i + 1) h1, fun w' row' Xs hlen h' => ?_⟩
  have hlt := (List.getElem?_eq_some_iff.1 h1).1
  have e1 : (pParts t e (.slice (some ⟨g, 0, none⟩) rows.length c) rs rows ++ Ps).set (i + 1) (pRow e rs[i] row') = pParts t e (.slice (some ⟨g, 0, none⟩) rows.length c) rs (rows.set i row') ++ Ps := by
    unfold pParts
    rw [List.cons_append, List.set_cons_succ, List.set_append_left _ _ hzl, zip_set _ _ _ _ _ _ hr, List.cons_append]
    congr 1
    unfold gOuter
    rw [List.length_set, zip_same (fun r row => gsl r row.length) (fun r row => gsl r row.length) rs rows i row row' hi (fun r => by rw [hlen])]
  have p1 := erase_perm ((pParts t e (.slice (some ⟨g, 0, none⟩) rows.length c) rs rows ++ Ps).set (i + 1) (pRow e rs[i] row')) (i + 1) (by simpa using hlt)
  rw [List.getElem_set_self, List.eraseIdx_set_eq, e1] at p1
  have h2 := (h'.perm (p1.append_left Xs)).perm_app
  have h3 := St.pClose (rs := rs) (by rw [List.length_set]; exact hl) h2
  exact h3.perm (by
    have : (PGrid t e (.slice (some ⟨g, 0, none⟩) rows.length c) (rows.set i row') :: (Ps ++ Xs)).Perm (Xs ++ (PGrid t e (.slice (some ⟨g, 0, none⟩) rows.length c) (rows.set i row') :: Ps)) := by
      rw [← List.cons_append]; exact List.perm_append_comm
    exact this)
end
end Go.Own
end
section
namespace Go.Own
open Go.RowKit
def updL (L : Nat → Bool) (i : Nat) : Nat → Bool := fun j => if j = i then true else L j
section
variable {P : Program} {ops : Array Oper} {md : Region.Mode} {CL : (Nat → Bool) → World → Prop}
structure Comes (ops : Array Oper) (md : Region.Mode) (i : Nat) (o : Oper) (L : Nat → Bool) : Prop where
  not : L i = false
  closed : ∀ (j : Nat) (oj : Oper), ops[j]? = some oj → L j = true → ∀ e ∈ oj.after, Region.binds md e = true → L e.on = true
  ready : ∀ e ∈ o.after, Region.binds md e = true → L e.on = true
inductive StepG (P : Program) (ops : Array Oper) (md : Region.Mode) (CL : (Nat → Bool) → World → Prop) (i : Nat) (o : Oper) (a : Act) : Act → Prop
  | skip (hw : Region.wanted o (yielded ops a.tmps) = false) (hq : ∀ L w, CL L w → Comes ops md i o L → CL (updL L i) w) : StepG P ops md CL i o a (a.put o.dst undef)
  | val (v : Value) (hw : Region.wanted o (yielded ops a.tmps) = true)
      (h : ∀ L a1 w, CL L w → Comes ops md i o L → (∀ t ∈ o.looksAt ops, a1.tmps.getD t undef = a.tmps.getD t undef) → ∀ (K : Act → World → Prop) (Q : Exit → Act → World → Prop), (∀ w', CL (updL L i) w' → K (a1.put o.dst v) w') → o.wp P a1 w K Q) : StepG P ops md CL i o a (a.put o.dst v)
structure InvG (md : Region.Mode) (ops : Array Oper) (CL : (Nat → Bool) → World → Prop) (a0 : Act) (S : Nat → Act) (listed : Array Bool) (a1 : Act) (w1 : World) : Prop where
  world : CL (fun j => listed.getD j false) w1
  defers : a1.defers = a0.defers
  size : a1.tmps.size = a0.tmps.size
  lsize : listed.size = ops.size
  closed : ∀ (j : Nat) (oj : Oper), ops[j]? = some oj → listed.getD j false = true → ∀ e ∈ oj.after, Region.binds md e = true → listed.getD e.on false = true
  done : ∀ (j : Nat) (oj : Oper) (d : Tmp), ops[j]? = some oj → listed.getD j false = true → oj.dst = some d → a1.tmps.getD d undef = (S (j + 1)).tmps.getD d undef
  rest : ∀ t, (∀ (j : Nat) (oj : Oper), ops[j]? = some oj → listed.getD j false = true → oj.dst ≠ some t) → a1.tmps.getD t undef = a0.tmps.getD t undef
theorem StepG.put {i : Nat} {o : Oper} {a a' : Act} (h : StepG P ops md CL i o a a') : ∃ v, a' = a.put o.dst v := by
  cases h with
  | skip => exact ⟨_, rfl⟩
  | val v => exact ⟨v, rfl⟩
theorem sizesG {a0 : Act} {S : Nat → Act} (hS0 : S 0 = a0) (hst : ∀ (k : Nat) (o : Oper), ops[k]? = some o → StepG P ops md CL k o (S k) (S (k + 1))) :
    ∀ k, k ≤ ops.size → (S k).tmps.size = a0.tmps.size ∧ (S k).defers = a0.defers
  | 0, _ => by rw [hS0]; exact ⟨rfl, rfl⟩
  | k + 1, hk => by
    have h := sizesG hS0 hst k (by omega)
    obtain ⟨v, g⟩ := (hst k ops[k] (Array.getElem?_eq_getElem (by omega))).put
    rw [g]
    exact ⟨(put_size _ _ _).trans h.1, (put_defers _ _ _).trans h.2⟩
theorem otherG {a0 : Act} {S : Nat → Act} (hS0 : S 0 = a0) (hst : ∀ (k : Nat) (o : Oper), ops[k]? = some o → StepG P ops md CL k o (S k) (S (k + 1)))
    (hin : ∀ (k : Nat) (o : Oper) (d : Tmp), ops[k]? = some o → o.dst = some d → d < a0.tmps.size) {t : Tmp} (m : Nat) :
    ∀ q, m + q ≤ ops.size → (∀ j oj, m ≤ j → j < m + q → ops[j]? = some oj → oj.dst ≠ some t) → (S (m + q)).tmps.getD t undef = (S m).tmps.getD t undef
  | 0, _, _ => rfl
  | q + 1, hq, hno => by
    have ih := otherG hS0 hst hin (t := t) m q (by omega) (fun j oj h1 h2 => hno j oj h1 (by omega))
    have hk : ops[m + q]? = some ops[m + q] := Array.getElem?_eq_getElem (by omega)
    have hs := sizesG hS0 hst (m + q) (by omega)
    obtain ⟨v, g⟩ := (hst (m + q) _ hk).put
    refine Eq.trans ?_ ih
    show (S (m + q + 1)).tmps.getD t undef = _
    rw [g]
    have hd := hno (m + q) _ (by omega) (by omega) hk
    cases hdd : (ops[m + q]).dst with
    | none => rfl
    | some d => rw [put_getD _ d t v (by rw [hs.1]; exact hin _ _ d hk hdd), if_neg (fun e => hd (by rw [hdd, e]))]
theorem wpAny_G {Q' : Exit → Act → World → Prop} {a0 : Act} {S : Nat → Act} (hS0 : S 0 = a0)
    (hst : ∀ (k : Nat) (o : Oper), ops[k]? = some o → StepG P ops md CL k o (S k) (S (k + 1)))
    (hin : ∀ (k : Nat) (o : Oper) (d : Tmp), ops[k]? = some o → o.dst = some d → d < a0.tmps.size)
    (hone : ∀ (j k : Nat) (x y : Oper) (d : Tmp), ops[j]? = some x → ops[k]? = some y → x.dst = some d → y.dst = some d → j = k)
    (hlex : ∀ (i : Nat) (oi : Oper), ops[i]? = some oi → (∀ e ∈ oi.after, Region.binds md e = true → e.on < i) ∧ ∀ j oj, i < j → ops[j]? = some oj → (∃ e ∈ oj.after, Region.binds md e = true ∧ e.on = i) ∨ oi.apart ops oj = true)
    (hfin : ∀ (a1 : Act) (w1 : World) (L : Nat → Bool), CL L w1 → (∀ i, i < ops.size → L i = true) → a1 = S ops.size → Q' .normal a1 w1) :
    ∀ (fuel : Nat) (listed : Array Bool) (a1 : Act) (w1 : World), (∃ s, (List.range ops.size).filter (fun i => !listed.getD i true) = s ∧ s.length = fuel) → InvG md ops CL a0 S listed a1 w1 → wpAny P md ops Q' fuel listed a1 w1 := by
  have hready : ∀ listed : Array Bool, listed.size = ops.size → Region.ready md ops listed = [] → ∀ i, i < ops.size → listed.getD i true = true := by
    intro listed hls hr i
    induction i using Nat.strongRecOn with
    | _ i ih =>
      intro hi
      rcases hb : listed.getD i true with _ | _
      · exfalso
        have : i ∈ Region.ready md ops listed := by
          refine mem_ready.2 ⟨hb, ops[i], Array.getElem?_eq_getElem hi, fun e he hbd => ?_⟩
          have h1 := (hlex i _ (Array.getElem?_eq_getElem hi)).1 e he hbd
          have h2 := ih e.on h1 (by omega)
          have h3 : e.on < listed.size := by omega
          simpa [h3] using h2
        rw [hr] at this
        cases this
      · rfl
  have hend : ∀ (fuel : Nat) (listed : Array Bool) (a1 : Act) (w1 : World), InvG md ops CL a0 S listed a1 w1 → (∀ i, i < ops.size → listed.getD i true = true) → wpAny P md ops Q' fuel listed a1 w1 := by
    intro fuel listed a1 w1 hI hall
    have hsz := sizesG hS0 hst ops.size (Nat.le_refl _)
    have hallf : ∀ i, i < ops.size → listed.getD i false = true := by
      intro i hi
      have h1 := hall i hi
      have h2 : i < listed.size := by rw [hI.lsize]; exact hi
      simpa [h2] using h1
    have hnr : Region.ready md ops listed = [] := by
      apply List.eq_nil_iff_forall_not_mem.2
      intro i hi
      obtain ⟨h0, o, ho, _⟩ := mem_ready.1 hi
      have := hall i (Array.getElem?_eq_some_iff.1 ho).1
      rw [this] at h0; cases h0
    refine wpAny_done hnr (hfin a1 w1 _ hI.world hallf ?_) fuel
    have hslot : ∀ t, a1.tmps.getD t undef = (S ops.size).tmps.getD t undef := by
      intro t
      by_cases hw : ∃ (j : Nat) (oj : Oper), ops[j]? = some oj ∧ oj.dst = some t
      · obtain ⟨j, oj, hj, hd⟩ := hw
        have hjl := (Array.getElem?_eq_some_iff.1 hj).1
        have h1 := hI.done j oj t hj (hallf j hjl) hd
        have h2 := otherG hS0 hst hin (t := t) (j + 1) (ops.size - (j + 1)) (by omega) (fun i oi h1 h2 hi hdi => by
          have := hone i j oi oj t hi hj hdi hd; omega)
        rw [show j + 1 + (ops.size - (j + 1)) = ops.size by omega] at h2
        exact h1.trans h2.symm
      · have h1 := hI.rest t (fun j oj hj hl hd => hw ⟨j, oj, hj, hd⟩)
        have h2 := otherG hS0 hst hin (t := t) 0 ops.size (by omega) (fun j oj _ h2 hj hd => hw ⟨j, oj, hj, hd⟩)
        rw [Nat.zero_add, hS0] at h2
        exact h1.trans h2.symm
    have hts : a1.tmps = (S ops.size).tmps := by
      apply Array.ext
      · rw [hI.size, hsz.1]
      · intro i h1 h2
        have := hslot i
        simpa [Array.getD, h1, h2] using this
    have hds : a1.defers = (S ops.size).defers := hI.defers.trans hsz.2.symm
    cases a1
    cases hS : S ops.size
    rw [hS] at hts hds
    simp only at hts hds
    subst hts hds
    rfl
  intro fuel
  induction fuel with
  | zero =>
    rintro listed a1 w1 ⟨s, hs, hlen⟩ hI
    refine hend 0 listed a1 w1 hI (fun i hi => ?_)
    have hnil : s = [] := List.eq_nil_of_length_eq_zero hlen
    subst hnil
    have := List.filter_eq_nil_iff.1 hs i (List.mem_range.2 (by omega))
    simpa using this
  | succ fuel ih =>
    rintro listed a1 w1 ⟨s, hs, hlen⟩ hI
    by_cases hdone : ∀ i, i < ops.size → listed.getD i true = true
    · exact hend (fuel + 1) listed a1 w1 hI hdone
    refine ⟨fun h0 => absurd (fun i hi => hready listed hI.lsize h0 i (by omega)) hdone, fun i hi => ?_⟩
    obtain ⟨hun, oi, hoi, hall⟩ := mem_ready.1 hi
    have hil := (Array.getElem?_eq_some_iff.1 hoi).1
    have hill : i < listed.size := by rw [hI.lsize]; exact hil
    have hunf : listed.getD i false = false := by simpa [hill] using hun
    have hcount : ∃ s', (List.range ops.size).filter (fun j => !(listed.setIfInBounds i true).getD j true) = s' ∧ s'.length = fuel := by
      refine ⟨_, rfl, ?_⟩
      have hn : (List.range ops.size).Nodup := List.nodup_range
      have e : (List.range ops.size).filter (fun j => !(listed.setIfInBounds i true).getD j true) = ((List.range ops.size).filter fun j => !listed.getD j true).erase i := by
        rw [List.Nodup.erase_eq_filter (List.Pairwise.filter _ hn), List.filter_filter]
        apply List.filter_congr
        intro j hj
        by_cases hji : j = i
        · subst hji; simp [hill]
        · rw [getD_set_ne true (Ne.symm hji)]; simp [hji]
      rw [e, List.length_erase_of_mem (List.mem_filter.2 ⟨List.mem_range.2 hil, by simp only [hun]; rfl⟩), hs, hlen]
      rfl
    have hlook : ∀ t ∈ oi.looksAt ops, a1.tmps.getD t undef = (S i).tmps.getD t undef := by
      intro t ht
      have hback : (∀ (j : Nat) (oj : Oper), ops[j]? = some oj → oj.dst = some t → i ≤ j) → (∀ (j : Nat) (oj : Oper), ops[j]? = some oj → oj.dst = some t → listed.getD j false = false) → a1.tmps.getD t undef = (S i).tmps.getD t undef := by
        intro h1 h2
        have h3 := otherG hS0 hst hin (t := t) 0 i (by omega) (fun j oj _ hj ho hd => by have := h1 j oj ho hd; omega)
        rw [Nat.zero_add, hS0] at h3
        refine Eq.trans (hI.rest t (fun j oj hj hl hd => ?_)) h3.symm
        rw [h2 j oj hj hd] at hl; cases hl
      by_cases hw : ∃ (j : Nat) (oj : Oper), ops[j]? = some oj ∧ oj.dst = some t
      · obtain ⟨j, oj, hj, hd⟩ := hw
        have huniq : ∀ (j' : Nat) (oj' : Oper), ops[j']? = some oj' → oj'.dst = some t → j' = j := fun j' oj' h1 h2 => hone j' j oj' oj t h1 hj h2 hd
        rcases Nat.lt_trichotomy j i with hji | hji | hji
        · rcases (hlex j oj hj).2 i oi hji hoi with ⟨e, he, hb, heq⟩ | hap
          · have hl : listed.getD j false = true := by rw [← heq]; exact hall e he hb
            have h1 := hI.done j oj t hj hl hd
            have h2 := otherG hS0 hst hin (t := t) (j + 1) (i - (j + 1)) (by omega) (fun j' oj' h1 _ h3 h4 => by have := huniq j' oj' h3 h4; omega)
            rw [show j + 1 + (i - (j + 1)) = i by omega] at h2
            exact h1.trans h2.symm
          · exact absurd ht ((Oper.apart_spec hap).1 t hd)
        · subst hji
          refine hback (fun j' oj' h1 h2 => by have := huniq j' oj' h1 h2; omega) (fun j' oj' h1 h2 => by rw [huniq j' oj' h1 h2]; exact hunf)
        · rcases (hlex i oi hoi).2 j oj hji hj with ⟨e, he, hb, heq⟩ | hap
          · refine hback (fun j' oj' h1 h2 => by have := huniq j' oj' h1 h2; omega) (fun j' oj' h1 h2 => ?_)
            rw [huniq j' oj' h1 h2]
            rcases hlj : listed.getD j false with _ | _
            · rfl
            · have := hI.closed j oj hj hlj e he hb
              rw [heq, hunf] at this; cases this
          · exact absurd ht ((Oper.apart_spec hap).2.2 t hd)
      · exact hback (fun j oj h1 h2 => absurd ⟨j, oj, h1, h2⟩ hw) (fun j oj h1 h2 => absurd ⟨j, oj, h1, h2⟩ hw)
    have hsz := sizesG hS0 hst i (by omega)
    have hsame : a1.tmps.size = (S i).tmps.size := hI.size.trans hsz.1.symm
    have hupd : (fun j => (listed.setIfInBounds i true).getD j false) = updL (fun j => listed.getD j false) i := by
      funext j
      unfold updL
      by_cases hji : j = i
      · subst hji; simp [hill]
      · rw [getD_set_ne false (Ne.symm hji), if_neg hji]
    have hcomes : Comes ops md i oi (fun j => listed.getD j false) := ⟨hunf, hI.closed, hall⟩
    have hnext : ∀ (v : Value) (w' : World), S (i + 1) = (S i).put oi.dst v → CL (updL (fun j => listed.getD j false) i) w' → InvG md ops CL a0 S (listed.setIfInBounds i true) (a1.put oi.dst v) w' := by
      intro v w' hv hb
      have hget : ∀ t, oi.dst ≠ some t → (a1.put oi.dst v).tmps.getD t undef = a1.tmps.getD t undef := by
        intro t ht
        cases hd : oi.dst with
        | none => rfl
        | some d => rw [put_getD a1 d t v (by rw [hI.size]; exact hin i oi d hoi hd), if_neg (fun e => ht (by rw [hd, e]))]
      have hlist : ∀ j, (listed.setIfInBounds i true).getD j false = true → j = i ∨ listed.getD j false = true := by
        intro j hj
        by_cases hji : j = i
        · exact .inl hji
        · rw [getD_set_ne false (Ne.symm hji)] at hj; exact .inr hj
      refine ⟨by rw [hupd]; exact hb, (put_defers _ _ _).trans hI.defers, (put_size _ _ _).trans hI.size, by simpa using hI.lsize, fun j oj hj hl e he hbd => ?_, fun j oj d hj hl hd => ?_, fun t ht => ?_⟩
      · rcases hlist j hl with rfl | hl
        · obtain rfl : oj = oi := by rw [hoi] at hj; simpa using hj.symm
          exact getD_set_true (hall e he hbd)
        · exact getD_set_true (hI.closed j oj hj hl e he hbd)
      · rcases hlist j hl with rfl | hl
        · obtain rfl : oj = oi := by rw [hoi] at hj; simpa using hj.symm
          rw [hv, hd, put_getD a1 d d v (by rw [hI.size]; exact hin j oj d hj hd), if_pos rfl, put_getD (S j) d d v (by rw [hsz.1]; exact hin j oj d hj hd), if_pos rfl]
        · have hne : oi.dst ≠ some d := by
            intro h
            have := hone i j oi oj d hoi hj h hd
            subst this
            rw [hunf] at hl; cases hl
          rw [hget d hne]
          exact hI.done j oj d hj hl hd
      · have hne : oi.dst ≠ some t := ht i oi hoi (by simp [hill])
        rw [hget t hne]
        exact hI.rest t (fun j oj hj hl => ht j oj hj (getD_set_true hl))
    have hwl : Region.wanted oi (yielded ops a1.tmps) = Region.wanted oi (yielded ops (S i).tmps) :=
      wanted_looks (I := []) (w := w1) (by unfold guardKnown; split; rfl; split <;> rfl) hsame (fun t ht => hlook t ht)
    have hstep := hst i oi hoi
    unfold wpOp
    simp only [hoi]
    generalize hSj : S (i + 1) = sj at *
    cases hstep with
    | skip hw hq =>
      rw [hwl, hw]
      simp only [Bool.false_eq_true, if_false]
      exact ih _ _ _ hcount (hnext undef w1 rfl (hq _ _ hI.world hcomes))
    | val v hw h =>
      rw [hwl, hw]
      simp only [if_true]
      exact .inl (h _ a1 w1 hI.world hcomes hlook _ _ (fun w' hu => ih _ _ _ hcount (hnext v w' rfl hu)))
end
def CLp (C : Nat → World → Prop) (E : List Nat) (L : Nat → Bool) (w : World) : Prop := C (E.filter L).length w
def waitsGB (ops : Array Oper) : Nat → Nat → Nat → Bool
  | 0, x, y => x == y
  | f + 1, x, y => x == y || match ops[x]? with
    | some o => o.after.any fun e => Region.binds .any e && waitsGB ops f e.on y
    | none => false
theorem waitsGB_sound {ops : Array Oper} {L : Nat → Bool} (hcl : ∀ (j : Nat) (oj : Oper), ops[j]? = some oj → L j = true → ∀ e ∈ oj.after, Region.binds .any e = true → L e.on = true) :
    ∀ (f x y : Nat), waitsGB ops f x y = true → L x = true → L y = true
  | 0, x, y, h, hx => by
    have : x = y := by simpa [waitsGB] using h
    rw [← this]; exact hx
  | f + 1, x, y, h, hx => by
    unfold waitsGB at h
    rw [Bool.or_eq_true] at h
    rcases h with h | h
    · have : x = y := by simpa using h
      rw [← this]; exact hx
    · split at h
      · rename_i o ho
        obtain ⟨e, he, hb⟩ := Array.any_eq_true'.1 h
        rw [Bool.and_eq_true] at hb
        exact waitsGB_sound hcl f e.on y hb.2 (hcl x o ho hx e he hb.1)
      · cases h
def chainB (ops : Array Oper) (E : List Nat) : Bool := decide E.Nodup && E.all (· < ops.size) && (List.range (E.length - 1)).all fun j => match ops[E.getD (j + 1) 0]? with
  | some o => o.after.any fun e => Region.binds .any e && waitsGB ops 12 e.on (E.getD j 0)
  | none => false
section
variable {P : Program} {ops : Array Oper} {C : Nat → World → Prop} {E : List Nat}
theorem chain_edge (hch : chainB ops E = true) (j : Nat) (hj : j + 1 < E.length) : ∃ o, ops[E.getD (j + 1) 0]? = some o ∧ ∃ e ∈ o.after, Region.binds .any e = true ∧ waitsGB ops 12 e.on (E.getD j 0) = true := by
  unfold chainB at hch
  simp only [Bool.and_eq_true] at hch
  have h := List.all_eq_true.1 hch.2 j (List.mem_range.2 (by omega))
  split at h
  · rename_i o ho
    obtain ⟨e, he, hb⟩ := Array.any_eq_true'.1 h
    rw [Bool.and_eq_true] at hb
    exact ⟨o, ho, e, he, hb.1, hb.2⟩
  · cases h
theorem chain_nodup (hch : chainB ops E = true) : E.Nodup := by
  unfold chainB at hch
  simp only [Bool.and_eq_true, decide_eq_true_eq] at hch
  exact hch.1.1
theorem chain_lt (hch : chainB ops E = true) : ∀ i ∈ E, i < ops.size := by
  unfold chainB at hch
  simp only [Bool.and_eq_true] at hch
  intro i hi
  simpa using List.all_eq_true.1 hch.1.2 i hi
theorem chain_down (hch : chainB ops E = true) {L : Nat → Bool} (hcl : ∀ (j : Nat) (oj : Oper), ops[j]? = some oj → L j = true → ∀ e ∈ oj.after, Region.binds .any e = true → L e.on = true) (j : Nat) :
    ∀ d, j + d < E.length → L (E.getD (j + d) 0) = true → L (E.getD j 0) = true
  | 0, _, h => h
  | d + 1, hl, h => by
    obtain ⟨o, ho, e, he, hb, heq⟩ := chain_edge hch (j + d) (by omega)
    have := waitsGB_sound hcl 12 _ _ heq (hcl _ o ho h e he hb)
    exact chain_down hch hcl j d (by omega) this
theorem filter_upd_not {L : Nat → Bool} {k : Nat} (hk : E.contains k = false) : E.filter (updL L k) = E.filter L := by
  apply List.filter_congr
  intro x hx
  unfold updL
  rw [if_neg]
  rintro rfl
  have : E.contains x = true := by simpa using hx
  rw [hk] at this
  cases this
theorem getD_of {j k : Nat} (h : E[j]? = some k) : E.getD j 0 = k := by rw [List.getD_eq_getElem?_getD, h]; rfl
theorem chain_phase (hch : chainB ops E = true) {L : Nat → Bool} {j k : Nat} {o : Oper} (hj : E[j]? = some k) (ho : ops[k]? = some o) (hc : Comes ops .any k o L) :
    (E.filter L).length = j ∧ (E.filter (updL L k)).length = j + 1 := by
  have hjl := (List.getElem?_eq_some_iff.1 hj).1
  have hk := getD_of hj
  have hbef : ∀ i, i < j → L (E.getD i 0) = true := by
    intro i hi
    obtain ⟨o', ho', e, he, hb, heq⟩ := chain_edge hch (j - 1) (by omega)
    rw [show j - 1 + 1 = j by omega, hk, ho] at ho'
    cases ho'
    have h1 := waitsGB_sound hc.closed 12 _ _ heq (hc.ready e he hb)
    have h2 := chain_down hch hc.closed i (j - 1 - i) (by omega)
    rw [show i + (j - 1 - i) = j - 1 by omega] at h2
    exact h2 h1
  have haft : ∀ i, j ≤ i → i < E.length → L (E.getD i 0) = false := by
    intro i hi hl
    rcases hb : L (E.getD i 0) with _ | _
    · rfl
    · have h2 := chain_down hch hc.closed j (i - j) (by omega)
      rw [show j + (i - j) = i by omega] at h2
      have := h2 hb
      rw [hk, hc.not] at this
      cases this
  have hmem : ∀ (l : List Nat) (x : Nat), x ∈ l → ∃ i, i < l.length ∧ l.getD i 0 = x := by
    intro l x hx
    obtain ⟨i, hi, rfl⟩ := List.mem_iff_getElem.1 hx
    exact ⟨i, hi, by rw [List.getD_eq_getElem?_getD, List.getElem?_eq_getElem hi]; rfl⟩
  have e1 : E.filter L = E.take j := by
    conv => lhs; rw [← List.take_append_drop j E]
    rw [List.filter_append, List.filter_eq_self.2, List.filter_eq_nil_iff.2, List.append_nil]
    · intro x hx
      obtain ⟨i, hi, rfl⟩ := hmem _ x hx
      rw [List.length_drop] at hi
      have : (E.drop j).getD i 0 = E.getD (j + i) 0 := by rw [List.getD_eq_getElem?_getD, List.getD_eq_getElem?_getD, List.getElem?_drop]
      rw [this, haft (j + i) (by omega) (by omega)]
      simp
    · intro x hx
      obtain ⟨i, hi, rfl⟩ := hmem _ x hx
      rw [List.length_take] at hi
      have : (E.take j).getD i 0 = E.getD i 0 := by rw [List.getD_eq_getElem?_getD, List.getD_eq_getElem?_getD, List.getElem?_take_of_lt (by omega)]
      rw [this]
      exact hbef i (by omega)
  refine ⟨by rw [e1, List.length_take]; omega, ?_⟩
  have e2 : E.filter (updL L k) = E.take (j + 1) := by
    conv => lhs; rw [← List.take_append_drop (j + 1) E]
    rw [List.filter_append, List.filter_eq_self.2, List.filter_eq_nil_iff.2, List.append_nil]
    · intro x hx
      obtain ⟨i, hi, rfl⟩ := hmem _ x hx
      rw [List.length_drop] at hi
      have : (E.drop (j + 1)).getD i 0 = E.getD (j + 1 + i) 0 := by rw [List.getD_eq_getElem?_getD, List.getD_eq_getElem?_getD, List.getElem?_drop]
      rw [this]
      unfold updL
      rw [if_neg, haft (j + 1 + i) (by omega) (by omega)]
      · simp
      · intro e
        have hn := chain_nodup hch
        rw [List.getD_eq_getElem?_getD, List.getElem?_eq_getElem (by omega)] at e
        have h1 : E[j + 1 + i]? = E[j]? := by rw [hj, List.getElem?_eq_getElem (by omega)]; simpa using e
        have := (List.getElem?_inj (by omega) hn).1 h1
        omega
    · intro x hx
      obtain ⟨i, hi, rfl⟩ := hmem _ x hx
      rw [List.length_take] at hi
      have : (E.take (j + 1)).getD i 0 = E.getD i 0 := by rw [List.getD_eq_getElem?_getD, List.getD_eq_getElem?_getD, List.getElem?_take_of_lt (by omega)]
      rw [this]
      unfold updL
      by_cases hij : i = j
      · rw [hij, hk, if_pos rfl]
      · split
        · rfl
        · exact hbef i (by omega)
  rw [e2, List.length_take]
  omega
def wpGA (P : Program) (ops : Array Oper) (C : Nat → World → Prop) (E : List Nat) (Q : Act → World → Prop) : Nat → List Oper → Act → Prop
  | _, [], a => ∀ w, C E.length w → Q a w
  | k, o :: rest, a => ∃ a', StepG P ops .any (CLp C E) k o a a' ∧ wpGA P ops C E Q (k + 1) rest a'
theorem wpGA_path {Q : Act → World → Prop} : ∀ (l : List Oper) (k : Nat) (a : Act), wpGA P ops C E Q k l a →
    ∃ S : Nat → Act, S 0 = a ∧ (∀ i o, l[i]? = some o → StepG P ops .any (CLp C E) (k + i) o (S i) (S (i + 1))) ∧ ∀ w, C E.length w → Q (S l.length) w
  | [], k, a, h => ⟨fun _ => a, rfl, fun i o hi => by simp at hi, h⟩
  | o :: rest, k, a, ⟨a', h1, h2⟩ => by
    obtain ⟨S, g0, g1, g2⟩ := wpGA_path rest (k + 1) a' h2
    refine ⟨fun i => match i with | 0 => a | i + 1 => S i, rfl, fun i o' hi => ?_, fun w hw => g2 w hw⟩
    cases i with
    | zero =>
      obtain rfl : o = o' := by simpa using hi
      show StepG P ops .any (CLp C E) (k + 0) o a (S 0)
      rw [g0]; exact h1
    | succ i =>
      have := g1 i o' (by simpa using hi)
      rw [show k + (i + 1) = k + 1 + i by omega]
      exact this
theorem wp_region_G {id : Nat} {Q : Exit → Act → World → Prop} {a : Act} {w : World} {l : List Oper} (hm : P.follows .mixedOrders = true) (hB : Region.lexB .any l.toArray = true) (hD : dstsB l a.tmps.size = true) (hch : chainB l.toArray E = true)
    (hC : C 0 { w with drawn := w.drawn + 1 }) (h : wpGA P l.toArray C E (fun a' w' => Q .normal a' w') 0 l a) : (Code.region id l.toArray true).wp P Q a w := by
  obtain ⟨S, hS0, hst, hfin⟩ := wpGA_path l 0 a h
  have hB' : Region.lexFrom .any l.toArray l.toArray.size 0 (Array.replicate l.toArray.size false) = true := by
    simp only [Region.lexB, Bool.and_eq_true] at hB; exact hB.2
  have hf : ∀ j, (Array.replicate l.toArray.size false).getD j false = true → False := by
    intro j hl
    by_cases hi : j < l.length <;> simp [hi] at hl
  refine wp_region_any hm ?_
  refine wpAny_G (P := P) (ops := l.toArray) (CL := CLp C E) (md := .any) (a0 := a) (S := S) hS0 (fun k o hk => by have := hst k o (by simpa using hk); rw [Nat.zero_add] at this; exact this)
    (fun k o d hk hd => dsts_lt hD (k := k) (by simpa using hk) hd) (fun j k x y d hj hk hx hy => dsts_one hD (j := j) (k := k) (by simpa using hj) (by simpa using hk) hx hy)
    (fun i oi hi => lexFrom_free _ 0 _ hB' (by simp) (fun i => ?_) (by simp) i oi (Nat.zero_le _) hi) (fun a1 w1 L hcl hall ha => ?_) _ _ _ _ ⟨_, rfl, ?_⟩ ⟨?_, rfl, rfl, by simp, fun j oj hj hl => (hf j hl).elim, fun j oj d hj hl => (hf j hl).elim, fun t _ => rfl⟩
  · by_cases hi : i < l.length
    · simp [hi]
    · simp [hi]; omega
  · have e : E.filter L = E := List.filter_eq_self.2 (fun x hx => hall x (chain_lt hch x hx))
    unfold CLp at hcl
    rw [e] at hcl
    have := hfin w1 hcl
    rw [ha]
    simpa using this
  · rw [count_none]; simp
  · unfold CLp
    have e : E.filter (fun j => (Array.replicate l.toArray.size false).getD j false) = [] := List.filter_eq_nil_iff.2 (fun x _ h => hf x h)
    rw [e]
    exact hC
variable {Q : Act → World → Prop} {o : Oper} {rest : List Oper} {k : Nat} {fs : List Value} {ds : List Deferred}
def wpG (P : Program) (ops : Array Oper) (C : Nat → World → Prop) (E : List Nat) (Q : Act → World → Prop) (ds : List Deferred) (k : Nat) (l : List Oper) (fs : List Value) : Prop := wpGA P ops C E Q k l (mkA fs ds)
theorem wp_chain_list {id : Nat} {Q : Exit → Act → World → Prop} {w : World} {l : List Oper} {fs : List Value} {ds : List Deferred} (E : List Nat) (C : Nat → World → Prop) (hm : P.follows .mixedOrders = true) (hB : Region.lexB .any l.toArray = true) (hD : dstsB l fs.length = true) (hch : chainB l.toArray E = true)
    (hC : C 0 { w with drawn := w.drawn + 1 }) (h : wpG P l.toArray C E (fun a' w' => Q .normal a' w') ds 0 l fs) : (Code.region id l.toArray true).wp P Q ⟨fs.toArray, ds⟩ w :=
  wp_region_G hm hB (by simpa using hD) hch hC h
theorem wpG_run (v : Value) (hE : E.contains k = false) (hs : notSelect o = true) (hw : wantedL ops fs o = true) (hrun : ∀ j w, C j w → (execOp (ev fs) o).run P w = .ok (.value v) w) (c : wpG P ops C E Q ds (k + 1) rest (setL fs o.dst v)) : wpG P ops C E Q ds k (o :: rest) fs :=
  ⟨_, .val v (wantedL_eq.trans hw) (fun L a1 w hC _ ht K Q' hK => by
    have e : execOp a1.eval o = execOp (mkA fs ds).eval o := execOp_congr o (fun cs b h => by simp [notSelect, h] at hs) fun x hx => eval_looks ht x hx
    unfold Oper.wp
    rw [e, mkA_evalF, hrun _ w hC]
    exact hK _ (by unfold CLp at *; rw [filter_upd_not hE]; exact hC)), by rw [mkA_put]; exact c⟩
theorem wpG_run1 {x : Operand} (vx v : Value) (hE : E.contains k = false) (hx : ev fs x = vx) (hs : notSelect o = true) (hw : wantedL ops fs o = true) (hrun : ∀ j w (ρ : Operand → Value), C j w → ρ x = vx → (∀ c, ρ (.const c) = c) → (execOp ρ o).run P w = .ok (.value v) w) (c : wpG P ops C E Q ds (k + 1) rest (setL fs o.dst v)) : wpG P ops C E Q ds k (o :: rest) fs :=
  wpG_run v hE hs hw (fun j w hC => hrun j w _ hC hx fun _ => rfl) c
theorem wpG_run2 {x y : Operand} (vx vy v : Value) (hE : E.contains k = false) (hx : ev fs x = vx) (hy : ev fs y = vy) (hs : notSelect o = true) (hw : wantedL ops fs o = true) (hrun : ∀ j w (ρ : Operand → Value), C j w → ρ x = vx → ρ y = vy → (∀ c, ρ (.const c) = c) → (execOp ρ o).run P w = .ok (.value v) w) (c : wpG P ops C E Q ds (k + 1) rest (setL fs o.dst v)) : wpG P ops C E Q ds k (o :: rest) fs :=
  wpG_run v hE hs hw (fun j w hC => hrun j w _ hC hx hy fun _ => rfl) c
theorem wpG_move {x : Operand} (v : Value) (ho : o.op = .move x) (hE : E.contains k = false) (hv : ev fs x = v) (hw : wantedL ops fs o = true) (c : wpG P ops C E Q ds (k + 1) rest (setL fs o.dst v)) : wpG P ops C E Q ds k (o :: rest) fs :=
  wpG_run v hE (by simp [notSelect, ho]) hw (fun j w _ => by simp only [execOp, ho, hv]; rfl) c
theorem wpG_end (h : ∀ w, C E.length w → Q ⟨fs.toArray, ds⟩ w) : wpG P ops C E Q ds k [] fs := h
end
end Go.Own
end
section
namespace Go.Own
open Go.RowKit
section
variable {P : Program} {ops : Array Oper} {E : List Nat} {C : Nat → World → Prop} {Q : Act → World → Prop} {ds : List Deferred} {k : Nat} {o : Oper} {rest : List Oper} {fs : List Value}
def aheadB (ops : Array Oper) (E : List Nat) (k m : Nat) : Bool := decide (m < E.length) && waitsGB ops 30 (E.getD m 0) k
theorem chain_most (hch : chainB ops E = true) {L : Nat → Bool} {m k : Nat} {o : Oper} (hb : aheadB ops E k m = true) (hc : Comes ops .any k o L) : (E.filter L).length ≤ m := by
  unfold aheadB at hb
  simp only [Bool.and_eq_true, decide_eq_true_eq] at hb
  obtain ⟨hm, hb⟩ := hb
  have hno : ∀ i, m ≤ i → i < E.length → L (E.getD i 0) = false := by
    intro i hi hil
    by_cases h : L (E.getD i 0) = true
    · have h2 := chain_down hch hc.closed m (i - m) (by omega) (by rw [show m + (i - m) = i by omega]; exact h)
      have h3 := waitsGB_sound hc.closed 30 _ _ hb h2
      rw [hc.not] at h3
      cases h3
    · simpa using h
  have e2 : E.filter L = (E.take m).filter L ++ (E.drop m).filter L := by
    conv => lhs; rw [← List.take_append_drop m E]
    rw [List.filter_append]
  have e1 : (E.drop m).filter L = [] := by
    apply List.filter_eq_nil_iff.2
    intro x hx
    obtain ⟨i, hi, rfl⟩ := List.mem_iff_getElem.1 hx
    rw [List.length_drop] at hi
    have := hno (m + i) (by omega) (by omega)
    rw [List.getD_eq_getElem?_getD, List.getElem?_eq_getElem (by omega)] at this
    rw [List.getElem_drop]
    simpa using this
  rw [e2, e1, List.append_nil]
  exact Nat.le_trans (List.length_filter_le _ _) (by rw [List.length_take]; omega)
theorem wpG_runU (m : Nat) (v : Value) (hch : chainB ops E = true) (hb : aheadB ops E k m = true) (hE : E.contains k = false) (hs : notSelect o = true) (hw : wantedL ops fs o = true) (hrun : ∀ j w, j ≤ m → C j w → (execOp (ev fs) o).run P w = .ok (.value v) w) (c : wpG P ops C E Q ds (k + 1) rest (setL fs o.dst v)) : wpG P ops C E Q ds k (o :: rest) fs :=
  ⟨_, .val v (wantedL_eq.trans hw) (fun L a1 w hC hcm ht K Q' hK => by
    have e : execOp a1.eval o = execOp (mkA fs ds).eval o := execOp_congr o (fun cs b h => by simp [notSelect, h] at hs) fun x hx => eval_looks ht x hx
    unfold Oper.wp
    rw [e, mkA_evalF, hrun _ w (chain_most hch hb hcm) hC]
    exact hK _ (by unfold CLp at *; rw [filter_upd_not hE]; exact hC)), by rw [mkA_put]; exact c⟩
theorem wpG_runU1 {x : Operand} (m : Nat) (vx v : Value) (hch : chainB ops E = true) (hb : aheadB ops E k m = true) (hE : E.contains k = false) (hx : ev fs x = vx) (hs : notSelect o = true) (hw : wantedL ops fs o = true) (hrun : ∀ j w (ρ : Operand → Value), j ≤ m → C j w → ρ x = vx → (∀ c, ρ (.const c) = c) → (execOp ρ o).run P w = .ok (.value v) w) (c : wpG P ops C E Q ds (k + 1) rest (setL fs o.dst v)) : wpG P ops C E Q ds k (o :: rest) fs :=
  wpG_runU m v hch hb hE hs hw (fun j w hj hC => hrun j w _ hj hC hx fun _ => rfl) c
def leaves (v : Value) (n : Next) : Prop := n = .value v ∨ (n = .skip ∧ v = undef)
theorem wpG_op (j : Nat) (v : Value) (n : Next) (hn : leaves v n) (hch : chainB ops E = true) (hk : ops[k]? = some o) (hj : E[j]? = some k) (hs : notSelect o = true) (hw : wantedL ops fs o = true)
    (hrun : ∀ w, C j w → ∃ w', (execOp (ev fs) o).run P w = .ok n w' ∧ C (j + 1) w') (c : wpG P ops C E Q ds (k + 1) rest (setL fs o.dst v)) : wpG P ops C E Q ds k (o :: rest) fs :=
  ⟨_, .val v (wantedL_eq.trans hw) (fun L a1 w hC hcm ht K Q' hK => by
    have e : execOp a1.eval o = execOp (mkA fs ds).eval o := execOp_congr o (fun cs b h => by simp [notSelect, h] at hs) fun x hx => eval_looks ht x hx
    obtain ⟨p1, p2⟩ := chain_phase hch hj hk hcm
    unfold CLp at hC
    rw [p1] at hC
    obtain ⟨w', hr, hC'⟩ := hrun w hC
    unfold Oper.wp
    rw [e, mkA_evalF, hr]
    have hfin := hK w' (by unfold CLp; rw [p2]; exact hC')
    rcases hn with rfl | ⟨rfl, rfl⟩
    · exact hfin
    · exact hfin), by rw [mkA_put]; exact c⟩
end
end Go.Own
end
section
namespace Go.Own
open Go.RowKit
theorem run_slot_one {P : Program} {t e : TypeId} {c : Nat} (hu : P.underlying t = some (.slice e)) (hslot : ∀ f : Nat → Value, P.builtSlice e 1 [(0, .agg ((List.range c).map f).toArray)] = some ((List.range c).map f).toArray) (cs : List Value) (hl : cs.length = c) (w : World) :
    (Instr.buildSlice t 1 #[(0, .agg cs.toArray)]).run P w = .ok (.slice (some ⟨w.heap.size, 0, none⟩) 1 1) (w.alloc (.cells cs.toArray e)) := by
  have hrm : (List.range c).map (fun i => cs.getD i undef) = cs := by
    apply List.ext_getElem
    · simp [hl]
    · intro i h1 h2
      simp [List.getD, h2]
  have h : P.builtSlice e 1 [(0, .agg cs.toArray)] = some cs.toArray := by
    have h := hslot (fun i => cs.getD i undef)
    rw [hrm] at h
    exact h
  unfold Program.builtSlice at h
  cases hie : P.info? e with
  | none => simp [hie] at h
  | some ie =>
    simp only [hie] at h
    cases hz : ie.zero with
    | none => simp [hz] at h
    | some z =>
      simp only [hz] at h
      by_cases hc : 1 * ie.size > 2 ^ 24 ∨ 1 * ie.size = 0
      · simp only [Nat.one_mul] at hc
        simp at h
        omega
      · rw [if_neg hc] at h
        have h1 : ¬ (1 * ie.size > 2 ^ 24) := fun h' => hc (Or.inl h')
        have h2 : ¬ (1 * ie.size = 0) := fun h' => hc (Or.inr h')
        simp only [Nat.one_mul] at h1 h2 h
        simp [Instr.buildSlice, run_underlying hu, sizeOf, typeInfo, zeroValue, hie, hz, newRow, h1, h2, h]
theorem wpList_slot_one {P : Program} {ops : Array Oper} {rest : List Oper} {o : Oper} {a : Act} {w : World} {Q : Exit → Act → World → Prop} (hgd : o.guard = none) (t : TypeId) (x : Operand) (ho : o.op = .buildSlice t 1 #[(0, x)]) (cs : List Value) (e : TypeId) (hx : a.eval x = .agg cs.toArray)
    (hrun : (Instr.buildSlice t 1 #[(0, .agg cs.toArray)]).run P w = .ok (.slice (some ⟨w.heap.size, 0, none⟩) 1 1) (w.alloc (.cells cs.toArray e)))
    (h : wpList P ops Q rest (a.put o.dst (.slice (some ⟨w.heap.size, 0, none⟩) 1 1)) (w.alloc (.cells cs.toArray e))) : wpList P ops Q (o :: rest) a w := by
  refine wpList_plain hgd fun K hK => ?_
  unfold Oper.wp
  simp [execOp, ho, hx, hrun, Result.andThen]
  exact hK _ _ h
end Go.Own
end
section
namespace Go.LogM
end Go.LogM
namespace Go.Proofs.YtmdphcebmgcdbaaGreat
open Go.RowKit Go.Own
namespace Lg
open Go.LogM Byt
section
variable {W w0 w : World} {FK : Fla.Kept W} {TK : Tab.Kept W} {K : Kept W FK TK} {B : Nat} {p pf pt : Nat} {σ : LG} {Ps : List Asn} {N : Nat}
end
structure NAll (w : World) (B : Nat) (ns : List RecM.Nte) (gs : List GSl) : Prop where
  len : gs.length = ns.length
  sum : ∀ n ∈ ns, n.sum.length = 32
  at_ : ∀ i (h1 : i < ns.length) (h2 : i < gs.length), gs[i].2.2 = ns[i].data ∧ View w (fun k => k < B) gs[i].1 gs[i].2.2
theorem NAll.nil (w : World) (B : Nat) : NAll w B [] [] := ⟨rfl, fun n h => (by cases h), fun i h => absurd h (Nat.not_lt_zero _)⟩
theorem NAll.snoc {w : World} {B : Nat} {ns : List RecM.Nte} {gs : List GSl} {n : RecM.Nte} {g : GSl} (h : NAll w B ns gs) (hs : n.sum.length = 32) (hd : g.2.2 = n.data) (hv : View w (fun k => k < B) g.1 g.2.2) : NAll w B (ns ++ [n]) (gs ++ [g]) := by
  refine ⟨by rw [List.length_append, List.length_append, h.len]; rfl, ?_, ?_⟩
  · intro x hx
    rcases List.mem_append.1 hx with hx | hx
    · exact h.sum x hx
    · rw [List.mem_singleton.1 hx]; exact hs
  · intro i h1 h2
    by_cases hi : i < ns.length
    · have hg : i < gs.length := by rw [h.len]; exact hi
      rw [List.getElem_append_left hi, List.getElem_append_left hg]
      exact h.at_ i hi hg
    · have e : i = ns.length := by rw [List.length_append, List.length_singleton] at h1; omega
      subst e
      rw [List.getElem_append_right (Nat.le_refl _), List.getElem_append_right (by rw [h.len]; exact Nat.le_refl _)]
      simp [h.len]
      exact ⟨hd, hv⟩
theorem entsC_at : ∀ (E : List Ent) (gs : List GSl), gs.length = E.length → (∀ e ∈ E, e.note.sum.length = 32) → ∀ i (h1 : i < E.length) (h2 : i < gs.length) j v, (entC E[i] (gslV gs[i]))[j]? = some v → (entsC E gs)[i * 40 + j]? = some v
  | [], _, _, _, i, h1, _, _, _, _ => absurd h1 (Nat.not_lt_zero _)
  | _ :: _, [], hl, _, _, _, _, _, _, _ => by simp at hl
  | n :: ns, g :: gs, hl, hs, 0, _, _, j, v, hv => by
    show (entC n (gslV g) ++ entsC ns gs)[0 * 40 + j]? = some v
    have hv' : (entC n (gslV g))[j]? = some v := hv
    rw [Nat.zero_mul, Nat.zero_add, List.getElem?_append_left (List.getElem?_eq_some_iff.1 hv').1]
    exact hv'
  | n :: ns, g :: gs, hl, hs, i + 1, h1, h2, j, v, hv => by
    show (entC n (gslV g) ++ entsC ns gs)[(i + 1) * 40 + j]? = some v
    have h37 := entC_len n (gslV g) (hs n List.mem_cons_self)
    rw [List.getElem?_append_right (by rw [h37, Nat.add_mul]; omega), h37, show (i + 1) * 40 + j - 40 = i * 40 + j by rw [Nat.add_mul]; omega]
    exact entsC_at ns gs (by simpa using hl) (fun x hx => hs x (List.mem_cons_of_mem _ hx)) i (by simpa using h1) (by simpa using h2) j v hv
def zEnt : List Value := entC ⟨zP, RecM.zeroN⟩ Rec.nilV
theorem zero_ent : (Tryz.prog.info? 49).bind (·.zero) = some (.agg zEnt.toArray) := by kernel_rfl
theorem zEnt_len : zEnt.length = 40 := entC_len _ _ rfl
theorem info_ent (cs : List Value) (h : cs.length = 40) : (Tryz.prog.info? 49).map (·.size) = some cs.length := by
  have h0 : (Tryz.prog.info? 49).map (fun i => i.size) = some 40 := by kernel_rfl
  rw [h]; exact h0
theorem entC_one {e : Ent} {v : Value} (hv : v.oneCell' = true) : ∀ u ∈ entC e v, u.oneCell' = true := by
  intro u hu
  unfold entC at hu
  simp only [List.mem_cons] at hu
  rcases hu with rfl | rfl | rfl | hu
  · rfl
  · rfl
  · rfl
  · exact Rec.ntC_one hv u hu
theorem behind2 {B : Nat} {w0 w : World} {x y a b c : Asn} {Ps : List Asn} (h : Own.St B w0 w (x :: y :: a :: b :: c :: Ps)) : Own.St B w0 w (a :: b :: c :: x :: y :: Ps) :=
  h.perm ((List.perm_append_comm (l₁ := [x, y]) (l₂ := [a, b, c])).append_right Ps)
end Lg
end Go.Proofs.YtmdphcebmgcdbaaGreat
end
section
namespace Go.LogM
open FlaM (FS)
def entsN (Ns : Nat → List RecM.Nte) : Nat → List Ent
  | 0 => []
  | k + 1 => entsN Ns k ++ ents (k : Int) 1 (Ns k)
theorem ents_snoc (seg : Int) (n : RecM.Nte) : ∀ (l : List RecM.Nte) (a : Nat), ents seg a (l ++ [n]) = ents seg a l ++ [⟨⟨seg, ((a + (l.flatMap notePages).length : Nat) : Int), ((notePages n).length : Int)⟩, n⟩]
  | [], a => rfl
  | m :: l, a => by
    show _ :: ents seg (a + (notePages m).length) (l ++ [n]) = _
    rw [ents_snoc seg n l, List.flatMap_cons, List.length_append, Nat.add_assoc]
    rfl
theorem ents_mem (seg : Int) : ∀ (l : List RecM.Nte) (a : Nat) (e : Ent), e ∈ ents seg a l → ∃ A n B, l = A ++ n :: B ∧ e = ⟨⟨seg, ((a + (A.flatMap notePages).length : Nat) : Int), ((notePages n).length : Int)⟩, n⟩
  | [], _, _, h => by cases h
  | m :: l, a, e, h => by
    have h' : e ∈ (⟨⟨seg, (a : Int), ((notePages m).length : Int)⟩, m⟩ : Ent) :: ents seg (a + (notePages m).length) l := h
    rcases List.mem_cons.1 h' with rfl | h2
    · exact ⟨[], m, l, rfl, rfl⟩
    · obtain ⟨A, n, B, rfl, rfl⟩ := ents_mem seg l _ e h2
      refine ⟨m :: A, n, B, rfl, ?_⟩
      rw [List.flatMap_cons, List.length_append, Nat.add_assoc]
theorem entsN_same {Ns Ns' : Nat → List RecM.Nte} : ∀ k, (∀ j, j < k → Ns' j = Ns j) → entsN Ns' k = entsN Ns k
  | 0, _ => rfl
  | k + 1, h => by
    unfold entsN
    rw [entsN_same k (fun j hj => h j (by omega)), h k (Nat.lt_succ_self _)]
theorem entsN_mem {Ns : Nat → List RecM.Nte} : ∀ (k : Nat) (e : Ent), e ∈ entsN Ns k → ∃ j, j < k ∧ e ∈ ents (j : Int) 1 (Ns j)
  | 0, _, h => by cases h
  | k + 1, e, h => by
    rcases List.mem_append.1 h with h | h
    · obtain ⟨j, hj, he⟩ := entsN_mem k e h
      exact ⟨j, by omega, he⟩
    · exact ⟨k, Nat.lt_succ_self _, h⟩
theorem note1_one {n : RecM.Nte} (h : Good n) : note1 (notePages n) = some (n, (notePages n).length) := by
  have := note1_pages h.fits h.right []
  rwa [List.append_nil] at this
section
variable {fr M : Nat} {σ : LG} {k : Nat} {op hd : Bool} {Ns : Nat → List RecM.Nte} {ex : List Bs} {F : Nat → List Bs} {X : List Bs} {er : Bool} {N : Nat}
theorem live_hd (h : Inv fr M σ k op hd Ns ex F X er) (hl : σ.fs.off = false) : hd = true ∧ ex = [] := by
  refine ⟨?_, ?_⟩
  · cases hd
    · have := (h.bad rfl).2.2
      rw [hl] at this; cases this
    · rfl
  · rcases h.torn with h1 | ⟨h1, _⟩
    · exact h1
    · rw [hl] at h1; cases h1
theorem seg_now (h : Inv fr M σ k op hd Ns ex F X er) (hl : σ.fs.off = false) (j : Nat) (hj : j < k) :
    1 + ((Ns j).flatMap notePages).length ≤ σ.fs.pp ∧ segPages σ.fs (fr + j) = hdr (j + 1) :: ((Ns j).flatMap notePages ++ List.replicate (σ.fs.pp - (1 + ((Ns j).flatMap notePages).length)) FlaM.blank) := by
  obtain ⟨rfl, rfl⟩ := live_hd h hl
  have hk := h.km
  have h1 := h.all j hj
  rw [full_ex] at h1
  have hroom : (onSeg F (k - 1) X j).length ≤ σ.fs.pp := by
    unfold onSeg
    split
    · rename_i hjk
      subst hjk
      rw [List.length_append]
      exact h.phy.roomX
    · exact h.phy.room j (by omega)
  have hlen : (onSeg F (k - 1) X j).length = 1 + ((Ns j).flatMap notePages).length := by rw [h1, List.length_cons, Nat.add_comm]
  refine ⟨by omega, ?_⟩
  have e : segPages σ.fs (fr + j) = padded (onSeg F (k - 1) X j) σ.fs.pp := by
    apply ext_get
    · rw [seg_len, padded_len hroom]
    · intro i hi
      rw [seg_len] at hi
      rw [seg_at hi, padded_at hi]
      exact h.phy.now j i (by omega) hi
  rw [e]
  unfold padded
  rw [hlen, h1]
  rfl
theorem read_ents (h : Inv fr M σ k op hd Ns ex F X er) (hl : σ.fs.off = false) (j : Nat) (hj : j < k) (e : Ent) (he : e ∈ ents (j : Int) 1 (Ns j)) : readL fr σ e.plc = (e.note, 0) := by
  obtain ⟨A, n, B, hN, rfl⟩ := ents_mem _ _ _ _ he
  obtain ⟨hroom, hpages⟩ := seg_now h hl j hj
  have hk := h.km
  have htb : σ.tb.rows.length = M := by rw [h.tb]; exact tab_len _ _ _
  have hg : Good n := h.good j n (by rw [hN]; simp)
  have hpos := notePages_pos n
  rw [hN, List.flatMap_append, List.flatMap_cons, List.length_append, List.length_append] at hroom
  unfold readL
  simp only
  rw [if_neg (by rw [htb]; omega), if_neg (by rw [hl]; decide), Int.toNat_natCast, Int.toNat_natCast, Int.toNat_natCast, hpages, hN, List.flatMap_append, List.flatMap_cons]
  have e1 : ∀ (R : List Bs) (q : Bs), ((q :: (A.flatMap notePages ++ (notePages n ++ B.flatMap notePages) ++ R)).drop (1 + (A.flatMap notePages).length)).take (notePages n).length = notePages n := by
    intro R q
    rw [Nat.add_comm 1, List.drop_succ_cons, List.append_assoc, List.drop_left, List.append_assoc, List.take_left]
  rw [e1, note1_one hg]
  simp
theorem scan_ents (h : Inv fr M σ k op hd Ns ex F X er) (hM : M ≤ 256) (hl : σ.fs.off = false) (j : Nat) (hj : j < k) : scanL fr σ (j : Int) 1 = ((j + 1, ents (j : Int) 1 (Ns j)), 0) := by
  obtain ⟨hroom, hpages⟩ := seg_now h hl j hj
  have hk := h.km
  have htb : σ.tb.rows.length = M := by rw [h.tb]; exact tab_len _ _ _
  have hs := scan_on (fr := fr) (tb := σ.tb) (s := σ.fs) (a := σ.a) htb (by omega) hl j (by omega)
  have hlen := seg_len σ.fs (fr + j)
  obtain ⟨e1, e2⟩ := scan_whole (by omega) (Nat.succ_pos _) (h.good j) (tail_blank _) hpages (j : Int) (σ.fs.pp + 1) (by omega)
  rw [e1, e2, if_neg (Nat.succ_ne_zero j)] at hs
  exact hs
end
end Go.LogM
end
section
namespace Go.Proofs.YtmdphcebmgcdbaaGreat
open Go.RowKit Go.Own
namespace Lg
open Go.LogM Byt
theorem rangeLater {w w' : World} {b o : Nat} {cs : List Value} (h : w.rangeAt b o cs) (g : Below w.heap.size w w') : w'.rangeAt b o cs := fun j v hv => cellLater (h j v hv) g
theorem idx_entE {o : Oper} {x y : Tmp} (ho : o.op = .indexAddr 29 (.tmp x) (.tmp y)) (g n c k : Nat) (hk : k < n) : ∀ (ρ : Operand → Value) w, ρ (.tmp x) = .slice (some ⟨g, 0, none⟩) n c → ρ (.tmp y) = .int .i64 (k : Int) → (execOp ρ o).run Tryz.prog w = .ok (.value (.pointer (some ⟨g, k * 40, none⟩))) w := by
  intro ρ w h0 h1
  have hk' : (k : Int) < (n : Int) := by omega
  simp [execOp, ho, h0, h1, go_sem, hk', add_of]
theorem load_plcE (p : Plc) {o : Oper} {x : Tmp} (ho : o.op = .load 41 (.tmp x)) {b k : Nat} (ρ : Operand → Value) {w : World} (hr : w.rangeAt b k (plcA p).toList) (h0 : ρ (.tmp x) = .pointer (some ⟨b, k, none⟩)) : (execOp ρ o).run Tryz.prog w = .ok (.value (.agg (plcA p))) w := by
  have := run_loadAt_mid (P := Tryz.prog) w b k 41 (plcA p).toList _ hr Tryz.underlying41 rfl (info_plc _ rfl)
  unfold execOp
  simp only [ho, h0, Sem.run_bind, this, Result.andThen_ok, Sem.run_pure]
theorem neq_plcE {o : Oper} {x y : Tmp} (ho : o.op = .binOp .neq 41 (.tmp x) (.tmp y) 41) (a b : Plc) (hv : eqP a b = true) (ρ : Operand → Value) (w : World) (h0 : ρ (.tmp x) = .agg (plcA a)) (h1 : ρ (.tmp y) = .agg (plcA b)) : (execOp ρ o).run Tryz.prog w = .ok (.value (.bool false)) w := by
  have h' := neq_plc a b hv w
  have hm : Tryz.prog.eqGuardType Tryz.prog.depth 41 = false := by kernel_rfl
  have hg := run_eqGuard_agg (P := Tryz.prog) w .neq 41 (.tmp x) (.tmp y) (plcA a) (plcA b) hm
  unfold execOp
  simp only [ho, h0, h1, Sem.run_bind, hg, h', Result.andThen_ok, Sem.run_pure, Bool.not_true]
structure EntsAt (w : World) (D : Nat → Prop) (ao : Option Addr) (E : List Ent) (gs : List GSl) : Prop where
  len : gs.length = E.length
  sum : ∀ e ∈ E, e.note.sum.length = 32
  at_ : ∀ x (hx : x < E.length) (hg : x < gs.length), (∃ g, ao = some ⟨g, 0, none⟩ ∧ w.rangeAt g (x * 40) (entC E[x] (gslV gs[x]))) ∧ gs[x].2.2 = E[x].note.data ∧ View w D gs[x].1 gs[x].2.2
theorem EntsAt.later {w w' : World} {D : Nat → Prop} {ao : Option Addr} {E : List Ent} {gs : List GSl} (h : EntsAt w D ao E gs) (g : Below w.heap.size w w') : EntsAt w' D ao E gs :=
  ⟨h.len, h.sum, fun x hx hg => by
    obtain ⟨⟨b, h1, h2⟩, h3, h4⟩ := h.at_ x hx hg
    exact ⟨⟨b, h1, rangeLater h2 g⟩, h3, vlater h4 g⟩⟩
theorem entC_plc (e : Ent) (v : Value) {w : World} {b o : Nat} (h : w.rangeAt b o (entC e v)) : w.rangeAt b o (plcA e.plc).toList := fun j u hu => h j u (by
  unfold entC
  rcases j with _ | _ | _ | j
  · exact hu
  · exact hu
  · exact hu
  · simp at hu)
theorem entC_nte (e : Ent) (v : Value) {w : World} {b o : Nat} (h : w.rangeAt b o (entC e v)) : w.rangeAt b (o + 3) (Rec.ntC e.note v) := fun j u hu => by
  have := h (3 + j) u (by
    unfold entC
    rw [show 3 + j = j + 1 + 1 + 1 by omega, List.getElem?_cons_succ, List.getElem?_cons_succ, List.getElem?_cons_succ]
    exact hu)
  rw [Nat.add_assoc]; exact this
set_option maxHeartbeats 4000000 in
theorem same_ents {w : World} {D1 D2 : Nat → Prop} {a1 a2 : Option Addr} (c1 c2 : Nat) (E : List Ent) (gs1 gs2 : List GSl) (n : Nat) (hn : n = E.length) (hn6 : n ≤ 1000000) (H1 : EntsAt w D1 a1 E gs1) (H2 : EntsAt w D2 a2 E gs2) :
    Calls Tryz.prog 13 #[.slice a1 n c1, .slice a2 n c2] w fun e w' => e = .returned (.bool true) ∧ Below w.heap.size w w' := by
  have HH1 := Lib.hid H1
  have HH2 := Lib.hid H2
  have HN := Lib.hid hn
  clear H1 H2 hn
  go_enter Tryz.func13, Tryz.ntmps13
  go_wp2_with (fail)
  go_loopw [5] (fun v5 wr => ∃ i : Nat, i ≤ n ∧ v5 = .int .i64 (i : Int) ∧ Below w.heap.size w wr) (fun v _ => n - (intOf v).toNat)
  case atStart => exact ⟨0, Nat.zero_le _, rfl, Below.refl _ _⟩
  case round =>
    obtain ⟨i, hin0, rfl, hB⟩ := hrel
    by_cases hi : (i : Int) < (n : Int)
    · have hin : i < n := by omega
      have hiE : i < E.length := by rw [← HN.out]; exact hin
      have hi1 : i < gs1.length := by rw [HH1.out.len]; exact hiE
      have hi2 : i < gs2.length := by rw [HH2.out.len]; exact hiE
      obtain ⟨⟨gE, rfl, r1⟩, d1, v1⟩ := (HH1.out.later hB).at_ i hiE hi1
      obtain ⟨⟨gA, rfl, r2⟩, d2, v2⟩ := (HH2.out.later hB).at_ i hiE hi2
      have hsum : (E[i]).note.sum.length = 32 := HH1.out.sum _ (List.getElem_mem _)
      obtain ⟨e, he⟩ : ∃ e, e = E[i] := ⟨_, rfl⟩
      obtain ⟨g1, hg1⟩ : ∃ g, g = gs1[i] := ⟨_, rfl⟩
      obtain ⟨g2, hg2⟩ : ∃ g, g = gs2[i] := ⟨_, rfl⟩
      rw [← he, ← hg1] at r1
      rw [← hg1] at v1
      rw [← he, ← hg1] at d1
      rw [← he, ← hg2] at r2
      rw [← hg2] at v2
      rw [← he, ← hg2] at d2
      rw [← he] at hsum
      rw [d1] at v1
      rw [d2] at v2
      obtain ⟨pl, hpl⟩ : ∃ p, p = e.plc := ⟨_, rfl⟩
      obtain ⟨n1, hn1⟩ : ∃ c, c = Rec.ntC e.note (gslV g1) := ⟨_, rfl⟩
      obtain ⟨n2, hn2⟩ : ∃ c, c = Rec.ntC e.note (gslV g2) := ⟨_, rfl⟩
      have L1 : Hid (n1.length = 37) := by show _ = _; rw [hn1]; exact Rec.ntC_len _ _ hsum
      have L2 : Hid (n2.length = 37) := by show _ = _; rw [hn2]; exact Rec.ntC_len _ _ hsum
      have P1 : Hid (∀ wx, Below wr.heap.size wr wx → wx.rangeAt gE (i * 40) (plcA pl).toList) := fun wx hx => by rw [hpl]; exact entC_plc e _ (rangeLater r1 hx)
      have P2 : Hid (∀ wx, Below wr.heap.size wr wx → wx.rangeAt gA (i * 40) (plcA pl).toList) := fun wx hx => by rw [hpl]; exact entC_plc e _ (rangeLater r2 hx)
      have R1 : Hid (∀ wx, Below wr.heap.size wr wx → wx.rangeAt gE (i * 40 + 3) n1) := fun wx hx => by rw [hn1]; exact entC_nte e _ (rangeLater r1 hx)
      have R2 : Hid (∀ wx, Below wr.heap.size wr wx → wx.rangeAt gA (i * 40 + 3) n2) := fun wx hx => by rw [hn2]; exact entC_nte e _ (rangeLater r2 hx)
      have SAME : Hid (∀ wx, Below wr.heap.size wr wx → Calls Tryz.prog 10 #[.agg n1.toArray, .agg n2.toArray] wx fun e w' => e = .returned (.bool true) ∧ Below wx.heap.size wx w') := by
        intro wx hx
        have e1 : gslV g1 = .slice g1.1 e.note.data.length g1.2.1 := by unfold gslV; rw [d1]
        have e2 : gslV g2 = .slice g2.1 e.note.data.length g2.2.1 := by unfold gslV; rw [d2]
        rw [hn1, hn2, e1, e2]
        exact Rec.same_self e.note hsum g1.1 g2.1 e.note.data.length g1.2.1 g2.2.1 wx (vlater v1 hx) (vlater v2 hx) rfl
      have HBB := Lib.hid hB
      clear hB r1 r2 v1 v2 d1 d2 hsum he hg1 hg2 hpl hn1 hn2 hi1 hi2 hiE HH1 HH2 HN
      go_wp2_with (fail)
      refine lxX ?_; refine lxM (.slice (some ⟨gE, 0, none⟩) n c1) rfl ?_; refine lxM (.int .i64 (i : Int)) rfl ?_; refine lxT (.tmp 17) (.tmp 18) (.slice (some ⟨gE, 0, none⟩) n c1) (.int .i64 (i : Int)) (.pointer (some ⟨gE, i * 40, none⟩)) (fun wx ρ hwx h0 h1 hc => idx_entE rfl gE n c1 i hin ρ wx h0 h1) ?_; refine lxR (.tmp 19) (.pointer (some ⟨gE, i * 40, none⟩)) (.pointer (some ⟨gE, i * 40, none⟩)) (fun wx ρ hwx h0 hc => by simp [go_sem, h0]) ?_; refine lxR (.tmp 20) (.pointer (some ⟨gE, i * 40, none⟩)) (.agg (plcA pl)) (fun wx ρ hwx h0 hc => load_plcE pl rfl ρ (P1.out wx hwx) h0) ?_; refine lxM (.slice (some ⟨gA, 0, none⟩) n c2) rfl ?_; refine lxM (.int .i64 (i : Int)) rfl ?_; refine lxT (.tmp 22) (.tmp 23) (.slice (some ⟨gA, 0, none⟩) n c2) (.int .i64 (i : Int)) (.pointer (some ⟨gA, i * 40, none⟩)) (fun wx ρ hwx h0 h1 hc => idx_entE rfl gA n c2 i hin ρ wx h0 h1) ?_; refine lxR (.tmp 24) (.pointer (some ⟨gA, i * 40, none⟩)) (.pointer (some ⟨gA, i * 40, none⟩)) (fun wx ρ hwx h0 hc => by simp [go_sem, h0]) ?_; refine lxR (.tmp 25) (.pointer (some ⟨gA, i * 40, none⟩)) (.agg (plcA pl)) (fun wx ρ hwx h0 hc => load_plcE pl rfl ρ (P2.out wx hwx) h0) ?_; refine lxT (.tmp 21) (.tmp 26) (.agg (plcA pl)) (.agg (plcA pl)) (.bool false) (fun wx ρ hwx h0 h1 hc => neq_plcE rfl pl pl (eqP_self pl) ρ wx h0 h1) ?_; refine lxM (.bool false) rfl ?_; refine lxM (.slice (some ⟨gE, 0, none⟩) n c1) rfl ?_; refine lxM (.int .i64 (i : Int)) rfl ?_; refine lxT (.tmp 29) (.tmp 30) (.slice (some ⟨gE, 0, none⟩) n c1) (.int .i64 (i : Int)) (.pointer (some ⟨gE, i * 40, none⟩)) (fun wx ρ hwx h0 h1 hc => idx_entE rfl gE n c1 i hin ρ wx h0 h1) ?_; refine lxR (.tmp 31) (.pointer (some ⟨gE, i * 40, none⟩)) (.pointer (some ⟨gE, i * 40 + 3, none⟩)) (fun wx ρ hwx h0 hc => by simp [go_sem, h0]) ?_; refine lxR (.tmp 32) (.pointer (some ⟨gE, i * 40 + 3, none⟩)) (.agg n1.toArray) (fun wx ρ hwx h0 hc => Rec.load_note n1 L1.out rfl ρ (R1.out wx hwx) h0) ?_; refine lxM (.slice (some ⟨gA, 0, none⟩) n c2) rfl ?_; refine lxM (.int .i64 (i : Int)) rfl ?_; refine lxT (.tmp 34) (.tmp 35) (.slice (some ⟨gA, 0, none⟩) n c2) (.int .i64 (i : Int)) (.pointer (some ⟨gA, i * 40, none⟩)) (fun wx ρ hwx h0 h1 hc => idx_entE rfl gA n c2 i hin ρ wx h0 h1) ?_; refine lxR (.tmp 36) (.pointer (some ⟨gA, i * 40, none⟩)) (.pointer (some ⟨gA, i * 40 + 3, none⟩)) (fun wx ρ hwx h0 hc => by simp [go_sem, h0]) ?_; refine lxR (.tmp 37) (.pointer (some ⟨gA, i * 40 + 3, none⟩)) (.agg n2.toArray) (fun wx ρ hwx h0 hc => Rec.load_note n2 L2.out rfl ρ (R2.out wx hwx) h0) ?_
      refine wpL_fn (.bool true) [.agg n1.toArray, .agg n2.toArray] rfl (by kernel_rfl) (by kernel_rfl) (by kernel_rfl) (by kernel_rfl) (fun _ _ => by simp [go_sem]) (fun wx hwx => SAME.out wx hwx) ?_
      refine lxR (.tmp 39) (.bool true) (.bool false) (fun wx ρ hwx h0 hc => by simp [go_sem, h0]) ?_; refine lxT (.tmp 28) (.tmp 40) (.bool false) (.bool false) (.bool false) (fun wx ρ hwx h0 h1 hc => by simp [go_sem, h0, h1, hc]) ?_
      refine wpL_end (by kernel_rfl) (fun w9 hw9 => ?_)
      simp only [FinL, setL, List.set_cons_zero, List.set_cons_succ]
      have HB9 : Hid (Below w.heap.size w w9) := HBB.out.trans (hw9.mono HBB.out.size)
      clear hw9 HBB P1 P2 R1 R2 SAME
      go_wp2_with (fail)
      go_roundw
      case rel => exact ⟨i + 1, by omega, by go_num, HB9.out⟩
      case measure => simp [intOf]; omega
    · have HBB := Lib.hid hB
      clear hB
      go_wp2_with (fail)
      go_ret
      exact ⟨rfl, HBB.out⟩
end Lg
end Go.Proofs.YtmdphcebmgcdbaaGreat
end
section
namespace Go.LogM
end Go.LogM
namespace Go.Proofs.YtmdphcebmgcdbaaGreat
open Go.RowKit Go.Own
namespace Lg
open Go.LogM Byt
structure BackI (w : World) (B m N i : Nat) (σ : LG) (k : Nat) (op hd : Bool) (Ns : Nat → List RecM.Nte) (ex : List LogM.Bs) (F : Nat → List LogM.Bs) (X : List LogM.Bs) (er : Bool) (all : List Ent) (gs : List GSl) : Prop where
  inv : LogM.Inv 1 70 σ k op hd Ns ex F X er
  ok : FlaM.Ok σ.fs N
  live : Live σ.fs
  pp : σ.fs.pp = m
  ki : k ≤ i
  low : 1 + i ≤ N
  all_ : all = entsN Ns k
  few : all.length ≤ i
  notes : NAll w B (all.map (fun e => e.note)) gs
def BackE (w : World) (B m N i : Nat) (σ : LG) (all : List Ent) (gs : List GSl) : Prop := ∃ k op hd Ns ex F X er, BackI w B m N i σ k op hd Ns ex F X er all gs
section
variable {w : World} {B m N i : Nat} {σ : LG} {all : List Ent} {gs : List GSl}
theorem BackE.lg (h : BackE w B m N i σ all gs) : LgOk 1 σ N := by
  obtain ⟨k, op, hd, Ns, ex, F, X, er, h⟩ := h
  exact h.inv.ok (by decide) h.ok (by have := h.ki; have := h.low; omega) (by have := h.low; omega)
theorem BackE.len (h : BackE w B m N i σ all gs) : all.length ≤ i ∧ NAll w B (all.map (fun e => e.note)) gs := by obtain ⟨_, _, _, _, _, _, _, _, h⟩ := h; exact ⟨h.few, h.notes⟩
theorem back_new (w : World) (B m : Nat) (hm : 2 ≤ m ∧ m ≤ 64) : BackE w B m 1 0 (sNew 70 m) [] [] := by
  obtain ⟨h1, h2, h3, h4⟩ := new_inv m hm
  exact ⟨0, _, _, _, _, _, _, _, h1, h2, h3, h4, Nat.le_refl _, Nat.le_refl _, rfl, Nat.le_refl _, NAll.nil _ _⟩
theorem BackE.append (h : BackE w B m N i σ all gs) (hm : 5 ≤ m) (hm2 : m ≤ 12) (hi : i < 60) (n : RecM.Nte) (hf : RecM.Fits n) (g : GSl) (hg : g.2.2 = n.data) (hv : View w (fun k => k < B) g.1 g.2.2) :
    (appendL 1 σ n = (σ, (zP, 1)) ∧ BackE w B m (N + 7) (i + 1) σ all gs) ∨ (∃ σ' s q ln, appendL 1 σ n = (σ', (⟨((s : Nat) : Int), ((q : Nat) : Int), ((ln : Nat) : Int)⟩, 0)) ∧ s < 70 ∧ q ≤ 12 ∧ ln ≤ 3 ∧ BackE w B m (N + 7) (i + 1) σ' (all ++ [⟨⟨((s : Nat) : Int), ((q : Nat) : Int), ((ln : Nat) : Int)⟩, n⟩]) (gs ++ [g])) := by
  obtain ⟨k, op, hd, Ns, ex, F, X, er, h⟩ := h
  have hki := h.ki
  have hlow := h.low
  by_cases hr : RecM.right n = false
  · exact .inl ⟨append_bad 1 σ hr, k, op, hd, Ns, ex, F, X, er, h.inv, h.ok.more (by omega), h.live, h.pp, by omega, by omega, h.all_, by have := h.few; omega, h.notes⟩
  have hr' : RecM.right n = true := by simpa using hr
  have hn : LogM.Good n := ⟨hf, hr'⟩
  have hfew := notePages_few hf hr'
  obtain ⟨⟨k', op', hd', Ns', ex', F', X', er', q⟩, qok⟩ := inv_append h.inv h.ok hn (by omega) (by rw [h.pp]; omega)
  obtain ⟨h0, hl'⟩ := q.live h.live
  have hlo := q.lo
  have hhi := q.hi
  rcases q.or with ⟨r0, r1, r2, r3, r4, r5, r6⟩ | ⟨r1, _⟩
  · subst r1
    have hk' := q.inv.opn rfl
    rw [h.pp] at r6
    refine .inr ⟨(appendL 1 σ n).1, k' - 1, 1 + ((Ns (k' - 1)).flatMap notePages).length, (notePages n).length, by rw [← r5, ← r0], by omega, by omega, hfew, k', true, hd', Ns', ex', F', X', er', q.inv, qok, hl', q.pp.trans h.pp, by omega, by omega, ?_, ?_, ?_⟩
    · have e1 : entsN Ns k' = entsN Ns k := by
        rcases (show k' = k ∨ k' = k + 1 by omega) with e | e
        · rw [e]
        · rw [e]
          show entsN Ns k ++ ents (k : Int) 1 (Ns k) = _
          rw [(h.inv.new k (Nat.le_refl _)).2]
          exact List.append_nil _
      obtain ⟨j, rfl⟩ : ∃ j, k' = j + 1 := ⟨k' - 1, by omega⟩
      rw [Nat.add_sub_cancel] at r4 ⊢
      rw [h.all_, ← e1, r4]
      show (entsN Ns j ++ ents (j : Int) 1 (Ns j)) ++ _ = entsN (updN Ns j (Ns j ++ [n])) j ++ ents (j : Int) 1 (updN Ns j (Ns j ++ [n]) j)
      have e3 : entsN (updN Ns j (Ns j ++ [n])) j = entsN Ns j := entsN_same j (fun x hx => by unfold updN; rw [if_neg (by omega)])
      rw [e3]
      have e2 : updN Ns j (Ns j ++ [n]) j = Ns j ++ [n] := by unfold updN; rw [if_pos rfl]
      rw [e2, ents_snoc, List.append_assoc]
    · have := h.few
      rw [List.length_append, List.length_singleton]; omega
    · rw [List.map_append]
      exact h.notes.snoc hf.sum hg hv
  · rw [r1] at h0
    cases h0
theorem BackE.close (h : BackE w B m N i σ all gs) : (closeL σ).2 = 0 ∧ BackE w B m (N + 1) i (closeL σ).1 all gs ∧ ∃ k Ns, k ≤ i ∧ all = entsN Ns k ∧ ∀ (_ : k ≤ 70), TabM.sealedL (closeL σ).1.tb = List.range k ∧ ∀ j, j < k → scanL 1 (closeL σ).1 (j : Int) 1 = ((j + 1, ents (j : Int) 1 (Ns j)), 0) := by
  obtain ⟨k, op, hd, Ns, ex, F, X, er, h⟩ := h
  obtain ⟨c1, c2, c3, c4⟩ := inv_close h.inv h.ok
  obtain ⟨h0, hl⟩ := c3 h.live
  rcases c2 with ⟨_, hI, _, _⟩ | ⟨h6, _⟩
  · refine ⟨h0, ⟨k, _, _, Ns, _, _, _, _, hI, c4, hl, c1.trans h.pp, h.ki, by have := h.low; omega, h.all_, h.few, h.notes⟩, k, Ns, h.ki, h.all_, fun hk => ⟨?_, fun j hj => scan_ents hI (by decide) hl.1 j hj⟩⟩
    rw [hI.tb]
    exact tab_sealed hk
  · rw [h0] at h6; cases h6
theorem BackE.read (h : BackE w B m N i σ all gs) (hm : m ≤ 12) (e : Ent) (he : e ∈ all) : readL 1 σ e.plc = (e.note, 0) ∧ i64L e.plc.seg ∧ i64L e.plc.page ∧ i64L e.plc.pages := by
  obtain ⟨k, op, hd, Ns, ex, F, X, er, h⟩ := h
  rw [h.all_] at he
  obtain ⟨j, hj, he⟩ := entsN_mem k e he
  refine ⟨read_ents h.inv h.live.1 j hj e he, ?_⟩
  obtain ⟨A, n, C, hN, rfl⟩ := ents_mem _ _ _ _ he
  have h1 := (seg_now h.inv h.live.1 j hj).1
  rw [hN, List.flatMap_append, List.flatMap_cons, List.length_append, List.length_append, h.pp] at h1
  have hk := h.inv.km
  refine ⟨⟨?_, ?_⟩, ⟨?_, ?_⟩, ?_, ?_⟩ <;> simp only <;> omega
end
theorem entsC_app {E1 E2 : List Ent} {g1 g2 : List GSl} (h : g1.length = E1.length) : entsC (E1 ++ E2) (g1 ++ g2) = entsC E1 g1 ++ entsC E2 g2 := by
  unfold entsC
  rw [List.zipWith_append (by rw [h]), List.flatten_append]
theorem entsC_one (e : Ent) (g : GSl) : entsC [e] [g] = entC e (gslV g) := by simp [entsC]
theorem entsC_cells : ∀ (E : List Ent) (gs : List GSl), ∀ u ∈ entsC E gs, u.oneCell' = true
  | [], _, u, h => by simp [entsC] at h
  | _ :: _, [], u, h => by simp [entsC] at h
  | e :: E, g :: gs, u, h => by
    have h' : u ∈ entC e (gslV g) ++ entsC E gs := h
    rcases List.mem_append.1 h' with h | h
    · exact entC_one rfl u h
    · exact entsC_cells E gs u h
theorem slot_ent (f : Nat → Value) : Tryz.prog.builtSlice 49 1 [(0, .agg ((List.range 40).map f).toArray)] = some ((List.range 40).map f).toArray := by kernel_rfl
theorem many_ent : Many Tryz.prog 29 49 40 104 := ⟨Tryz.underlying29, by kernel_rfl, by decide⟩
theorem ents_row {B : Nat} {w0 w : World} {Ps : List Asn} {D : Nat → Prop} (H : Own.St B w0 w Ps) (i : Nat) {ao : Option Addr} {n cap : Nat} {E : List Ent} {gs : List GSl} (hi : Ps[i]? = some (ARow 49 40 (.slice ao n cap) n (entsC E gs))) (hn : n = E.length) (hl : gs.length = E.length) (hs : ∀ e ∈ E, e.note.sum.length = 32)
    (hv : ∀ x (_ : x < E.length) (hg : x < gs.length), gs[x].2.2 = E[x].note.data ∧ View w D gs[x].1 gs[x].2.2) : EntsAt w D ao E gs := by
  refine ⟨hl, hs, fun x hx hg => ⟨?_, hv x hx hg⟩⟩
  obtain ⟨g, rfl, _, _, _⟩ := H.rowAt i hi (x * 40) (by omega)
  refine ⟨g, rfl, fun q v hq => ?_⟩
  have h40 : q < 40 := by have := (List.getElem?_eq_some_iff.1 hq).1; rwa [entC_len _ _ (hs _ (List.getElem_mem _))] at this
  rw [(H.rowRange i hi (x * 40 + q) (by omega)).1]
  exact entsC_at E gs hl hs x hx hg q v hq
end Lg
end Go.Proofs.YtmdphcebmgcdbaaGreat
end
section
namespace Go.LogM
theorem entsN_mono (Ns : Nat → List RecM.Nte) (j : Nat) : ∀ k, j ≤ k → (entsN Ns j).length ≤ (entsN Ns k).length
  | 0, h => by rw [Nat.le_zero.1 h]; exact Nat.le_refl _
  | k + 1, h => by
    rcases Nat.lt_or_ge k j with h1 | h1
    · rw [show j = k + 1 by omega]; exact Nat.le_refl _
    · have := entsN_mono Ns j k h1
      show _ ≤ (entsN Ns k ++ ents (k : Int) 1 (Ns k)).length
      rw [List.length_append]
      omega
end Go.LogM
namespace Go.Proofs.YtmdphcebmgcdbaaGreat
open Go.RowKit Go.Own
namespace Lg
open Go.LogM Byt
theorem BackE.more {w : World} {B m N N' i : Nat} {σ : LG} {all : List Ent} {gs : List GSl} (h : BackE w B m N i σ all gs) (hN : N ≤ N') : BackE w B m N' i σ all gs := by
  obtain ⟨k, op, hd, Ns, ex, F, X, er, h⟩ := h
  exact ⟨k, op, hd, Ns, ex, F, X, er, h.inv, h.ok.more hN, h.live, h.pp, h.ki, by have := h.low; omega, h.all_, h.few, h.notes⟩
theorem built_ent0 (a b c : Value) (f : Nat → Value) : Tryz.prog.built 49 [(0, .agg #[a, b, c]), (1, .agg ((List.range 37).map f).toArray)] = some (a :: b :: c :: (List.range 37).map f).toArray := by kernel_rfl
theorem built_ent (p : Plc) (nn : List Value) (h : nn.length = 37) : Tryz.prog.built 49 [(0, .agg (plcA p)), (1, .agg nn.toArray)] = some (.int .i64 p.seg :: .int .i64 p.page :: .int .i64 p.pages :: nn).toArray := by
  have hrm : (List.range 37).map (fun i => nn.getD i undef) = nn := by
    apply List.ext_getElem
    · simp [h]
    · intro i h1 h2
      simp [List.getD, h2]
  have h := built_ent0 (.int .i64 p.seg) (.int .i64 p.page) (.int .i64 p.pages) (fun i => nn.getD i undef)
  rw [hrm] at h
  exact h
set_option maxRecDepth 10000 in
set_option maxHeartbeats 64000000 in
theorem walk_back {w : World} {FK : Fla.Kept w} {TK : Tab.Kept w} (K : Kept w FK TK) (a0 : Option Addr) (len0 cap0 : Nat) (l : List ActD) (p0 : Nat) (hp0 : p0 ≤ 255) (w0 : inSlice 44 inAct l w.heap.size w [.slice a0 len0 cap0]) :
    Calls Tryz.prog 3 #[.slice a0 len0 cap0, .int .u8 (p0 : Int)] w (RetYes w) := by
  obtain ⟨hlen, hcap, hmax, _, hat⟩ := acts_in w0
  have SH := Lib.hid (shown_any K (Below.refl _ _))
  have HF : Hid (∀ wx, Below w.heap.size w wx → Calls Tryz.prog 6 #[.slice a0 len0 cap0] wx fun e w' => e = .returned (.slice a0 (fewN l) cap0) ∧ w' = wx) := fun wx hwx => few_any w0 wx (fun k hk => hwx.block k hk)
  have HAT := Lib.hid hat
  have HLEN := Lib.hid hlen
  have hmax2 : cap0 ≤ 9223372036854775807 := by unfold maxLen at hmax; omega
  obtain ⟨m0, hm0⟩ : ∃ n, n = p0 % 8 := ⟨_, rfl⟩
  obtain ⟨m, hm⟩ : ∃ n, n = m0 + 5 := ⟨_, rfl⟩
  have e3 : (p0 : Int) % 8 = (m0 : Int) := by omega
  have e4 : (m0 : Int) + 5 = (m : Int) := by omega
  have hm8 : 5 ≤ m ∧ m ≤ 12 := by omega
  have hm07 : m0 ≤ 7 := by omega
  have CB : Hid (∀ wx, Below w.heap.size w wx → Calls Tryz.prog 5 #[.int .i64 70, .int .i64 (m : Int)] wx fun e w' => ∃ p pf pt, e = .returned (.tuple #[ptr p, ptr pf, ptr pt, .bool true]) ∧ LSt K w.heap.size w w' p pf pt 1 (sNew 70 m) []) := fun wx hwx => built_any K 70 m (by decide) (by omega) (Below.refl _ _) (Nat.le_refl _) ((Own.St.start w).later hwx)
  have I0 : Hid (BackE w w.heap.size m (1 + 8 * 0) 0 (sNew 70 m) [] []) := back_new w w.heap.size m (by omega)
  obtain ⟨kf, hkf⟩ : ∃ k, k = fewN l := ⟨_, rfl⟩
  have hkf1 : kf ≤ l.length := by rw [hkf]; exact fewF_le l 0
  have hkf2 : kf ≤ 60 := by rw [hkf]; exact fewF_most l 0 (by decide)
  have HK3 : Hid (∀ i (hi : i < l.length), i < kf → l[i].n.data.length ≤ 1000) := fun i hi h => fewF_short l 0 i hi (by rw [hkf] at h; exact h)
  rw [← hkf] at HF
  clear hat hlen w0 hmax hm0 hm hkf
  go_enter Tryz.func3, Tryz.ntmps3
  go_wp2_with (fail)
  refine SH.out.mono ?_
  clear SH
  rintro e w1 ⟨rfl, h1⟩
  have CB1 := Lib.hid (CB.out w1 h1)
  clear h1 CB
  go_wp2_with (fail)
  refine CB1.out.mono ?_
  clear CB1
  rintro e w2 ⟨p, pf, pt, rfl, h2⟩
  have H3 := Lib.hid (third (h2.rowFresh (e := 49) (size := 40)))
  clear h2
  go_wp2_with (fail)
  refine (HF.out _ H3.out.below).mono ?_
  clear HF
  rintro e w4 ⟨rfl, rfl⟩
  go_wp2
  go_loopw [11, 43] (fun v11 v43 wr => ∃ (i : Nat) (σ : LG) (all : List Ent) (gs : List GSl), i ≤ kf ∧ v43 = .int .i64 (i : Int) ∧ LSt K w.heap.size w wr p pf pt 1 σ [ARow 49 40 v11 all.length (entsC all gs)] ∧ BackE w w.heap.size m (1 + 8 * i) i σ all gs) (fun _ v _ => kf - (intOf v).toNat)
  case atStart => exact ⟨0, _, [], [], Nat.zero_le _, rfl, H3.out, I0.out⟩
  case round =>
    obtain ⟨i, σ, all, gs, hik, rfl, hH, hPE⟩ := hrel
    have H := Lib.hid hH
    have PE := Lib.hid hPE
    obtain ⟨aA, cA, rfl⟩ := hH.rowForm 3 rfl
    clear hH hPE H3 I0
    by_cases hi : (i : Int) < (kf : Int)
    · have hik2 : i < kf := by omega
      have hil : i < l.length := by omega
      obtain ⟨b, o, rfl, hb, hact⟩ := HAT.out (by intro e; rw [e] at hil; simp at hil)
      obtain ⟨ad, cd, af, nf, cf, hrng, hain⟩ := hact _ (fun k hk => H.out.below.block k hk) i hil
      obtain ⟨a, ha⟩ : ∃ a, a = l[i] := ⟨_, rfl⟩
      have hd1000 : a.n.data.length ≤ 1000 := by rw [ha]; exact HK3.out i hil hik2
      have hold : View w (fun k => k < w.heap.size) ad a.n.data := by
        rw [← ha] at hain
        exact hain.view.same (fun k hk => (H.out.below.block k hk).symm)
      rw [← ha] at hrng hain
      obtain ⟨nd, hnd⟩ : ∃ n, n = a.n.data.length := ⟨_, rfl⟩
      have hRA := act_round H.out hain.fits.sum hrng
      rw [← hnd] at hRA
      obtain ⟨vs, hvs⟩ : ∃ v, v = actC a (.slice ad nd cd) (.slice af nf cf) := ⟨_, rfl⟩
      rw [← hvs] at hRA
      have RA := Lib.hid hRA
      obtain ⟨b5, hb5⟩ : ∃ b, b = wr.heap.size := ⟨_, rfl⟩
      obtain ⟨W1, hW1⟩ : ∃ W, W = wr.alloc (.cells zAct.toArray 44) := ⟨_, rfl⟩
      obtain ⟨W2, hW2⟩ : ∃ W, W = W1.setCells b5 0 vs.toArray.toList := ⟨_, rfl⟩
      have hst := hRA.st
      rw [← hb5, ← hW1, ← hW2] at hst
      have TH := Lib.hid hRA.there
      rw [← hb5, ← hW1] at TH
      have hst3 := third hst
      have H2 := Lib.hid hst3
      obtain ⟨nn, hnn⟩ : ∃ x, x = Rec.ntC a.n (.slice ad nd cd) := ⟨_, rfl⟩
      have NT : Hid (∀ wx Ps j, Own.St w.heap.size w wx Ps → Ps[j]? = some (AVals b5 44 vs) → wx.rangeAt b5 1 nn ∧ wx.cell? ⟨b5, 0, none⟩ = some (.int .u8 (a.kind.toNat : Int))) := fun wx Ps j hx hj => ⟨fun q v hv => (hx.cellV j hj (1 + q) (by rw [hvs]; rw [hnn] at hv; exact actC_note a _ _ q v hv)).1, (hx.cellV j hj 0 (by rw [hvs]; rfl)).1⟩
      obtain ⟨r, hr⟩ : ∃ r, r = a.kind.toNat % 9 := ⟨_, rfl⟩
      have hri : (a.kind.toNat : Int) % 9 = (r : Int) := by omega
      have hr9 : r < 9 := by omega
      have hk8 : a.kind.toNat ≤ 255 := by have := a.kind.toNat_lt; omega
      have ZA := Lib.hid zero_act
      have HB5 := Lib.hid hb5
      have HW1 := Lib.hid hW1
      have HW2 := Lib.hid hW2
      have PL := PE.out.len
      have hal60 : all.length ≤ 60 := by have := PL.1; omega
      have PL2 : Hid (gs.length = all.length) := by have := PL.2.len; rwa [List.length_map] at this
      have hap := PE.out.append hm8.1 hm8.2 (by omega) a.n hain.fits (ad, cd, a.n.data) rfl hold
      have CA := K.append a.n ad nd cd hst3.below hst3 PE.out.lg (by omega) hain.fits (by
        have hv : View W2 (fun k => k < w.heap.size) ad a.n.data := hold.same (fun k hk => hst3.below.block k hk)
        rw [hnd]
        exact ⟨⟨hv.mono (fun k hk => Nat.lt_of_lt_of_le hk hst3.size), rfl, hain.room, hain.nil⟩, .inr hv⟩) (by omega)
      have hng : nn = Rec.ntC a.n (gslV (ad, cd, a.n.data)) := by rw [hnn, hnd]; rfl
      have NL : Hid (nn.length = 37) := by show _ = _; rw [hnn]; exact Rec.ntC_len _ _ hain.fits.sum
      have IN := Lib.hid (Rec.info_note nn NL.out)
      rw [show Rec.ntV a.n (.slice ad nd cd) = .agg nn.toArray by rw [hnn]] at CA
      have NT1 : Hid (W2.rangeAt b5 1 nn) := (NT.out W2 _ 3 hst3 rfl).1
      rcases hap with ⟨hap, hPE⟩ | ⟨σ', s, q, ln, hap, _, _, _, hPE⟩
      · rw [hap] at CA
        have CA1 := Lib.hid CA
        have PE2 := Lib.hid hPE
        clear hact hrng hain ha hnd hRA hvs hb5 hW1 hW2 hst hst3 CA hnn hng H hap hPE hr PE PL hold
        go_wp2_with (first
          | (refine wpList_load_mid rfl 44 (.tmp 45) rfl b (o + i * 44) rfl vs _ RA.out.range Tryz.underlying44 rfl RA.out.info ?_)
          | (refine Own.wpList_allocZ rfl 44 rfl zAct.toArray ZA.out ?_; rw [← HB5.out, ← HW1.out])
          | (refine wpList_store_mid rfl 44 (.tmp 13) (.tmp 46) rfl b5 0 vs.toArray rfl rfl TH.out RA.out.info2 RA.out.one ?_; rw [← HW2.out])
          | (refine wpList_load_mid rfl 39 (.tmp 49) rfl b5 1 rfl nn _ NT1.out Tryz.underlying39 rfl IN.out ?_))
        refine CA1.out.mono ?_
        clear CA1 RA TH NT1
        rintro e w6 ⟨rfl, h6⟩
        have h7 := h6.alloc (.cells (plcA zP) 41)
        have c0 := (NT.out _ _ 3 h7 rfl).2
        have H7 := Lib.hid h7
        clear h6 h7 H2
        by_cases h3 : r = 3
        · have g1 : ((r : Int) == 3) = true := by simp [h3]
          obtain ⟨hc0, hcE, _⟩ := PE2.out.close
          clear h3
          go_wp2_with (fail)
          have CL := K.close H7.out.below H7.out PE2.out.lg (by omega)
          rw [hc0] at CL
          generalize closeL σ = rb at CL hcE
          have CL1 := Lib.hid CL
          have PE3 := Lib.hid hcE
          clear CL hcE hc0
          refine CL1.out.mono ?_
          clear CL1 c0
          rintro e w9 ⟨rfl, h9⟩
          have H9 := Lib.hid (((h9).front 3 rfl).drop 1)
          clear h9 H7
          go_wp2_with (fail)
          go_roundw
          case rel => exact ⟨i + 1, rb.1, all, gs, by omega, by go_num, H9.out, PE3.out.more (by omega)⟩
          case measure => simp [intOf]; omega
        · have g1 : ((r : Int) == 3) = false := by simp; omega
          clear h3
          go_wp2_with (fail)
          go_roundw
          case rel =>
            have h9 := H7.out
            have H9 := Lib.hid (((h9).front 3 rfl).drop 1)
            exact ⟨i + 1, σ, all, gs, by omega, by go_num, H9.out, PE2.out.more (by omega)⟩
          case measure => simp [intOf]; omega
      · obtain ⟨pl, hpl⟩ : ∃ p : Plc, p = ⟨(s : Int), (q : Int), (ln : Int)⟩ := ⟨_, rfl⟩
        rw [← hpl] at hap hPE
        rw [hap] at CA
        have CA1 := Lib.hid CA
        have PE2 := Lib.hid hPE
        obtain ⟨ee, hee⟩ : ∃ c, c = entC ⟨pl, a.n⟩ (gslV (ad, cd, a.n.data)) := ⟨_, rfl⟩
        have hee2 : ee = .int .i64 pl.seg :: .int .i64 pl.page :: .int .i64 pl.pages :: nn := by rw [hee, hng]; rfl
        have EL : Hid (ee.length = 40) := by show _ = _; rw [hee]; exact entC_len _ _ hain.fits.sum
        have EO : Hid (∀ u ∈ ee, u.oneCell' = true) := by rw [hee]; exact entC_one rfl
        have BE : Hid (Tryz.prog.built 49 [(0, .agg (plcA pl)), (1, .agg nn.toArray)] = some ee.toArray) := by rw [hee2]; exact built_ent pl nn NL.out
        have HSN : Hid (∀ wx, (Instr.buildSlice 29 1 #[(0, .agg ee.toArray)]).run Tryz.prog wx = .ok (.slice (some ⟨wx.heap.size, 0, none⟩) 1 1) (wx.alloc (.cells ee.toArray 49))) := fun wx => run_slot_one Tryz.underlying29 slot_ent ee EL.out wx
        have HEE := Lib.hid hee
        have IP := Lib.hid (info_plc (plcA pl).toList rfl)
        clear hact hrng hain ha hnd hRA hvs hb5 hW1 hW2 hst hst3 CA hnn hng H hap hPE hr PE PL hold hee hee2 hpl
        go_wp2_with (first
          | (refine wpList_load_mid rfl 44 (.tmp 45) rfl b (o + i * 44) rfl vs _ RA.out.range Tryz.underlying44 rfl RA.out.info ?_)
          | (refine Own.wpList_allocZ rfl 44 rfl zAct.toArray ZA.out ?_; rw [← HB5.out, ← HW1.out])
          | (refine wpList_store_mid rfl 44 (.tmp 13) (.tmp 46) rfl b5 0 vs.toArray rfl rfl TH.out RA.out.info2 RA.out.one ?_; rw [← HW2.out])
          | (refine wpList_load_mid rfl 39 (.tmp 49) rfl b5 1 rfl nn _ NT1.out Tryz.underlying39 rfl IN.out ?_))
        refine CA1.out.mono ?_
        clear CA1 RA TH NT1
        rintro e w6 ⟨rfl, h6⟩
        have h7 : LSt K w.heap.size w (w6.alloc (.cells (plcA pl) 41)) p pf pt 1 σ' [AVals w6.heap.size 41 (plcA pl).toList, AVals b5 44 vs, ARow 49 40 (.slice aA all.length cA) all.length (entsC all gs)] := third (h6.boxV 41 (plcA pl).toList)
        have R7 : Hid ((w6.alloc (.cells (plcA pl) 41)).rangeAt b5 1 nn) := (NT.out _ _ 4 h7 rfl).1
        have RP : Hid ((w6.alloc (.cells (plcA pl) 41)).rangeAt w6.heap.size 0 (plcA pl).toList) := range_box h7 3 rfl
        have h8 := h7.boxV 49 ee
        obtain ⟨b8, hb8⟩ : ∃ b, b = (w6.alloc (.cells (plcA pl) 41)).heap.size := ⟨_, rfl⟩
        have HB8 := Lib.hid hb8
        rw [← hb8] at h8
        have H8 := Lib.hid h8
        have HC : Hid (∀ a', some (⟨b8, 0, none⟩ : Addr) = some a' → ∀ j u, ee[j]? = some u → ((w6.alloc (.cells (plcA pl) 41)).alloc (.cells ee.toArray 49)).cell? (a'.add j) = some u) := by
          intro a' ha' j u hu
          cases ha'
          rw [add_of, Nat.zero_add]
          exact (h8.cellV 0 rfl j hu).1
        have EL1 : Hid (ee.length = 1 * 40) := EL.out
        clear h6 H2 h7 h8 hb8
        by_cases h3 : r = 3
        · have g1 : ((r : Int) == 3) = true := by simp [h3]
          obtain ⟨hc0, hcE, _⟩ := PE2.out.close
          clear h3
          go_wp2_with (first
            | (refine wpList_load_mid rfl 41 (.tmp 14) rfl w6.heap.size 0 rfl (plcA pl).toList _ RP.out Tryz.underlying41 rfl IP.out ?_)
            | (refine wpList_load_mid rfl 39 (.tmp 64) rfl b5 1 rfl nn _ R7.out Tryz.underlying39 rfl IN.out ?_)
            | (refine Own.wpList_built rfl 49 #[(0, .tmp 63), (1, .tmp 65)] rfl ee.toArray ?_ ?_; · (simp only [List.map_toArray, List.map_cons, List.map_nil, List.toList_toArray]; exact BE.out))
            | (refine wpList_slot_one rfl 29 (.tmp 66) rfl ee 49 rfl (HSN.out _) ?_; rw [← HB8.out])
            | (at_builtin; refine wpList_many_append many_ent rfl (.tmp 62) (.tmp 67) rfl H8.out 6 rfl rfl (some ⟨b8, 0, none⟩) 1 1 ee rfl (by intro h; cases h) EL1.out HC.out EO.out (by omega) (by decide) ?_; intro a9 c9 w9 h9; have H9 := Lib.hid (h9.drop 1); have c0 := (NT.out _ _ 4 H9.out rfl).2; clear h9))
          have CL := K.close H9.out.below H9.out PE2.out.lg (by omega)
          rw [hc0] at CL
          generalize closeL σ' = rb at CL hcE
          have CL1 := Lib.hid CL
          have PE3 := Lib.hid hcE
          clear CL hcE hc0
          refine CL1.out.mono ?_
          clear CL1 c0
          rintro e w9 ⟨rfl, h9⟩
          have HX := Lib.hid (((((h9).front 3 rfl).drop 1).front 3 rfl).drop 1)
          clear h9 H9
          go_wp2_with (fail)
          go_roundw
          case rel => exact ⟨i + 1, rb.1, (all ++ [⟨pl, a.n⟩]), (gs ++ [(ad, cd, a.n.data)]), by omega, by go_num, (by rw [entsC_app PL2.out, entsC_one, ← HEE.out, List.length_append, List.length_singleton]; exact HX.out), PE3.out.more (by omega)⟩
          case measure => simp [intOf]; omega
        · have g1 : ((r : Int) == 3) = false := by simp; omega
          clear h3
          go_wp2_with (first
            | (refine wpList_load_mid rfl 41 (.tmp 14) rfl w6.heap.size 0 rfl (plcA pl).toList _ RP.out Tryz.underlying41 rfl IP.out ?_)
            | (refine wpList_load_mid rfl 39 (.tmp 64) rfl b5 1 rfl nn _ R7.out Tryz.underlying39 rfl IN.out ?_)
            | (refine Own.wpList_built rfl 49 #[(0, .tmp 63), (1, .tmp 65)] rfl ee.toArray ?_ ?_; · (simp only [List.map_toArray, List.map_cons, List.map_nil, List.toList_toArray]; exact BE.out))
            | (refine wpList_slot_one rfl 29 (.tmp 66) rfl ee 49 rfl (HSN.out _) ?_; rw [← HB8.out])
            | (at_builtin; refine wpList_many_append many_ent rfl (.tmp 62) (.tmp 67) rfl H8.out 6 rfl rfl (some ⟨b8, 0, none⟩) 1 1 ee rfl (by intro h; cases h) EL1.out HC.out EO.out (by omega) (by decide) ?_; intro a9 c9 w9 h9; have H9 := Lib.hid (h9.drop 1); have c0 := (NT.out _ _ 4 H9.out rfl).2; clear h9))
          go_roundw
          case rel =>
            have h9 := H9.out
            have HX := Lib.hid (((((h9).front 3 rfl).drop 1).front 3 rfl).drop 1)
            exact ⟨i + 1, σ', (all ++ [⟨pl, a.n⟩]), (gs ++ [(ad, cd, a.n.data)]), by omega, by go_num, (by rw [entsC_app PL2.out, entsC_one, ← HEE.out, List.length_append, List.length_singleton]; exact HX.out), PE2.out.more (by omega)⟩
          case measure => simp [intOf]; omega
    · have hik3 : i = kf := by omega
      subst hik3
      have hal60 : all.length ≤ 60 := by have := PE.out.len.1; omega
      have NA := PE.out.len.2
      have hgl : gs.length = all.length := by have := NA.len; rwa [List.length_map] at this
      have hsums : ∀ e ∈ all, e.note.sum.length = 32 := fun e he => NA.sum e.note (List.mem_map.2 ⟨e, he, rfl⟩)
      have hviews : ∀ x (hx : x < all.length) (hg : x < gs.length), gs[x].2.2 = all[x].note.data ∧ View w (fun k => k < w.heap.size) gs[x].1 gs[x].2.2 := fun x hx hg => by
        have := NA.at_ x (by rw [List.length_map]; exact hx) hg
        rwa [List.getElem_map] at this
      obtain ⟨na, hna⟩ : ∃ x, x = all.length := ⟨_, rfl⟩
      have HNA := Lib.hid hna
      have HSUM := Lib.hid hsums
      have HVW := Lib.hid hviews
      have HGL := Lib.hid hgl
      rw [← hna] at H hal60 ⊢
      clear NA hsums hviews hgl hna HAT HK3 hi
      go_wp2_with (fail)
      go_loopw [81] (fun v81 wx => ∃ x : Nat, x ≤ na ∧ v81 = .int .i64 (x : Int) ∧ LSt K w.heap.size w wx p pf pt 1 σ [ARow 49 40 (.slice aA na cA) na (entsC all gs)]) (fun v _ => na - (intOf v).toNat)
      case atStart => exact ⟨0, Nat.zero_le _, rfl, H.out⟩
      case round =>
        obtain ⟨x, hxn, rfl, hH⟩ := hrel
        have HW := Lib.hid hH
        clear H
        by_cases hx : (x : Int) < (na : Int)
        · have hxl : x < na := by omega
          have hxl2 : x < all.length := by rw [← HNA.out]; exact hxl
          have hxg : x < gs.length := by rw [HGL.out]; exact hxl2
          obtain ⟨d2, v2⟩ := HVW.out x hxl2 hxg
          have hsum := HSUM.out _ (List.getElem_mem hxl2)
          obtain ⟨hrd, b1, b2, b3⟩ := PE.out.read hm8.2 _ (List.getElem_mem hxl2)
          obtain ⟨gE, rfl, _, _, _⟩ := hH.rowAt 3 rfl (x * 40) (by omega)
          have hrng : wr.rangeAt gE (x * 40) (entC all[x] (gslV gs[x])) := by
            intro q v hv
            have hq : q < 40 := by have := (List.getElem?_eq_some_iff.1 hv).1; rwa [entC_len _ _ hsum] at this
            rw [(hH.rowRange 3 rfl (x * 40 + q) (by omega)).1]
            exact entsC_at _ _ HGL.out HSUM.out x hxl2 hxg q v hv
          obtain ⟨e, he⟩ : ∃ e, e = all[x] := ⟨_, rfl⟩
          obtain ⟨g2, hg2⟩ : ∃ g, g = gs[x] := ⟨_, rfl⟩
          rw [← he, ← hg2] at hrng d2
          rw [← hg2] at v2
          rw [← he] at hsum hrd b1 b2 b3
          rw [d2] at v2
          have hRA := round_E (P := Tryz.prog) (ty := 49) (z := zEnt) hH hrng (by rw [entC_len _ _ hsum, zEnt_len]) (by rw [zEnt_len]; exact info_ent zEnt zEnt_len) (entC_one rfl)
          obtain ⟨es, hes⟩ : ∃ c, c = entC e (gslV g2) := ⟨_, rfl⟩
          rw [← hes] at hRA
          have RA := Lib.hid hRA
          obtain ⟨b9, hb9⟩ : ∃ b, b = wr.heap.size := ⟨_, rfl⟩
          obtain ⟨W1, hW1⟩ : ∃ W, W = wr.alloc (.cells zEnt.toArray 49) := ⟨_, rfl⟩
          obtain ⟨W2, hW2⟩ : ∃ W, W = W1.setCells b9 0 es.toArray.toList := ⟨_, rfl⟩
          have hst := hRA.st
          rw [← hb9, ← hW1, ← hW2] at hst
          have TH := Lib.hid hRA.there
          rw [← hb9, ← hW1] at TH
          have hst3 := third hst
          have H2 := Lib.hid hst3
          obtain ⟨pl, hpl⟩ : ∃ p, p = e.plc := ⟨_, rfl⟩
          have CR := K.read pl hst3.below hst3 PE.out.lg (by omega) (by rw [hpl]; exact b1) (by rw [hpl]; exact b2) (by rw [hpl]; exact b3)
          rw [hpl, hrd, ← hpl] at CR
          have CR1 := Lib.hid CR
          have RB := range_box hst3 3 rfl
          rw [hes] at RB
          have RP : Hid (W2.rangeAt b9 0 (plcA pl).toList) := by rw [hpl]; exact entC_plc e _ RB
          have IP := Lib.hid (info_plc (plcA pl).toList rfl)
          obtain ⟨n2, hn2⟩ : ∃ c, c = Rec.ntC e.note (gslV g2) := ⟨_, rfl⟩
          have L2 : Hid (n2.length = 37) := by show _ = _; rw [hn2]; exact Rec.ntC_len _ _ hsum
          have R3 : Hid (∀ wx Ps j, Own.St w.heap.size w wx Ps → Ps[j]? = some (AVals b9 49 es) → wx.rangeAt b9 3 n2) := fun wx Ps j hx hj => by
            have h := range_box hx j hj
            rw [hes] at h
            have h2 := entC_nte e _ h
            rw [Nat.zero_add] at h2
            rw [hn2]
            exact h2
          have ZE := Lib.hid zero_ent
          have HB9 := Lib.hid hb9
          have HW1 := Lib.hid hW1
          have HW2 := Lib.hid hW2
          have HN2 := Lib.hid hn2
          have HV2 := Lib.hid v2
          have HD2 := Lib.hid d2
          have HSM := Lib.hid hsum
          clear hrng hRA hes hb9 hW1 hW2 hst hst3 CR RB he hg2 hpl hn2 v2 d2 hsum hrd b1 b2 b3 hxg hxl2 hH HW
          go_wp2_with (first
            | (refine wpList_load_mid rfl 49 (.tmp 83) rfl gE (x * 40) rfl es _ RA.out.range Tryz.underlying49 rfl RA.out.info ?_)
            | (refine Own.wpList_allocZ rfl 49 rfl zEnt.toArray ZE.out ?_; rw [← HB9.out, ← HW1.out])
            | (refine wpList_store_mid rfl 49 (.tmp 17) (.tmp 84) rfl b9 0 es.toArray rfl rfl TH.out RA.out.info2 RA.out.one ?_; rw [← HW2.out])
            | (refine wpList_load_mid rfl 41 (.tmp 87) rfl b9 0 rfl (plcA pl).toList _ RP.out Tryz.underlying41 rfl IP.out ?_))
          refine CR1.out.mono ?_
          clear CR1 RA TH RP
          rintro e6 w6 ⟨g1, hg1, rfl, h6⟩
          have h6c := third h6
          obtain ⟨rn, hrn⟩ : ∃ r, r = Rec.ntC e.note (gslV g1) := ⟨_, rfl⟩
          have hrl : rn.length = 37 := by rw [hrn]; exact Rec.ntC_len _ _ HSM.out
          have RO : Hid (rn.toArray.all (·.oneCell') = true) := by rw [hrn]; exact all_oneCell_toArray (Rec.ntC_one rfl)
          rw [show Rec.ntV e.note (gslV g1) = .agg rn.toArray by rw [hrn]]
          obtain ⟨z, hz⟩ : ∃ z, z = Rec.ntC RecM.zeroN Rec.nilV := ⟨_, rfl⟩
          have HZ2 : Hid ((Tryz.prog.info? 39).bind (·.zero) = some (.agg z.toArray)) := by rw [hz]; exact Rec.zero_note
          have ZL : Hid (z.length = 37) := by show _ = _; rw [hz]; exact Rec.ntC_len _ _ rfl
          obtain ⟨b7, hb7⟩ : ∃ b, b = w6.heap.size := ⟨_, rfl⟩
          obtain ⟨W6, hW6⟩ : ∃ W, W = w6.alloc (.cells z.toArray 39) := ⟨_, rfl⟩
          have hz6 := h6c.boxV 39 z
          rw [← hb7, ← hW6] at hz6
          have TH := Lib.hid (hz6.thereV 0 rfl (n := rn.toArray.size) (by rw [List.size_toArray, hrl, ZL.out]; exact Nat.le_refl _))
          have hz7 := Own.St.setAll 0 rn 0 W6 _ z hz6 rfl (by rw [hrl, ZL.out])
          simp only [List.set_cons_zero, List.take_zero, List.nil_append] at hz7
          obtain ⟨W7, hW7⟩ : ∃ W, W = W6.setCells b7 0 rn.toArray.toList := ⟨_, rfl⟩
          have hW7b := hW7
          rw [List.toList_toArray] at hW7b
          rw [← hW7b] at hz7
          have h7c := third hz7
          have H7 := Lib.hid h7c
          have HB7 := Lib.hid hb7
          have HW6 := Lib.hid hW6
          have HW7 := Lib.hid hW7
          have IR := Lib.hid (Rec.info_noteA rn hrl)
          have RL := Lib.hid hrl
          have RN : Hid (W7.rangeAt b7 0 rn) := range_box h7c 3 rfl
          have R7 : Hid (W7.rangeAt b9 3 n2) := R3.out _ _ 5 h7c rfl
          have CSm : Hid (Calls Tryz.prog 10 #[.agg rn.toArray, .agg n2.toArray] W7 fun e w' => e = .returned (.bool true) ∧ Below W7.heap.size W7 w') := by
            have v1 := (h7c.givenAt 4 rfl g1 (List.mem_singleton.2 rfl)).1
            have v2 : View W7 (fun k => k < w.heap.size) g2.1 e.note.data := HV2.out.same (fun k hk => h7c.below.block k hk)
            rw [hg1] at v1
            have e1 : gslV g1 = .slice g1.1 e.note.data.length g1.2.1 := by unfold gslV; rw [hg1]
            have e2 : gslV g2 = .slice g2.1 e.note.data.length g2.2.1 := by unfold gslV; rw [HD2.out]
            rw [hrn, HN2.out, e1, e2]
            exact Rec.same_self e.note HSM.out g1.1 g2.1 e.note.data.length g1.2.1 g2.2.1 W7 v1 v2 rfl
          clear h6 h6c hrn hrl hz hb7 hW6 hz6 hz7 hW7 hW7b h7c hg1 H2 R3 HN2
          go_wp2_with (first
            | (refine Own.wpList_allocZ rfl 39 rfl z.toArray HZ2.out ?_; rw [← HB7.out, ← HW6.out])
            | (refine wpList_store_mid rfl 39 (.tmp 18) (.tmp 90) rfl b7 0 rn.toArray rfl rfl TH.out IR.out RO.out ?_; rw [← HW7.out])
            | (refine Byt.wpList_val rfl (Rec.load_note rn RL.out rfl _ (b := b7) (k := 0) RN.out rfl) ?_)
            | (refine Byt.wpList_val rfl (Rec.load_note n2 L2.out rfl _ (b := b9) (k := 3) R7.out rfl) ?_))
          refine CSm.out.mono ?_
          clear CSm TH RN R7
          rintro e8 w8 ⟨rfl, hb8⟩
          have h8 := H7.out.later hb8
          have H8 := Lib.hid ((((((h8.front 3 rfl).drop 1).front 3 rfl).drop 1).front 3 rfl).drop 1)
          clear h8 hb8 H7
          go_wp2_with (fail)
          go_roundw
          case rel => exact ⟨x + 1, by omega, by go_num, H8.out⟩
          case measure => simp [intOf]; omega
        · have hxe : x = na := by omega
          obtain ⟨hc0, hcE, k, Ns, hki, hallN, hfin⟩ := PE.out.close
          have CL := K.close HW.out.below HW.out PE.out.lg (by omega)
          rw [hc0] at CL
          obtain ⟨hsl, hscan⟩ := hfin (by omega)
          generalize closeL σ = rb at CL hcE hsl hscan
          obtain ⟨σ2, hσ2⟩ : ∃ s, s = rb.1 := ⟨_, rfl⟩
          rw [← hσ2] at CL hcE hsl hscan
          have CL1 := Lib.hid CL
          have LG2 := Lib.hid hcE.lg
          have HSC := Lib.hid hscan
          have HAN := Lib.hid hallN
          have CSL : Hid (∀ wx Ps, LSt K w.heap.size w wx p pf pt 1 σ2 Ps → Calls Tryz.prog 11 #[ptr pt] wx fun e w' => ∃ ao c, e = .returned (.slice ao k c) ∧ LSt K w.heap.size w w' p pf pt 1 σ2 (Tab.RowI (.slice ao k c) (List.range k) k :: Ps)) := fun wx Ps hx => by
            have c := TK.sealedOwn hx.below (hx.front 2 rfl) LG2.out.tb (by omega)
            rw [hsl, List.length_range] at c
            refine c.mono ?_
            rintro e w' ⟨ao, c, h1, h2⟩
            exact ⟨ao, c, h1, ((third h2).front 2 rfl).front 2 rfl⟩
          have CS : Hid (∀ (j : Nat) wx Ps, j < k → LSt K w.heap.size w wx p pf pt 1 σ2 Ps → Calls Tryz.prog 12 #[ptr p, .int .i64 (j : Int), .int .i64 1] wx fun e w' => ∃ (v : Value) (gs : List GSl), gs.map (fun g => g.2.2) = (ents (j : Int) 1 (Ns j)).map (fun e => e.note.data) ∧ e = .returned (.tuple #[.int .u64 ((j + 1 : Nat) : Int), v, errL 0]) ∧
              LSt K w.heap.size w w' p pf pt 1 σ2 (ARow 49 40 v (ents (j : Int) 1 (Ns j)).length (entsC (ents (j : Int) 1 (Ns j)) gs) :: AGivens gs :: Ps)) := fun j wx Ps hj hx => by
            have c := K.scan (j : Int) 1 hx.below hx LG2.out (by omega) (by constructor <;> omega) (by constructor <;> omega)
            rw [HSC.out j hj] at c
            refine c.mono ?_
            rintro e w' ⟨v, gs, h1, h2, h3⟩
            exact ⟨v, gs, h1, h2, behind2 h3⟩
          have hk60 : k ≤ 60 := by omega
          clear CL hcE hsl hscan hσ2 hallN hfin hc0 PE
          go_wp2_with (fail)
          refine CL1.out.mono ?_
          clear CL1
          rintro e6 w6 ⟨rfl, h6⟩
          have CSL1 := Lib.hid (CSL.out _ _ h6)
          clear h6 CSL HW
          go_wp2_with (fail)
          refine CSL1.out.mono ?_
          clear CSL1
          rintro e7 w7 ⟨aS, cS, rfl, h7⟩
          have H7 := Lib.hid (third (third (h7.rowFresh (e := 49) (size := 40))).givensNil)
          clear h7
          go_wp2_with (fail)
          go_loopw [20, 108] (fun v20 v108 wx => ∃ (j nf : Nat) (gF : List GSl), j ≤ k ∧ nf = (entsN Ns j).length ∧ gF.map (fun g => g.2.2) = (entsN Ns j).map (fun e => e.note.data) ∧ v108 = .int .i64 (j : Int) ∧ LSt K w.heap.size w wx p pf pt 1 σ2 [AGivens gF, ARow 49 40 v20 nf (entsC (entsN Ns j) gF), Tab.RowI (.slice aS k cS) (List.range k) k, ARow 49 40 (.slice aA na cA) na (entsC all gs)]) (fun _ v _ => k - (intOf v).toNat)
          case atStart => exact ⟨0, 0, [], Nat.zero_le _, rfl, rfl, rfl, H7.out⟩
          case round =>
            obtain ⟨j, nf, gF, hjk, hnf, hgF, rfl, hH⟩ := hrel
            have H := Lib.hid hH
            obtain ⟨aF, cF, rfl⟩ := hH.rowForm 4 rfl
            have HNF := Lib.hid hnf
            have HGF := Lib.hid hgF
            by_cases hj : (j : Int) < (k : Int)
            · have hjl : j < k := by omega
              obtain ⟨gS, rfl, ⟨u, hu, hc⟩, _, _⟩ := hH.rowAt 5 rfl j (by omega)
              have hu2 : u = .int .i64 (j : Int) := by
                rw [List.getElem?_map, List.getElem?_range hjl] at hu
                exact (Option.some.inj hu).symm
              subst hu2
              obtain ⟨j1, hj1⟩ : ∃ x, x = j + 1 := ⟨_, rfl⟩
              have ej : (j : Int) + 1 = (j1 : Int) := by omega
              have HJ1 := Lib.hid hj1
              have hj71 : j1 ≤ 71 := by omega
              have CS1 := Lib.hid (CS.out j _ _ hjl H.out)
              rw [← hj1] at CS1
              obtain ⟨ne, hne⟩ : ∃ x, x = (ents (j : Int) 1 (Ns j)).length := ⟨_, rfl⟩
              have hmono := entsN_mono Ns (j + 1) k hjl
              have hlen1 : (entsN Ns (j + 1)).length = nf + ne := by
                show (entsN Ns j ++ ents (j : Int) 1 (Ns j)).length = _
                rw [List.length_append, ← hnf, ← hne]
              have hnf60 : nf + ne ≤ 60 := by
                have h1 := congrArg List.length HAN.out
                have h2 := HNA.out
                omega
              have HL1 := Lib.hid hlen1
              rw [← hne] at CS1
              clear hH hu hj1 hnf hgF hmono hlen1 hne H7
              go_wp2_with (fail)
              refine CS1.out.mono ?_
              clear CS1 hc
              rintro e8 w8 ⟨vE, ge, hge, rfl, h8⟩
              obtain ⟨aE, cE, rfl⟩ := h8.rowForm 3 rfl
              obtain ⟨hrl, _, _, hno⟩ := h8.rowLen 3 rfl
              have HRL := Lib.hid hrl
              have HNO := Lib.hid hno
              have HC := Lib.hid (h8.rowNews 3 rfl)
              have HO := Lib.hid (entsC_cells (ents (j : Int) 1 (Ns j)) ge)
              have H8 := Lib.hid h8
              have HGE := Lib.hid hge
              clear h8 hge hrl hno H
              go_wp2_with (at_builtin; refine wpList_many_append many_ent rfl (.tmp 129) (.tmp 130) rfl H8.out 6 rfl rfl aE ne cE (entsC (ents (j : Int) 1 (Ns j)) ge) rfl HNO.out HRL.out HC.out HO.out (by omega) (by decide) ?_; intro a9 c9 w9 h9; have H9 := Lib.hid h9; clear h9)
              go_roundw
              case rel =>
                have hgl : gF.length = (entsN Ns j).length := by have := congrArg List.length HGF.out; simpa using this
                have h1 := (((H9.out.front 3 rfl).drop 1).front 3 rfl).front 4 rfl
                have h2 := third (St.givensJoin h1)
                refine ⟨j1, nf + ne, gF ++ ge, by omega, ?_, ?_, by go_num, ?_⟩
                · rw [HJ1.out, HL1.out]
                · rw [HJ1.out]
                  show _ = (entsN Ns j ++ ents (j : Int) 1 (Ns j)).map _
                  rw [List.map_append, List.map_append, HGF.out, HGE.out]
                · rw [HJ1.out]
                  show LSt _ _ _ _ _ _ _ _ _ [_, ARow _ _ _ _ (entsC (entsN Ns j ++ ents (j : Int) 1 (Ns j)) (gF ++ ge)), _, _]
                  rw [entsC_app hgl]
                  exact h2
              case measure => simp [intOf]; omega
            · have hjk2 : j = k := by omega
              have hnk : nf = na := by rw [hnf, hjk2, ← HAN.out, HNA.out]
              have hE : entsN Ns j = all := by rw [hjk2, HAN.out]
              rw [hE] at hH hgF
              rw [hnk] at hH ⊢
              have hgl : gF.length = all.length := by have := congrArg List.length hgF; simpa using this
              have E1 : EntsAt wr (fun k => k < wr.heap.size) aF all gF := ents_row hH 4 rfl HNA.out hgl HSUM.out (fun x hx hg => ⟨by
                have h := congrArg (fun l => l[x]?) hgF
                simp only [List.getElem?_map] at h
                rw [List.getElem?_eq_getElem hg, List.getElem?_eq_getElem hx] at h
                exact Option.some.inj h, (hH.givenAt 3 rfl _ (List.getElem_mem hg)).1⟩)
              have E2 : EntsAt wr (fun k => k < w.heap.size) aA all gs := ents_row hH 6 rfl HNA.out HGL.out HSUM.out (fun x hx hg => ⟨(HVW.out x hx hg).1, (HVW.out x hx hg).2.same (fun k hk => hH.below.block k hk)⟩)
              have CSm := Lib.hid (same_ents cF cA all gF gs na HNA.out (by omega) E1 E2)
              have HH := Lib.hid hH
              clear hH hgF hnk hE E1 E2 hjk2 hnf hgl H H7 HNF HGF
              go_wp2_with (fail)
              refine CSm.out.mono ?_
              clear CSm
              rintro e8 w8 ⟨rfl, hb8⟩
              have H8 := Lib.hid (HH.out.later hb8)
              clear hb8 HH
              go_wp2_with (fail)
              go_ret
              exact ⟨rfl, H8.out.below⟩
end Lg
end Go.Proofs.YtmdphcebmgcdbaaGreat
end
section
namespace Go.Proofs.YtmdphcebmgcdbaaGreat
open Go.RowKit Go.Own
namespace Fla
open Go.FlaM Byt
abbrev strV (b : Bs) : Value := .string (strB b)
section
variable {B : Nat} {w0 w : World} {Ps : List Asn} {p : Nat} {s : FS} {vS vL vW : Value}
end
end Fla
end Go.Proofs.YtmdphcebmgcdbaaGreat
end
section
namespace Go.Proofs.YtmdphcebmgcdbaaGreat
open Go.RowKit Go.Own
namespace Rec
open Go.RecM Byt
def inKey : InT (RecM.Bs × Nat) := fun k _ _ cs => cs = keyC k.1 k.2 ∧ k.1.length = 32 ∧ k.2 < 4294967296
theorem nat_u32 {a : Int} (h : (Lit.int .u32 a).wf = true) : ∃ u : Nat, a = u ∧ u < 4294967296 := by
  have : 0 ≤ a ∧ a < 4294967296 := by
    have : 0 ≤ a ∧ a ≤ 4294967295 := by simpa [Lit.wf, IntKind.min, IntKind.max, IntKind.signed, IntKind.bits] using h
    omega
  exact ⟨a.toNat, by omega, by omega⟩
theorem nat_u64 {a : Int} (h : (Lit.int .u64 a).wf = true) : ∃ u : Nat, a = u ∧ u < 18446744073709551616 := by
  have : 0 ≤ a ∧ a < 18446744073709551616 := by
    have : 0 ≤ a ∧ a ≤ 18446744073709551615 := by simpa [Lit.wf, IntKind.min, IntKind.max, IntKind.signed, IntKind.bits] using h
    omega
  exact ⟨a.toNat, by omega, by omega⟩
theorem opens_key : Opens Tryz.prog 36 inKey := by
  intro H enc w fuel cs x h
  obtain ⟨hl, hf⟩ := opens_fields (P := Tryz.prog) Tryz.underlying36 h
  rw [show Tryz.prog.cellsOf 36 = 33 by kernel_rfl] at hl
  obtain ⟨n0, y0, h0⟩ := hf 0 _ rfl
  obtain ⟨n1, y1, h1⟩ := hf 1 _ rfl
  obtain ⟨s, hs⟩ := opens_bytesA (P := Tryz.prog) (n := 32) Tryz.underlying34 Tryz.underlying5 (by kernel_rfl) (by kernel_rfl) H enc w n0 _ y0 h0
  obtain ⟨a1, e1, w1⟩ := opens_int (P := Tryz.prog) Tryz.underlying31 H enc w n1 _ y1 h1
  obtain ⟨hs1, hs2⟩ := hs
  obtain ⟨u, rfl, hu⟩ := nat_u32 w1
  have k0 : Tryz.prog.cellsOf 34 = 32 := by kernel_rfl
  have k1 : Tryz.prog.cellsOf 31 = 1 := by kernel_rfl
  refine ⟨(s, u), ?_, hs2, hu⟩
  show cs = keyC s u
  have f0 : cs.take 32 = s.map byteV := by simpa [k0] using hs1
  have f1 : (cs.drop 32).take 1 = [.int .u32 (u : Int)] := by simpa [k1] using e1
  unfold keyC
  rw [← f0, ← f1, List.take_of_length_le (l := cs.drop 32) (by simp [hl]), List.take_append_drop]
end Rec
end Go.Proofs.YtmdphcebmgcdbaaGreat
end
section
namespace Go.Proofs.YtmdphcebmgcdbaaGreat
open Go.RowKit Go.Own
namespace Rec
open Go.RecM Byt
theorem split37 (cs : List Value) (h : cs.length = 37) : cs = cs.take 1 ++ ((cs.drop 1).take 1 ++ ((cs.drop 2).take 1 ++ ((cs.drop 3).take 33 ++ (cs.drop 36).take 1))) := by
  have e4 : (cs.drop 36).take 1 = cs.drop 36 := List.take_of_length_le (by simp [h])
  have e3 : (cs.drop 3).take 33 ++ cs.drop 36 = cs.drop 3 := by
    have := List.take_append_drop 33 (cs.drop 3)
    rwa [List.drop_drop] at this
  have e2 : (cs.drop 2).take 1 ++ cs.drop 3 = cs.drop 2 := by
    have := List.take_append_drop 1 (cs.drop 2)
    rwa [List.drop_drop] at this
  have e1 : (cs.drop 1).take 1 ++ cs.drop 2 = cs.drop 1 := by
    have := List.take_append_drop 1 (cs.drop 1)
    rwa [List.drop_drop] at this
  rw [e4, e3, e2, e1, List.take_append_drop]
def inNte : InT Nte := fun n B w cs => ∃ ad cd, cs = ntC n (.slice ad n.data.length cd) ∧ inBytes n.data B w [.slice ad n.data.length cd] ∧ Fits n
theorem opens_nte : Opens Tryz.prog 39 inNte := by
  intro H enc w fuel cs x h
  obtain ⟨hl, hf⟩ := opens_fields (P := Tryz.prog) Tryz.underlying39 h
  rw [show Tryz.prog.cellsOf 39 = 37 by kernel_rfl] at hl
  obtain ⟨n0, y0, h0⟩ := hf 0 _ rfl
  obtain ⟨n1, y1, h1⟩ := hf 1 _ rfl
  obtain ⟨n2, y2, h2⟩ := hf 2 _ rfl
  obtain ⟨n3, y3, h3⟩ := hf 3 _ rfl
  obtain ⟨n4, y4, h4⟩ := hf 4 _ rfl
  obtain ⟨a0, e0, w0⟩ := opens_int (P := Tryz.prog) Tryz.underlying5 H enc w n0 _ y0 h0
  obtain ⟨a1, e1, w1⟩ := opens_int (P := Tryz.prog) Tryz.underlying31 H enc w n1 _ y1 h1
  obtain ⟨a2, e2, w2⟩ := opens_int (P := Tryz.prog) Tryz.underlying32 H enc w n2 _ y2 h2
  obtain ⟨k, hk, hk1, hk2⟩ := opens_key H enc w n3 _ y3 h3
  obtain ⟨l, hb⟩ := opens_bytes (P := Tryz.prog) Tryz.underlying37 Tryz.underlying5 (by kernel_rfl) H enc w n4 _ y4 h4
  have k0 : Tryz.prog.cellsOf 5 = 1 := by kernel_rfl
  have k1 : Tryz.prog.cellsOf 31 = 1 := by kernel_rfl
  have k2 : Tryz.prog.cellsOf 32 = 1 := by kernel_rfl
  have k3 : Tryz.prog.cellsOf 36 = 33 := by kernel_rfl
  have k4 : Tryz.prog.cellsOf 37 = 1 := by kernel_rfl
  obtain ⟨c, rfl⟩ := u8_byte w0
  obtain ⟨ad, rfl, had⟩ := nat_u32 w1
  obtain ⟨sq, rfl, hsq⟩ := nat_u64 w2
  have f0 : cs.take 1 = [.int .u8 (c.toNat : Int)] := by simpa [k0] using e0
  have f1 : (cs.drop 1).take 1 = [.int .u32 (ad : Int)] := by simpa [k1] using e1
  have f2 : (cs.drop 2).take 1 = [.int .u64 (sq : Int)] := by simpa [k2] using e2
  have f3 : (cs.drop 3).take 33 = keyC k.1 k.2 := by simpa [k3] using hk
  have hb' : inBytes l w.heap.size w ((cs.drop 36).take 1) := by simpa [k4] using hb
  have hbb := hb'
  obtain ⟨ab, cb, q1, q2, q3, q4, q5⟩ := hb'
  rw [q1] at hbb
  refine ⟨⟨c, ad, sq, k.1, k.2, l⟩, ab, cb, ?_, hbb, ⟨had, hsq, hk1, hk2⟩⟩
  unfold ntC
  simp only
  rw [← f3, ← q1]
  have h37 := split37 cs hl
  rw [f0, f1, f2] at h37
  exact h37
end Rec
end Go.Proofs.YtmdphcebmgcdbaaGreat
end
section
namespace Go.Proofs.YtmdphcebmgcdbaaGreat
open Go.RowKit Go.Own
namespace Lg
open Go.LogM Byt
def inPlc : InT Plc := fun p _ _ cs => cs = (plcA p).toList ∧ i64L p.seg ∧ i64L p.page ∧ i64L p.pages
theorem list3 (cs : List Value) (h : cs.length = 3) {a b c : Value} (f0 : cs.take 1 = [a]) (f1 : (cs.drop 1).take 1 = [b]) (f2 : (cs.drop 2).take 1 = [c]) : cs = [a, b, c] := by
  obtain ⟨x, r, rfl⟩ := List.exists_cons_of_length_eq_add_one h
  obtain ⟨y, r2, rfl⟩ := List.exists_cons_of_length_eq_add_one (l := r) (by simpa using h)
  obtain ⟨z, r3, rfl⟩ := List.exists_cons_of_length_eq_add_one (l := r2) (by simpa using h)
  obtain rfl := List.eq_nil_of_length_eq_zero (l := r3) (by simpa using h)
  have q0 : x = a := (List.cons.inj f0).1
  have q1 : y = b := (List.cons.inj f1).1
  have q2 : z = c := (List.cons.inj f2).1
  rw [q0, q1, q2]
theorem opens_plc : Opens Tryz.prog 41 inPlc := by
  intro H enc w fuel cs x h
  obtain ⟨hl, hf⟩ := opens_fields (P := Tryz.prog) Tryz.underlying41 h
  rw [show Tryz.prog.cellsOf 41 = 3 by kernel_rfl] at hl
  obtain ⟨n0, y0, h0⟩ := hf 0 _ rfl
  obtain ⟨n1, y1, h1⟩ := hf 1 _ rfl
  obtain ⟨n2, y2, h2⟩ := hf 2 _ rfl
  obtain ⟨a0, e0, w0⟩ := opens_int (P := Tryz.prog) Tryz.underlying3 H enc w n0 _ y0 h0
  obtain ⟨a1, e1, w1⟩ := opens_int (P := Tryz.prog) Tryz.underlying3 H enc w n1 _ y1 h1
  obtain ⟨a2, e2, w2⟩ := opens_int (P := Tryz.prog) Tryz.underlying3 H enc w n2 _ y2 h2
  have k0 : Tryz.prog.cellsOf 3 = 1 := by kernel_rfl
  have f0 : cs.take 1 = [.int .i64 a0] := by simpa [k0] using e0
  have f1 : (cs.drop 1).take 1 = [.int .i64 a1] := by simpa [k0] using e1
  have f2 : (cs.drop 2).take 1 = [.int .i64 a2] := by simpa [k0] using e2
  refine ⟨⟨a0, a1, a2⟩, ?_, Fla.wf64 w0, Fla.wf64 w1, Fla.wf64 w2⟩
  exact list3 cs hl f0 f1 f2
set_option maxRecDepth 4000 in
theorem split44 (cs : List Value) (h : cs.length = 44) : cs = cs.take 1 ++ ((cs.drop 1).take 37 ++ ((cs.drop 38).take 3 ++ ((cs.drop 41).take 1 ++ ((cs.drop 42).take 1 ++ (cs.drop 43).take 1)))) := by
  have e5 : (cs.drop 43).take 1 = cs.drop 43 := List.take_of_length_le (by simp [h])
  have e4 : (cs.drop 42).take 1 ++ cs.drop 43 = cs.drop 42 := by
    have := List.take_append_drop 1 (cs.drop 42)
    rwa [List.drop_drop] at this
  have e3 : (cs.drop 41).take 1 ++ cs.drop 42 = cs.drop 41 := by
    have := List.take_append_drop 1 (cs.drop 41)
    rwa [List.drop_drop] at this
  have e2 : (cs.drop 38).take 3 ++ cs.drop 41 = cs.drop 38 := by
    have := List.take_append_drop 3 (cs.drop 38)
    rwa [List.drop_drop] at this
  have e1 : (cs.drop 1).take 37 ++ cs.drop 38 = cs.drop 1 := by
    have := List.take_append_drop 37 (cs.drop 1)
    rwa [List.drop_drop] at this
  rw [e5, e4, e3, e2, e1, List.take_append_drop]
set_option maxRecDepth 4000 in
theorem opens_act : Opens Tryz.prog 44 inAct := by
  intro H enc w fuel cs x h
  obtain ⟨hl, hf⟩ := opens_fields (P := Tryz.prog) Tryz.underlying44 h
  rw [show Tryz.prog.cellsOf 44 = 44 by kernel_rfl] at hl
  obtain ⟨n0, y0, h0⟩ := hf 0 _ rfl
  obtain ⟨n1, y1, h1⟩ := hf 1 _ rfl
  obtain ⟨n2, y2, h2⟩ := hf 2 _ rfl
  obtain ⟨n3, y3, h3⟩ := hf 3 _ rfl
  obtain ⟨n4, y4, h4⟩ := hf 4 _ rfl
  obtain ⟨n5, y5, h5⟩ := hf 5 _ rfl
  obtain ⟨a0, e0, w0⟩ := opens_int (P := Tryz.prog) Tryz.underlying5 H enc w n0 _ y0 h0
  obtain ⟨n, ad, cd, en, hb, hfit⟩ := Rec.opens_nte H enc w n1 _ y1 h1
  obtain ⟨p, ep, hp⟩ := opens_plc H enc w n2 _ y2 h2
  obtain ⟨a3, e3, _⟩ := opens_int (P := Tryz.prog) Tryz.underlying3 H enc w n3 _ y3 h3
  obtain ⟨a4, e4, w4⟩ := opens_int (P := Tryz.prog) Tryz.underlying5 H enc w n4 _ y4 h4
  obtain ⟨l, af, cf, e5, _⟩ := opens_slice (P := Tryz.prog) 1 Tryz.underlying42 (by kernel_rfl) (by decide) (opens_int (P := Tryz.prog) Tryz.underlying3) H enc w n5 _ y5 h5
  have k0 : Tryz.prog.cellsOf 5 = 1 := by kernel_rfl
  have k1 : Tryz.prog.cellsOf 39 = 37 := by kernel_rfl
  have k2 : Tryz.prog.cellsOf 41 = 3 := by kernel_rfl
  have k3 : Tryz.prog.cellsOf 3 = 1 := by kernel_rfl
  have k5 : Tryz.prog.cellsOf 42 = 1 := by kernel_rfl
  obtain ⟨c, rfl⟩ := u8_byte w0
  obtain ⟨c4, rfl⟩ := u8_byte w4
  have f0 : cs.take 1 = [.int .u8 (c.toNat : Int)] := by simpa [k0] using e0
  have f1 : (cs.drop 1).take 37 = Rec.ntC n (.slice ad n.data.length cd) := by simpa [k1] using en
  have f2 : (cs.drop 38).take 3 = (plcA p).toList := by simpa [k2] using ep
  have f3 : (cs.drop 41).take 1 = [.int .i64 a3] := by simpa [k3] using e3
  have f4 : (cs.drop 42).take 1 = [.int .u8 (c4.toNat : Int)] := by simpa [k0] using e4
  have f5 : (cs.drop 43).take 1 = [.slice af l.length cf] := by simpa [k5] using e5
  have g := in_given hb
  refine ⟨⟨c, n, p, a3, c4, l⟩, ad, cd, af, l.length, cf, ?_, ⟨g.view, g.room, g.nil, hfit, hp⟩⟩
  have h44 := split44 cs hl
  rw [f0, f1, f2, f3, f4, f5] at h44
  exact h44
theorem in_back (a0 : Option Addr) (len0 cap0 : Nat) (l : List ActD) (p : Int) (hp : (Lit.int .u8 p).wf = true) {w : World} (w0 : inSlice 44 inAct l w.heap.size w [.slice a0 len0 cap0]) {FK : Fla.Kept w} {TK : Tab.Kept w} (K : Kept w FK TK) : Calls Tryz.prog 3 #[.slice a0 len0 cap0, .int .u8 p] w (RetYes w) := by
  obtain ⟨p, rfl⟩ := u8_byte hp
  have h3 := p.toNat_lt
  exact walk_back K a0 len0 cap0 l p.toNat (by omega) w0
end Lg
end Go.Proofs.YtmdphcebmgcdbaaGreat
end
section
namespace Go.LogM
open FlaM (FS)
structure LR (pp : Nat) (tb : TabM.T) (a q nx : Nat) : Prop where
  seq : q < tb.next
  low : nx ≤ pp
  cur : ∀ i, TabM.cur tb = some i → ((TabM.at_ tb.rows i).seq = q ∧ nx = a) ∨ ((TabM.at_ tb.rows i).seq ≠ q ∧ a = pp)
def leftN (pp : Nat) (tb : TabM.T) (q nx : Nat) : Nat :=
  match TabM.cur tb with
  | none => 0
  | some i => if (TabM.at_ tb.rows i).seq = q then pp - nx else 0
theorem left_none {pp q nx : Nat} {tb : TabM.T} (h : TabM.cur tb = none) : leftN pp tb q nx = 0 := by unfold leftN; rw [h]
theorem left_some {pp q nx i : Nat} {tb : TabM.T} (h : TabM.cur tb = some i) : leftN pp tb q nx = if (TabM.at_ tb.rows i).seq = q then pp - nx else 0 := by unfold leftN; rw [h]
section
variable {pp : Nat} {tb : TabM.T} {a q nx N : Nat}
theorem LR.left (h : LR pp tb a q nx) : leftN pp tb q nx = if (TabM.cur tb).isSome = true then pp - a else 0 := by
  cases hc : TabM.cur tb with
  | none => rw [left_none hc]; rfl
  | some i =>
    rw [left_some hc]
    simp only [Option.isSome_some, if_true]
    rcases h.cur i hc with ⟨h1, h2⟩ | ⟨h1, h2⟩
    · rw [if_pos h1, h2]
    · rw [if_neg h1, h2, Nat.sub_self]
theorem LR.here (h : LR pp tb a q nx) {i : Nat} (hc : TabM.cur tb = some i) (ha : a < pp) : (TabM.at_ tb.rows i).seq = q ∧ nx = a := by
  rcases h.cur i hc with h1 | ⟨_, h2⟩
  · exact h1
  · omega
theorem lr_new (ok : TabM.Ok tb N) : LR pp tb pp 0 pp :=
  ⟨ok.low, Nat.le_refl _, fun i _ => by
    by_cases h : (TabM.at_ tb.rows i).seq = 0
    · exact .inl ⟨h, rfl⟩
    · exact .inr ⟨h, rfl⟩⟩
theorem seal_none (h : TabM.LoadOk tb.rows tb.next) : TabM.cur (TabM.sealT tb).1 = none := by
  unfold TabM.sealT
  cases hc : TabM.cur tb with
  | none => exact hc
  | some i =>
    obtain ⟨hi, hk⟩ := TabM.cur_some hc
    show TabM.curF 0 (tb.rows.set i _) = none
    refine curF_no _ _ fun s hs hs1 => ?_
    obtain ⟨j, hj, rfl⟩ := List.getElem_of_mem hs
    rw [List.length_set] at hj
    by_cases hij : i = j
    · subst hij
      rw [List.getElem_set_self] at hs1
      cases hs1
    · rw [List.getElem_set_ne hij] at hs1
      rw [TabM.at_lt hi] at hk
      exact hij (h.one i j hi hj hk hs1)
theorem seal_next (tb : TabM.T) : (TabM.sealT tb).1.next = tb.next := by
  unfold TabM.sealT
  split <;> rfl
theorem seal_len (tb : TabM.T) : (TabM.sealT tb).1.rows.length = tb.rows.length := by
  unfold TabM.sealT
  split
  · rfl
  · exact List.length_set
theorem LR.sealed (h : LR pp tb a q nx) (hl : TabM.LoadOk tb.rows tb.next) (a' : Nat) : LR pp (TabM.sealT tb).1 a' q nx :=
  ⟨by rw [seal_next]; exact h.seq, h.low, fun i hi => by rw [seal_none hl] at hi; cases hi⟩
structure Opn (tb : TabM.T) (i : Nat) : Prop where
  eq : (TabM.openT tb).2 = (i, tb.next, 0)
  next : (TabM.openT tb).1.next = tb.next + 1
  lt : i < tb.rows.length
  len : (TabM.openT tb).1.rows.length = tb.rows.length
  cur : TabM.cur (TabM.openT tb).1 = some i
  seq : (TabM.at_ (TabM.openT tb).1.rows i).seq = tb.next
theorem opn_of (hc : TabM.cur tb = none) (h0 : (TabM.openT tb).2.2.2 = 0) : ∃ i, Opn tb i := by
  unfold TabM.openT at h0
  rw [hc] at h0
  cases hb : TabM.best tb with
  | none => rw [hb] at h0; cases h0
  | some x =>
    obtain ⟨i, w⟩ := x
    obtain ⟨hi, hk, _⟩ := TabM.best_some hb
    have e : TabM.openT tb = (TabM.opened tb i w, (i, tb.next, 0)) := by unfold TabM.openT; rw [hc, hb]
    have hnk : ∀ j, j < tb.rows.length → (TabM.at_ tb.rows j).kind ≠ 1 := fun j hj => TabM.curF_none _ _ hc _ (TabM.at_mem hj)
    have hat : TabM.at_ (TabM.opened tb i w).rows i = ⟨1, tb.next, w + 1⟩ := by
      show TabM.at_ (tb.rows.set i _) i = _
      rw [TabM.at_lt (by rw [List.length_set]; exact hi), List.getElem_set_self]
    refine ⟨i, ?_, ?_, hi, ?_, ?_, ?_⟩
    · rw [e]
    · rw [e]; rfl
    · rw [e]; exact List.length_set
    · rw [e]
      have := curF_first (tb.rows.set i ⟨1, tb.next, w + 1⟩) 0 i (by rw [List.length_set]; exact hi) (fun j hj => by
        have hjl : j < tb.rows.length := by omega
        rw [TabM.at_lt (by rw [List.length_set]; exact hjl), List.getElem_set_ne (by omega), ← TabM.at_lt hjl]
        exact hnk j hjl) (by rw [show TabM.at_ (tb.rows.set i ⟨1, tb.next, w + 1⟩) i = _ from hat])
      rw [Nat.zero_add] at this
      exact this
    · rw [e, hat]
theorem open_err (h0 : (TabM.openT tb).2.2.2 ≠ 0) : (TabM.openT tb).1 = tb := by
  unfold TabM.openT at h0 ⊢
  cases hc : TabM.cur tb with
  | some _ => rfl
  | none =>
    rw [hc] at h0
    cases hb : TabM.best tb with
    | none => rfl
    | some x => rw [hb] at h0; exact absurd rfl h0
theorem LR.begun (h : LR pp tb a q nx) {i : Nat} (o : Opn tb i) (hp : 1 ≤ pp) : LR pp (TabM.openT tb).1 1 tb.next 1 :=
  ⟨by rw [o.next]; exact Nat.lt_succ_self _, hp, fun j hj => by rw [o.cur] at hj; cases hj; exact .inl ⟨o.seq, rfl⟩⟩
theorem LR.bare (h : LR pp tb a q nx) {i : Nat} (o : Opn tb i) : LR pp (TabM.openT tb).1 pp q nx :=
  ⟨by rw [o.next]; have := h.seq; omega, h.low, fun j hj => by rw [o.cur] at hj; cases hj; exact .inr ⟨by rw [o.seq]; have := h.seq; omega, rfl⟩⟩
end
theorem erase_dims (s : FS) (seg : Int) : (FlaM.erase s seg).1.pp = s.pp ∧ (FlaM.erase s seg).1.safe.length = s.safe.length := by
  have e : (FlaM.trip s).pp = s.pp ∧ (FlaM.trip s).safe = s.safe := by unfold FlaM.trip; split <;> exact ⟨rfl, rfl⟩
  unfold FlaM.erase
  split
  · exact ⟨rfl, rfl⟩
  · split
    · exact ⟨e.1, by rw [e.2]⟩
    · exact ⟨e.1, by show (FlaM.trip s).safe.length = _; rw [e.2]⟩
theorem doAll_len (pp : Nat) (fates : List Int) : ∀ (L : List FlaM.Act) (safe : List (List Bs)) (i : Nat), (FlaM.doAll pp fates safe i L).length = safe.length
  | [], _, _ => rfl
  | x :: L, safe, i => by
    unfold FlaM.doAll
    rw [doAll_len pp fates L]
    unfold FlaM.doOne
    split
    · exact FlaM.setPage_len _ _ _ _
    · exact FlaM.clearTo_len _ _ _
theorem barrier_dims (s : FS) : (FlaM.barrier s).1.pp = s.pp ∧ (FlaM.barrier s).1.safe.length = s.safe.length := by
  have e : (FlaM.trip s).pp = s.pp ∧ (FlaM.trip s).safe = s.safe := by unfold FlaM.trip; split <;> exact ⟨rfl, rfl⟩
  unfold FlaM.barrier
  split
  · exact ⟨e.1, by rw [e.2]⟩
  · refine ⟨e.1, ?_⟩
    show (FlaM.doAll _ _ (FlaM.trip s).safe 0 _).length = _
    rw [doAll_len, e.2]
theorem prog_dims (s : FS) (seg page : Int) (b : Bs) : (FlaM.progF s seg page b).1.pp = s.pp ∧ (FlaM.progF s seg page b).1.safe.length = s.safe.length := by
  have e : (FlaM.trip s).pp = s.pp ∧ (FlaM.trip s).safe = s.safe := by unfold FlaM.trip; split <;> exact ⟨rfl, rfl⟩
  unfold FlaM.progF
  split
  · exact ⟨rfl, rfl⟩
  split
  · exact ⟨rfl, rfl⟩
  split
  · exact ⟨rfl, rfl⟩
  split
  · exact ⟨e.1, by rw [e.2]⟩
  · exact ⟨e.1, by show (FlaM.trip s).safe.length = _; rw [e.2]⟩
theorem head_facts {s : FS} {N : Nat} (ok : FlaM.Ok s N) (g seq : Nat) : (headL g seq s).1.1.pp = s.pp ∧ (headL g seq s).1.1.safe.length = s.safe.length ∧ FlaM.Ok (headL g seq s).1.1 (N + 3) ∧ ((headL g seq s).2 ≠ 0 → (headL g seq s).1.2 = s.pp) ∧ ((headL g seq s).2 = 0 → (headL g seq s).1.2 = 1) := by
  have ok1 := FlaM.ok_erase ok (g : Int)
  have ok2 := FlaM.ok_barrier ok1
  have ok3 := FlaM.ok_program ok2 (g : Int) ((0 : Nat) : Int) (hdr seq)
  have d1 := erase_dims s (g : Int)
  have d2 := barrier_dims (FlaM.erase s (g : Int)).1
  have d3 := prog_dims (FlaM.barrier (FlaM.erase s (g : Int)).1).1 (g : Int) ((0 : Nat) : Int) (hdr seq)
  unfold headL
  split
  · rename_i h
    exact ⟨d1.1, d1.2, ok1.more (by omega), fun _ => rfl, fun h0 => absurd h0 h⟩
  split
  · rename_i h
    exact ⟨d2.1.trans d1.1, d2.2.trans d1.2, ok2.more (by omega), fun _ => rfl, fun h0 => absurd h0 h⟩
  split
  · rename_i h
    exact ⟨d3.1.trans (d2.1.trans d1.1), d3.2.trans (d2.2.trans d1.2), ok3, fun _ => rfl, fun h0 => absurd h0 h⟩
  · exact ⟨d3.1.trans (d2.1.trans d1.1), d3.2.trans (d2.2.trans d1.2), ok3, fun h0 => absurd rfl h0, fun _ => rfl⟩
theorem joinF_size : ∀ (l : List Bs) (i : Nat) (k : UInt8) (all : Bs), all.length ≤ 125 * i → (PagM.joinF i k all l).1.2.1.length ≤ 8000 ∧ (PagM.joinF i k all l).1.2.2 ≤ i + l.length ∧ ((PagM.joinF i k all l).2 = 0 → i < (PagM.joinF i k all l).1.2.2)
  | [], i, k, all, _ => ⟨Nat.zero_le _, Nat.zero_le _, fun h => (by cases h)⟩
  | p :: l, i, k, all, ha => by
    unfold PagM.joinF
    split
    · exact ⟨Nat.zero_le _, Nat.zero_le _, fun h => (by cases h)⟩
    rename_i hi
    split
    · exact ⟨Nat.zero_le _, Nat.zero_le _, fun h => (by cases h)⟩
    rename_i hp
    have hpg : PagM.isPage p = true := by
      cases h : PagM.isPage p
      · rw [h] at hp; simp at hp
      · rfl
    obtain ⟨h1, h2, _⟩ := PagM.isPage_props hpg
    obtain ⟨_, g2⟩ := PagM.guess_small p h1 h2
    have hal : (all ++ (PagM.guess p).data).length ≤ 125 * (i + 1) := by rw [List.length_append]; omega
    split
    · refine ⟨by simp only; omega, ?_, fun _ => Nat.lt_succ_self _⟩
      simp only [List.length_cons]
      omega
    · obtain ⟨q1, q2, q3⟩ := joinF_size l (i + 1) (PagM.guess p).kind _ hal
      exact ⟨q1, by simp only [List.length_cons]; omega, fun h => by have := q3 h; omega⟩
theorem join_size (l : List Bs) : (PagM.join l).1.2.1.length ≤ 8000 ∧ (PagM.join l).1.2.2 ≤ l.length ∧ ((PagM.join l).2 = 0 → 0 < (PagM.join l).1.2.2) := by
  have := joinF_size l 0 0 [] (Nat.zero_le _)
  rw [Nat.zero_add] at this
  exact this
noncomputable def resN (x : Option (RecM.Nte × Nat)) : RecM.Nte × Nat := x.getD (RecM.zeroN, 0)
theorem note1_size {l : List Bs} {n : RecM.Nte} {k : Nat} (h : note1 l = some (n, k)) : 0 < k ∧ k ≤ l.length := by
  unfold note1 at h
  split at h
  · rename_i hc
    cases h
    obtain ⟨_, h2, h3⟩ := join_size l
    exact ⟨h3 hc.1, h2⟩
  · cases h
def readyL (fr : Nat) (σ : LG) (m : Nat) : LG × Nat := if (roomL σ m).2 ≠ 0 then roomL σ m else needL fr (roomL σ m).1
theorem append_ready (fr : Nat) (σ : LG) (n : RecM.Nte) : appendL fr σ n = if RecM.right n = false then (σ, (zP, 1)) else if σ.fs.pp < 1 + (notePages n).length then (σ, (zP, 4)) else
    if (readyL fr σ (notePages n).length).2 ≠ 0 then ((readyL fr σ (notePages n).length).1, (zP, (readyL fr σ (notePages n).length).2)) else putL fr (readyL fr σ (notePages n).length).1 (notePages n) := by
  unfold appendL readyL
  by_cases h : (roomL σ (notePages n).length).2 ≠ 0
  · simp only [if_pos h]
  · simp only [if_neg h]
structure Mid (fr : Nat) (σ : LG) (N : Nat) : Prop where
  fs : FlaM.Ok σ.fs N
  tb : TabM.Ok σ.tb N
  room : fr + σ.tb.rows.length ≤ σ.fs.safe.length
  pp : 2 ≤ σ.fs.pp
section
variable {fr m : Nat} {σ : LG} {N : Nat}
theorem LgOk.mid (h : LgOk fr σ N) : Mid fr σ N := ⟨h.fs, h.tb, h.room, h.pp⟩
theorem close_mid (h : LgOk fr σ N) : Mid fr (closeL σ).1 (N + 1) ∧ (closeL σ).1.fs.pp = σ.fs.pp ∧ ((closeL σ).2 = 0 → TabM.cur (closeL σ).1.tb = none) ∧ ((TabM.cur σ.tb).isSome = true → (closeL σ).2 ≠ 0 → (closeL σ).1.tb = σ.tb ∧ (closeL σ).1.a = σ.a) ∧ (TabM.cur σ.tb = none → closeL σ = (σ, 0)) := by
  have d := barrier_dims σ.fs
  have okb := FlaM.ok_barrier h.fs
  unfold closeL
  cases hc : TabM.cur σ.tb with
  | none => exact ⟨⟨h.fs.more (by omega), h.tb.more (by omega), h.room, h.pp⟩, rfl, fun _ => hc, fun h => (by cases h), fun _ => rfl⟩
  | some i =>
    simp only
    split
    · refine ⟨⟨okb, (TabM.ok_seal h.tb).more (by omega), ?_, ?_⟩, d.1, fun _ => seal_none h.load, fun _ h => absurd rfl h, fun h => (by cases h)⟩
      · show fr + (TabM.sealT σ.tb).1.rows.length ≤ (FlaM.barrier σ.fs).1.safe.length
        rw [seal_len, d.2]; exact h.room
      · show 2 ≤ (FlaM.barrier σ.fs).1.pp
        rw [d.1]; exact h.pp
    · rename_i hb
      refine ⟨⟨okb, h.tb.more (by omega), ?_, ?_⟩, d.1, fun h => absurd h hb, fun _ _ => ⟨rfl, rfl⟩, fun h => (by cases h)⟩
      · show fr + σ.tb.rows.length ≤ (FlaM.barrier σ.fs).1.safe.length
        rw [d.2]; exact h.room
      · show 2 ≤ (FlaM.barrier σ.fs).1.pp
        rw [d.1]; exact h.pp
theorem open_mid (h : Mid fr σ N) (hc : TabM.cur σ.tb = none) : Mid fr (openL fr σ).1 (N + 3) ∧ (openL fr σ).1.fs.pp = σ.fs.pp ∧ ((openL fr σ).2 = 0 → (∃ i, TabM.cur (openL fr σ).1.tb = some i) ∧ (openL fr σ).1.a = 1) := by
  unfold openL
  by_cases h0 : (TabM.openT σ.tb).2.2.2 ≠ 0
  · rw [if_pos h0]
    simp only
    rw [open_err h0]
    exact ⟨⟨h.fs.more (by omega), h.tb.more (by omega), h.room, h.pp⟩, by simp, fun h => absurd h h0⟩
  · rw [if_neg h0]
    obtain ⟨i, o⟩ := opn_of hc (by simpa using h0)
    obtain ⟨f1, f2, f3, f4, f5⟩ := head_facts h.fs (fr + (TabM.openT σ.tb).2.1) (TabM.openT σ.tb).2.2.1
    refine ⟨⟨f3, (TabM.ok_open h.tb).more (by omega), ?_, ?_⟩, f1, fun h => ⟨⟨i, o.cur⟩, f5 h⟩⟩
    · show fr + (TabM.openT σ.tb).1.rows.length ≤ _
      rw [o.len]
      exact Nat.le_trans h.room (Nat.le_of_eq f2.symm)
    · exact Nat.le_trans h.pp (Nat.le_of_eq f1.symm)
theorem ready_here (hc : (TabM.cur σ.tb).isSome = true) (hm : σ.a + m ≤ σ.fs.pp) : readyL fr σ m = (σ, 0) := by
  have e : roomL σ m = (σ, 0) := by unfold roomL; rw [if_neg]; rintro ⟨_, h⟩; omega
  unfold readyL
  rw [e, if_neg (by simp)]
  unfold needL
  rw [if_pos hc]
theorem ready_shut (h : LgOk fr σ N) (hc : (TabM.cur σ.tb).isSome = true → σ.fs.pp < σ.a + m) : readyL fr σ m = if (closeL σ).2 ≠ 0 then closeL σ else openL fr (closeL σ).1 := by
  obtain ⟨_, _, c1, _, c3⟩ := close_mid h
  have e : roomL σ m = closeL σ := by
    unfold roomL
    by_cases hs : (TabM.cur σ.tb).isSome = true
    · rw [if_pos ⟨hs, hc hs⟩]
    · rw [if_neg (fun h => hs h.1)]
      exact (c3 (by simpa using hs)).symm
  unfold readyL
  rw [e]
  by_cases h0 : (closeL σ).2 ≠ 0
  · rw [if_pos h0, if_pos h0]
  · rw [if_neg h0, if_neg h0]
    unfold needL
    rw [c1 (by simpa using h0), if_neg (by simp)]
theorem ready_mid (h : LgOk fr σ N) (hm : 1 + m ≤ σ.fs.pp) : Mid fr (readyL fr σ m).1 (N + 4) ∧ (readyL fr σ m).1.fs.pp = σ.fs.pp ∧ ((readyL fr σ m).2 = 0 → (∃ i, TabM.cur (readyL fr σ m).1.tb = some i) ∧ 1 ≤ (readyL fr σ m).1.a ∧ (readyL fr σ m).1.a + m ≤ σ.fs.pp) := by
  have hmid := h.mid
  by_cases hc : (TabM.cur σ.tb).isSome = true ∧ σ.a + m ≤ σ.fs.pp
  · rw [ready_here hc.1 hc.2]
    refine ⟨⟨h.fs.more (by omega), h.tb.more (by omega), h.room, h.pp⟩, rfl, fun _ => ⟨?_, (h.a hc.1).1, hc.2⟩⟩
    exact Option.isSome_iff_exists.1 hc.1
  · rw [ready_shut (m := m) h (fun hs => by rcases Nat.lt_or_ge σ.fs.pp (σ.a + m) with h1 | h1; exact h1; exact absurd ⟨hs, h1⟩ hc)]
    obtain ⟨c1, c2, c3, c4, c5⟩ := close_mid h
    by_cases h0 : (closeL σ).2 ≠ 0
    · rw [if_pos h0]
      exact ⟨⟨c1.fs.more (by omega), c1.tb.more (by omega), c1.room, c1.pp⟩, c2, fun h => absurd h h0⟩
    · rw [if_neg h0]
      obtain ⟨o1, o2, o3⟩ := open_mid c1 (c3 (by simpa using h0))
      refine ⟨⟨o1.fs.more (by omega), o1.tb.more (by omega), o1.room, o1.pp⟩, o2.trans c2, fun h => ?_⟩
      obtain ⟨o4, o5⟩ := o3 h
      exact ⟨o4, by omega, by omega⟩
end
end Go.LogM
end
section
namespace Go.Proofs.YtmdphcebmgcdbaaGreat
open Go.RowKit Go.Own
namespace Pag
open Go.PagM Byt
abbrev errP (n : Nat) : Value := .int .i64 (n : Int)
abbrev frV (k : Nat) (a z : Bool) (d : Value) : Value := .agg #[.int .u8 (k : Int), .bool a, .bool z, d]
abbrev frC (k : Nat) (a z : Bool) (d : Value) : Array Value := #[.int .u8 (k : Int), .bool a, .bool z, d]
def LayDone (x : PagM.Bs × Nat) (w : World) (e : Ending) (w' : World) : Prop := ∃ ao cap, e = .returned (.tuple #[.slice ao x.1.length cap, errP x.2]) ∧ Given w' ao x.1.length cap x.1 ∧ Below w.heap.size w w'
end Pag
end Go.Proofs.YtmdphcebmgcdbaaGreat
end
section
namespace Go.Proofs.YtmdphcebmgcdbaaGreat
open Go.RowKit Go.Own
namespace Pag
open Go.PagM Byt
def TakeDone (x : Frm × Nat) (w : World) (e : Ending) (w' : World) : Prop := ∃ ao cap, e = .returned (.tuple #[frV x.1.kind.toNat x.1.first x.1.last (.slice ao x.1.data.length cap), errP x.2]) ∧ Given w' ao x.1.data.length cap x.1.data ∧ Below w.heap.size w w'
theorem info_frame (cs : Array Value) (h : cs.size = 4) : (Tryz.prog.info? 117).map (·.size) = some cs.size := by
  have h0 : (Tryz.prog.info? 117).map (fun i => i.size) = some 4 := by kernel_rfl
  rw [h]
  exact h0
end Pag
end Go.Proofs.YtmdphcebmgcdbaaGreat
end
section
namespace Go.Proofs.YtmdphcebmgcdbaaGreat
open Go.RowKit Go.Own
namespace Byt
structure GivenL (w : World) (ao : Option Addr) (n cap : Nat) (L : List (List UInt8)) : Prop where
  size : L.length = n
  room : n ≤ cap ∧ cap ≤ maxLen
  nil : ao = none → cap = 0
  rows : ∀ j, j < n → ∃ b o aj cj, ao = some ⟨b, o, none⟩ ∧ b < w.heap.size ∧ w.cell? ⟨b, o + j, none⟩ = some (.slice aj (L.getD j []).length cj) ∧ Given w aj (L.getD j []).length cj (L.getD j [])
theorem GivenL.later {w w' : World} {ao : Option Addr} {n cap : Nat} {L : List (List UInt8)} (h : GivenL w ao n cap L) (g : Below w.heap.size w w') : GivenL w' ao n cap L :=
  ⟨h.size, h.room, h.nil, fun j hj => by
    obtain ⟨b, o, aj, cj, h1, h2, h3, h4⟩ := h.rows j hj
    exact ⟨b, o, aj, cj, h1, Nat.lt_of_lt_of_le h2 g.size, cellLater h3 g, h4.later g⟩⟩
theorem oneBytes : One Tryz.prog 68 37 (.slice none 0 0) 24 := ⟨Tryz.underlying68, by kernel_rfl, rfl⟩
end Byt
namespace Pag
open Go.PagM Byt
def SplitDone (x : List PagM.Bs × Nat) (w : World) (e : Ending) (w' : World) : Prop := ∃ ao cap, e = .returned (.tuple #[.slice ao x.1.length cap, errP x.2]) ∧ GivenL w' ao x.1.length cap x.1 ∧ Below w.heap.size w w'
def boolN : Value → Nat
  | .bool true => 1
  | _ => 0
end Pag
end Go.Proofs.YtmdphcebmgcdbaaGreat
end
section
namespace Go.Proofs.YtmdphcebmgcdbaaGreat
open Go.RowKit Go.Own
namespace Pag
open Go.PagM Byt
def JoinDone (x : (UInt8 × PagM.Bs × Nat) × Nat) (w : World) (e : Ending) (w' : World) : Prop := ∃ ao cap, e = .returned (.tuple #[.int .u8 (x.1.1.toNat : Int), .slice ao x.1.2.1.length cap, .int .i64 (x.1.2.2 : Int), errP x.2]) ∧ Given w' ao x.1.2.1.length cap x.1.2.1 ∧ Below w.heap.size w w'
theorem join_err (x : (UInt8 × PagM.Bs × Nat) × Nat) (hx : x = ((0, [], 0), 90)) {w w' : World} (h : Below w.heap.size w w') : JoinDone x w (.returned (.tuple #[.int .u8 0, .slice none 0 0, .int .i64 0, errP 90])) w' := by
  subst hx
  exact ⟨none, 0, rfl, ⟨.inl rfl, rfl, ⟨Nat.le_refl _, Nat.zero_le _⟩, fun _ => rfl⟩, h⟩
theorem joinF_at (i : Nat) (k : UInt8) (all : PagM.Bs) (L : List PagM.Bs) (h : i < L.length) (h64 : i < 64) : joinF i k all (L.drop i) = if !isPage (L.getD i []) || (guess (L.getD i [])).first != decide (i = 0) || (decide (0 < i) && (guess (L.getD i [])).kind != k) || (!(guess (L.getD i [])).last && decide ((guess (L.getD i [])).data.length ≠ 125)) then ((0, [], 0), 90)
    else if (guess (L.getD i [])).last then (((guess (L.getD i [])).kind, all ++ (guess (L.getD i [])).data, i + 1), 0)
    else joinF (i + 1) (guess (L.getD i [])).kind (all ++ (guess (L.getD i [])).data) (L.drop (i + 1)) := by
  rw [List.drop_eq_getElem_cons h, joinF, if_neg (by omega)]
  have e : L.getD i [] = L[i] := by rw [List.getD_eq_getElem?_getD, List.getElem?_eq_getElem h]; rfl
  rw [e]
end Pag
end Go.Proofs.YtmdphcebmgcdbaaGreat
end
section
namespace Go.PagM
def fewF : Nat → List Bs → Nat
  | _, [] => 0
  | i, p :: l => if 70 ≤ i ∨ 200 < p.length then 0 else fewF (i + 1) l + 1
def fewN (l : List Bs) : Nat := fewF 0 l
end Go.PagM
namespace Go.Proofs.YtmdphcebmgcdbaaGreat
open Go.RowKit Go.Own
namespace Pag
open Go.PagM Byt
def RetYes (w : World) (e : Ending) (w' : World) : Prop := e = .returned (.bool true) ∧ Below w.heap.size w w'
def TakeNew (x : Frm × Nat) (w : World) (e : Ending) (w' : World) : Prop := ∃ ao cap, e = .returned (.tuple #[frV x.1.kind.toNat x.1.first x.1.last (.slice ao x.1.data.length cap), errP x.2]) ∧ Given w' ao x.1.data.length cap x.1.data ∧ View w' (fun k => w.heap.size ≤ k) ao x.1.data ∧ Below w.heap.size w w'
structure Kept (W : World) where
  lay : ∀ {w : World} (f : Frm) (ao : Option Addr) (n cap : Nat), Below W.heap.size W w → Given w ao n cap f.data → n ≤ 1000000 →
    Calls Tryz.prog 108 #[frV f.kind.toNat f.first f.last (.slice ao n cap)] w (LayDone (lay f) w)
  take : ∀ {w : World} (ao : Option Addr) (n cap : Nat) (p : PagM.Bs), Below W.heap.size W w → Given w ao n cap p → n ≤ 1000000 →
    Calls Tryz.prog 54 #[.slice ao n cap] w (TakeNew (PagM.take p) w)
  split : ∀ {w : World} (kind : UInt8) (ao : Option Addr) (n cap : Nat) (p : PagM.Bs), Below W.heap.size W w → Given w ao n cap p → n ≤ 1000000 →
    Calls Tryz.prog 40 #[.int .u8 (kind.toNat : Int), .slice ao n cap] w (SplitDone (split kind p) w)
  join : ∀ {w : World} (ao : Option Addr) (n cap : Nat) (L : List PagM.Bs), Below W.heap.size W w → GivenL w ao n cap L → n ≤ 1000000 → (∀ p ∈ L, p.length ≤ 1000000) →
    Calls Tryz.prog 47 #[.slice ao n cap] w (JoinDone (join L) w)
end Pag
end Go.Proofs.YtmdphcebmgcdbaaGreat
end
