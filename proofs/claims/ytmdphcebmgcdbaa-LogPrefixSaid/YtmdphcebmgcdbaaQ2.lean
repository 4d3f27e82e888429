/- Merged: LogV LogX LogY Own Heap Arr Str In Byt Giv Obj -/
import Derived.Great.Walk
import Derived.WalkKit
import Derived.Deep.RegionLaw
import Derived.Deep.Draws
import Derived.Deep.MidRow
import Derived.Laws.Rows
import Derived.Lib.SlBytesRow
import Derived.Lib.Strings
import Derived.Deep.Slices
import Derived.OpenShut
import Derived.Test.YtmdphcebmgcdbaaRows
import Derived.OwnWalk
import Derived.Test.YtmdphcebmgcdbaaQ1
set_option linter.unusedVariables false
section
namespace Go.LogM
open FlaM (FS)
section
variable {fr M : Nat} {σ : LG} {k : Nat} {op hd : Bool} {Ns : Nat → List RecM.Nte} {ex : List Bs} {F : Nat → List Bs} {X : List Bs} {er : Bool} {N : Nat}
/-- what an Append makes -/
structure Appd (fr M : Nat) (σ : LG) (op0 : Bool) (k : Nat) (Ns : Nat → List RecM.Nte) (F : Nat → List Bs) (n : RecM.Nte) (r : LG × (Plc × Nat)) (k' : Nat) (op' hd' : Bool) (Ns' : Nat → List RecM.Nte) (ex' : List Bs) (F' : Nat → List Bs) (X' : List Bs) (er' : Bool) : Prop where
  inv : Inv fr M r.1 k' op' hd' Ns' ex' F' X' er'
  pp : r.1.fs.pp = σ.fs.pp
  lo : k ≤ k'
  hi : k' ≤ k + 1
  sf : ∀ cnt, Sf cnt k Ns F → Sf cnt k' Ns' F'
  live : Live σ.fs → r.2.2 = 0 ∧ Live r.1.fs
  kx : Live σ.fs → k' = if op0 = true ∧ σ.a + (notePages n).length ≤ σ.fs.pp then k else k + 1
  or : (r.2.2 = 0 ∧ op' = true ∧ hd' = true ∧ ex' = [] ∧ Ns' = updN Ns (k' - 1) (Ns (k' - 1) ++ [n]) ∧ r.2.1 = ⟨((k' - 1 : Nat) : Int), ((1 + ((Ns (k' - 1)).flatMap notePages).length : Nat) : Int), ((notePages n).length : Int)⟩ ∧ 1 + ((Ns (k' - 1)).flatMap notePages).length + (notePages n).length ≤ σ.fs.pp) ∨
    (r.2 = (zP, 6) ∧ r.1.fs.off = true ∧ Ns' = Ns)
/-- a segment opened, and a note put there -/
def openPut (fr : Nat) (σ : LG) (n : RecM.Nte) : LG × (Plc × Nat) :=
  if (openL fr σ).2 ≠ 0 then ((openL fr σ).1, (zP, (openL fr σ).2)) else putL fr (openL fr σ).1 (notePages n)
theorem inv_openPut (h : Inv fr M σ k false hd Ns ex F X er) (ok : FlaM.Ok σ.fs N) {n : RecM.Nte} (hn : Good n) (hk : k < M) (hfit : 1 + (notePages n).length ≤ σ.fs.pp) :
    (∃ k' op' hd' Ns' ex' F' X' er', Appd fr M σ false k Ns F n (openPut fr σ n) k' op' hd' Ns' ex' F' X' er') ∧ FlaM.Ok (openPut fr σ n).1.fs (N + 6) := by
  obtain ⟨p1, p2, p3, p4⟩ := inv_open h ok hk
  have hpp := h.pp
  have hz : k = 0 → ∀ j, Ns j = [] := h.zero
  unfold openPut
  generalize openL fr σ = o at p1 p2 p3 p4
  rcases p2 with ⟨h0, hi⟩ | ⟨h6, hof, er', hi⟩
  · rw [if_neg (by rw [h0]; simp)]
    have ha : o.1.a = 1 := by
      have := hi.at_ rfl
      rw [if_pos rfl, full_len hi (Nat.succ_pos _)] at this
      rw [this, Nat.add_sub_cancel, (h.new k (Nat.le_refl _)).1]
      rfl
    obtain ⟨q, qok⟩ := inv_put hi p4 hn (by rw [ha, p1]; exact hfit)
    generalize putL fr o.1 (notePages n) = r at q qok
    refine ⟨?_, qok⟩
    have hsf : ∀ cnt, Sf cnt k Ns F → Sf cnt (k + 1) Ns F := fun cnt hc => sf_next hc hz
    rcases q.or with ⟨r0, r1, r2, X', hI⟩ | ⟨r1, r2, hd', ex', X', er', hI⟩
    · refine ⟨k + 1, true, true, _, [], F, X', false, hI, q.pp.trans p1, Nat.le_succ _, Nat.le_refl _, fun cnt hc => sf_more (hsf cnt hc), fun hl => q.live (p3 hl).2, fun _ => by simp, .inl ⟨r0, rfl, rfl, rfl, rfl, r1, ?_⟩⟩
      rw [p1] at r2
      exact r2
    · exact ⟨k + 1, true, hd', Ns, ex', F, X', er', hI, q.pp.trans p1, Nat.le_succ _, Nat.le_refl _, hsf, fun hl => q.live (p3 hl).2, fun _ => by simp, .inr ⟨r1, r2, rfl⟩⟩
  · rw [if_pos (by rw [h6]; decide)]
    refine ⟨⟨k + 1, true, false, Ns, [], F, [], er', hi, p1, Nat.le_succ _, Nat.le_refl _, fun cnt hc => sf_next hc hz, fun hl => absurd (p3 hl).1 (by rw [h6]; decide), fun _ => by simp, .inr ⟨by rw [h6], hof, rfl⟩⟩, p4.more (by omega)⟩
theorem cur_some (h : Inv fr M σ k op hd Ns ex F X er) : (TabM.cur σ.tb).isSome = op := by
  rw [h.tb]
  cases op
  · rw [tab_nocur]; rfl
  · rw [tab_cur (h.opn rfl) h.km]; rfl
theorem inv_append (h : Inv fr M σ k op hd Ns ex F X er) (ok : FlaM.Ok σ.fs N) {n : RecM.Nte} (hn : Good n) (hk : k < M) (hfit : 1 + (notePages n).length ≤ σ.fs.pp) :
    (∃ k' op' hd' Ns' ex' F' X' er', Appd fr M σ op k Ns F n (appendL fr σ n) k' op' hd' Ns' ex' F' X' er') ∧ FlaM.Ok (appendL fr σ n).1.fs (N + 7) := by
  have hcur := cur_some h
  have e0 : appendL fr σ n = if (roomL σ (notePages n).length).2 ≠ 0 then ((roomL σ (notePages n).length).1, (zP, (roomL σ (notePages n).length).2)) else
      if (needL fr (roomL σ (notePages n).length).1).2 ≠ 0 then ((needL fr (roomL σ (notePages n).length).1).1, (zP, (needL fr (roomL σ (notePages n).length).1).2)) else
      putL fr (needL fr (roomL σ (notePages n).length).1).1 (notePages n) := by
    unfold appendL
    rw [if_neg (by rw [hn.right]; decide), if_neg (by omega)]
  rw [e0]
  cases op
  · have e1 : roomL σ (notePages n).length = (σ, 0) := by unfold roomL; rw [hcur, if_neg (by simp)]
    have e2 : needL fr σ = openL fr σ := by unfold needL; rw [hcur, if_neg (by decide)]
    rw [e1, if_neg (by simp)]
    simp only
    rw [e2]
    obtain ⟨q, qok⟩ := inv_openPut h ok hn hk hfit
    unfold openPut at q qok
    exact ⟨q, qok.more (by omega)⟩
  · by_cases hr : σ.fs.pp < σ.a + (notePages n).length
    · have e1 : roomL σ (notePages n).length = closeL σ := by unfold roomL; rw [hcur, if_pos ⟨rfl, hr⟩]
      rw [e1]
      obtain ⟨c1, c2, c3, c4⟩ := inv_close h ok
      generalize closeL σ = c at c1 c2 c3 c4
      rcases c2 with ⟨h0, hI, hhd, hex⟩ | ⟨h6, hof, _, hI⟩
      · have hcur2 := cur_some hI
        have e2 : needL fr c.1 = openL fr c.1 := by unfold needL; rw [hcur2, if_neg (by decide)]
        rw [if_neg (by rw [h0]; simp), e2]
        obtain ⟨⟨k', op', hd', Ns', ex', F', X', er', q⟩, qok⟩ := inv_openPut hI c4 hn hk (by rw [c1]; exact hfit)
        unfold openPut at q qok
        refine ⟨⟨k', op', hd', Ns', ex', F', X', er', q.inv, q.pp.trans c1, q.lo, q.hi, fun cnt hc => q.sf cnt (sf_front hc ?_), fun hl => q.live (c3 hl).2, fun hl => ?_, ?_⟩, qok.more (by omega)⟩
        · unfold onSeg
          rw [if_pos rfl]
          exact ⟨X, rfl⟩
        · rw [q.kx (c3 hl).2, if_neg (by simp), if_neg (fun hh => by have := hh.2; omega)]
        · have hq := q.or
          rw [c1] at hq
          exact hq
      · rw [if_pos (by rw [h6]; decide)]
        exact ⟨⟨k, true, hd, Ns, ex, F, X, er, hI, c1, Nat.le_refl _, Nat.le_succ _, fun _ hc => hc, fun hl => absurd (c3 hl).1 (by rw [h6]; decide), fun hl => absurd (c3 hl).1 (by rw [h6]; decide), .inr ⟨by rw [h6], hof, rfl⟩⟩, c4.more (by omega)⟩
    · have e1 : roomL σ (notePages n).length = (σ, 0) := by unfold roomL; rw [hcur, if_neg (fun hh => hr hh.2)]
      have e2 : needL fr σ = (σ, 0) := by unfold needL; rw [hcur, if_pos rfl]
      rw [e1, if_neg (by simp)]
      simp only
      rw [e2, if_neg (by simp)]
      simp only
      obtain ⟨q, qok⟩ := inv_put h ok hn (by omega)
      generalize putL fr σ (notePages n) = r at q qok
      refine ⟨?_, qok.more (by omega)⟩
      rcases q.or with ⟨r0, r1, r2, X', hI⟩ | ⟨r1, r2, hd', ex', X', er', hI⟩
      · exact ⟨k, true, true, _, [], F, X', false, hI, q.pp, Nat.le_refl _, Nat.le_succ _, fun cnt hc => sf_more hc, q.live, fun _ => by rw [if_pos ⟨rfl, by omega⟩], .inl ⟨r0, rfl, rfl, rfl, rfl, r1, r2⟩⟩
      · exact ⟨k, true, hd', Ns, ex', F, X', er', hI, q.pp, Nat.le_refl _, Nat.le_succ _, fun _ hc => hc, q.live, fun _ => by rw [if_pos ⟨rfl, by omega⟩], .inr ⟨r1, r2, rfl⟩⟩
/-- a note that may not be is refused -/
theorem append_bad (fr : Nat) (σ : LG) {n : RecM.Nte} (h : RecM.right n = false) : appendL fr σ n = (σ, (zP, 1)) := by unfold appendL; rw [if_pos h]
/-- a barrier of the flash -/
theorem inv_barrier (h : Inv fr M σ k op hd Ns ex F X er) (ok : FlaM.Ok σ.fs N) :
    (((FlaM.barrier σ.fs).2 = 0 ∧ ∃ F', Inv fr M ⟨(FlaM.barrier σ.fs).1, σ.tb, σ.a⟩ k op true Ns [] F' [] false) ∨ ((FlaM.barrier σ.fs).2 = 6 ∧ Inv fr M ⟨(FlaM.barrier σ.fs).1, σ.tb, σ.a⟩ k op hd Ns ex F X er)) ∧ (FlaM.barrier σ.fs).1.pp = σ.fs.pp := by
  have D := h.phy.barrier ok
  refine ⟨?_, D.pp⟩
  rcases D.or with ⟨h0, hp⟩ | ⟨h6, hof, hp⟩
  · have hoff : σ.fs.off ≠ true := fun ho => by have := D.dead ho; omega
    have hhd : hd = true := by
      cases hd
      · exact absurd (h.bad rfl).2.2 hoff
      · rfl
    have hex : ex = [] := by
      rcases h.torn with h1 | ⟨h1, _⟩
      · exact h1
      · exact absurd h1 hoff
    subst hhd hex
    refine .inl ⟨h0, onSeg F (k - 1) X, h.tb, h.km, hp, ?_, ?_, h.opn, fun ho => ?_, fun ho => ⟨rfl, rfl, rfl, rfl⟩, fun h => (by cases h), .inl rfl, fun h => (by cases h), h.good, by show 2 ≤ (FlaM.barrier σ.fs).1.pp; rw [D.pp]; exact h.pp⟩
    · intro j hj
      refine ⟨?_, (h.new j hj).2⟩
      unfold onSeg
      split
      · rename_i h1
        cases op
        · rw [(h.new j hj).1, (h.shut rfl).1]; rfl
        · have := h.opn rfl; omega
      · exact (h.new j hj).1
    · intro j hj
      rw [onSeg_twice]
      exact h.all j hj
    · have := h.at_ ho
      rw [onSeg_twice]
      exact this
  · exact .inr ⟨h6, h.tb, h.km, hp, h.new, h.all, h.opn, fun ho => (h.at_ ho).trans (by show _ = if hd = true then _ else (FlaM.barrier σ.fs).1.pp; rw [D.pp]), h.shut, fun hh => ⟨(h.bad hh).1, (h.bad hh).2.1, hof⟩, h.torn.imp id (fun ⟨_, hx⟩ => ⟨hof, hx⟩), h.er0, h.good, by show 2 ≤ (FlaM.barrier σ.fs).1.pp; rw [D.pp]; exact h.pp⟩
theorem inv_cut (h : Inv fr M σ k op hd Ns ex F X er) (after : Int) : Inv fr M ⟨FlaM.cut σ.fs after, σ.tb, σ.a⟩ k op hd Ns ex F X er ∧ (FlaM.cut σ.fs after).pp = σ.fs.pp := by
  have e : (FlaM.cut σ.fs after).safe = σ.fs.safe ∧ (FlaM.cut σ.fs after).L = σ.fs.L ∧ (FlaM.cut σ.fs after).pp = σ.fs.pp ∧ (FlaM.cut σ.fs after).off = σ.fs.off := by
    unfold FlaM.cut
    split <;> exact ⟨rfl, rfl, rfl, rfl⟩
  obtain ⟨e1, e2, e3, e4⟩ := e
  refine ⟨⟨h.tb, h.km, h.phy.same e1 e2 e3, h.new, h.all, h.opn, fun ho => (h.at_ ho).trans (by show _ = if hd = true then _ else (FlaM.cut σ.fs after).pp; rw [e3]), h.shut, fun hh => ⟨(h.bad hh).1, (h.bad hh).2.1, e4.trans (h.bad hh).2.2⟩, h.torn.imp id (fun ⟨ho, hx⟩ => ⟨e4.trans ho, hx⟩), h.er0, h.good, by show 2 ≤ (FlaM.cut σ.fs after).pp; rw [e3]; exact h.pp⟩, e3⟩
end
end Go.LogM

end
section
namespace Go.LogM
open FlaM (FS)
/-- the pages of a segment -/
def segPages (s : FS) (g : Nat) : List Bs := (List.range s.pp).map (fun i => FlaM.now s g i)
noncomputable def scanL (fr : Nat) (σ : LG) (seg page : Int) : (Nat × List Ent) × Nat :=
  if seg < 0 ∨ (σ.tb.rows.length : Int) ≤ seg ∨ page < 1 ∨ (σ.fs.pp : Int) < page then ((0, []), 1)
  else if σ.fs.off = true then ((0, []), 6)
  else if headSeq ((segPages σ.fs (fr + seg.toNat)).getD 0 []) = 0 then ((0, []), 0)
  else ((headSeq ((segPages σ.fs (fr + seg.toNat)).getD 0 []), scanF seg (σ.fs.pp + 1) page.toNat ((segPages σ.fs (fr + seg.toNat)).drop page.toNat)), 0)
theorem seg_len (s : FS) (g : Nat) : (segPages s g).length = s.pp := by simp [segPages]
theorem seg_at {s : FS} {g i : Nat} (h : i < s.pp) : (segPages s g).getD i [] = FlaM.now s g i := by
  unfold segPages
  rw [List.getD_eq_getElem?_getD, List.getElem?_map, List.getElem?_range h]; rfl
/-- pages, and blank ones behind them -/
def padded (l : List Bs) (pp : Nat) : List Bs := l ++ List.replicate (pp - l.length) FlaM.blank
theorem padded_at {l : List Bs} {pp i : Nat} (hi : i < pp) : (padded l pp).getD i [] = l.getD i FlaM.blank := by
  unfold padded
  rw [getD_append]
  split
  · rename_i h
    rw [List.getD_eq_getElem?_getD, List.getD_eq_getElem?_getD, List.getElem?_eq_getElem h]; rfl
  · rename_i h
    rw [List.getD_eq_getElem?_getD, List.getElem?_replicate, if_pos (by omega), List.getD_eq_getElem?_getD, List.getElem?_eq_none (by omega)]; rfl
theorem padded_len {l : List Bs} {pp : Nat} (h : l.length ≤ pp) : (padded l pp).length = pp := by unfold padded; rw [List.length_append, List.length_replicate]; omega
theorem ext_get {A B : List Bs} (hl : A.length = B.length) (h : ∀ i, i < A.length → A.getD i [] = B.getD i []) : A = B := by
  apply List.ext_getElem hl
  intro i h1 h2
  have := h i h1
  rw [List.getD_eq_getElem?_getD, List.getD_eq_getElem?_getD, List.getElem?_eq_getElem h1, List.getElem?_eq_getElem h2] at this
  exact this
theorem tail_blank (n : Nat) : Tail (List.replicate n FlaM.blank) :=
  ⟨RecM.zeroN, 0, _, rfl, notePages_pos _, fun p hp => by rw [(List.mem_replicate.1 hp).2]; exact blank_page⟩
theorem tail_torn (n : RecM.Nte) (c m : Nat) (hc : c < (notePages n).length) : Tail ((notePages n).take c ++ List.replicate m FlaM.blank) :=
  ⟨n, c, _, rfl, hc, fun p hp => by rw [(List.mem_replicate.1 hp).2]; exact blank_page⟩
theorem flat_notes_len : ∀ (ns : List RecM.Nte), ns.length ≤ (ns.flatMap notePages).length
  | [] => Nat.le_refl _
  | n :: ns => by
    rw [List.flatMap_cons, List.length_append, List.length_cons]
    have := notePages_pos n
    have := flat_notes_len ns
    omega
/-- what the first pages of all segments tell, and the notes found there, if of segment number k - 1 m notes are found -/
def seqAt (k : Nat) (hok : Bool) (j : Nat) : Nat := if j + 1 < k ∨ (j + 1 = k ∧ hok = true) then j + 1 else 0
def foundAt (k : Nat) (Ns : Nat → List RecM.Nte) (m j : Nat) : List RecM.Nte := if j + 1 < k then Ns j else if j + 1 = k then (Ns j).take m else []
section
variable {fr M : Nat} {σ : LG} {k : Nat} {op hd : Bool} {Ns : Nat → List RecM.Nte} {ex : List Bs} {F : Nat → List Bs} {X : List Bs} {er : Bool} {N : Nat}
theorem scan_on {tb : TabM.T} {s : FS} {a : Nat} (hM : tb.rows.length = M) (hpp : 1 ≤ s.pp) (hon : s.off = false) (j : Nat) (hj : j < M) :
    scanL fr ⟨s, tb, a⟩ (j : Int) 1 = if headSeq ((segPages s (fr + j)).getD 0 []) = 0 then ((0, []), 0) else ((headSeq ((segPages s (fr + j)).getD 0 []), scanF (j : Int) (s.pp + 1) 1 ((segPages s (fr + j)).drop 1)), 0) := by
  unfold scanL
  rw [if_neg (by simp only [hM]; omega), if_neg (by simp only [hon]; decide)]
  rfl
/-- a segment with all its pages as they are -/
theorem scan_whole {Q : List Bs} {s : Nat} {ns : List RecM.Nte} {T : List Bs} (hs : s < 18446744073709551616) (hs0 : 0 < s) (hg : ∀ n ∈ ns, Good n) (hT : Tail T) (hQ : Q = hdr s :: (ns.flatMap notePages ++ T)) (seg : Int) (f : Nat) (hf : Q.length ≤ f) :
    headSeq (Q.getD 0 []) = s ∧ scanF seg f 1 (Q.drop 1) = ents seg 1 ns := by
  subst hQ
  refine ⟨headSeq_hdr s hs, ?_⟩
  have hlen := flat_notes_len ns
  simp only [List.length_cons, List.length_append] at hf
  obtain ⟨m, hm, e, hmax⟩ := scan_like seg T hT ns 1 f _ hg (like_refl _) (by omega)
  have hml : ns.length ≤ m := hmax ns.length T (Nat.le_refl _) (by rw [List.take_length])
  rw [List.drop_succ_cons, List.drop_zero, e, List.take_of_length_le (by omega)]
theorem found_old (h : Inv fr M σ k op hd Ns ex F X er) (hM : M ≤ 256) {s' : FS} (hpp : s'.pp = σ.fs.pp) (j : Nat) (hj : j + 1 < k) (hnow : ∀ i, i < s'.pp → FlaM.now s' (fr + j) i = (F j).getD i FlaM.blank) :
    headSeq ((segPages s' (fr + j)).getD 0 []) = j + 1 ∧ scanF (j : Int) (s'.pp + 1) 1 ((segPages s' (fr + j)).drop 1) = ents (j : Int) 1 (Ns j) := by
  have h1 := h.all j (by omega)
  have h2 : F j = hdr (j + 1) :: (Ns j).flatMap notePages := by
    unfold onSeg full at h1
    rw [if_neg (by omega), if_neg (by omega), if_neg (by omega), List.append_nil] at h1
    exact h1
  have hroom := h.phy.room j (by have := h.km; omega)
  have hQ : segPages s' (fr + j) = padded (F j) s'.pp := by
    apply ext_get
    · rw [seg_len, padded_len (by rw [hpp]; exact hroom)]
    · intro i hi
      rw [seg_len] at hi
      rw [seg_at hi, padded_at hi, hnow i hi]
  rw [hQ]
  have e : padded (F j) s'.pp = hdr (j + 1) :: ((Ns j).flatMap notePages ++ List.replicate (s'.pp - (F j).length) FlaM.blank) := by
    unfold padded
    rw [h2]; rfl
  have hl : (padded (F j) s'.pp).length = s'.pp := padded_len (by rw [hpp]; exact hroom)
  have hk := h.km
  exact scan_whole (by omega) (Nat.succ_pos _) (h.good j) (tail_blank _) e (j : Int) _ (by rw [hl]; exact Nat.le_succ _)
/-- behind a crash -/
theorem scan_crash (h : Inv fr M σ k op hd Ns ex F X er) (ok : FlaM.Ok σ.fs N) (hM : M ≤ 256) (fates : List Int) :
    ∃ m hok, m ≤ (Ns (k - 1)).length ∧ (hok = false → m = 0) ∧ (∀ cnt, Sf cnt k Ns F → cnt ≤ tot Ns (k - 1) + m) ∧
      ∀ j, j < M → scanL fr ⟨FlaM.crash σ.fs fates, σ.tb, σ.a⟩ (j : Int) 1 = ((seqAt k hok j, ents (j : Int) 1 (foundAt k Ns m j)), 0) := by
  have hpp : (FlaM.crash σ.fs fates).pp = σ.fs.pp := rfl
  have hp5 := h.pp
  have hk := h.km
  have htb : σ.tb.rows.length = M := by rw [h.tb]; exact tab_len _ _ _
  have hnow : ∀ g i, FlaM.now (FlaM.crash σ.fs fates) g i = FlaM.pageAt (FlaM.crash σ.fs fates).safe g i := fun g i => rfl
  have hcr : ∀ j i, j < M → i < σ.fs.pp → (j ≠ k - 1 ∨ i < (F j).length → FlaM.now (FlaM.crash σ.fs fates) (fr + j) i = (F j).getD i FlaM.blank) ∧ (FlaM.now (FlaM.crash σ.fs fates) (fr + j) i = (onSeg F (k - 1) X j).getD i FlaM.blank ∨ PagM.isPage (FlaM.now (FlaM.crash σ.fs fates) (fr + j) i) = false) := by
    intro j i hj hi
    rw [hnow]
    exact h.phy.crash ok fates j i hj hi
  generalize hs' : FlaM.crash σ.fs fates = s' at hpp hnow hcr ⊢
  have hon : s'.off = false := by rw [← hs']; rfl
  have hscan := fun j hj => scan_on (fr := fr) (a := σ.a) htb (s := s') (by rw [hpp]; omega) hon j hj
  -- segments that were not opened
  have hnew : ∀ j, k ≤ j → j < M → headSeq ((segPages s' (fr + j)).getD 0 []) = 0 := by
    intro j hkj hj
    rw [seg_at (by omega)]
    refine headSeq_bad ?_
    rcases (hcr j 0 hj (by omega)).2 with e | e
    · rw [e]
      have : onSeg F (k - 1) X j = [] := by
        unfold onSeg
        split
        · rename_i h1
          cases op
          · rw [(h.new j hkj).1, (h.shut rfl).1]; rfl
          · have := h.opn rfl; omega
        · exact (h.new j hkj).1
      rw [this]
      exact blank_page
    · exact e
  have hold := fun j (hj : j + 1 < k) => found_old h hM hpp j hj (fun i hi => (hcr j i (by omega) (by rw [← hpp]; exact hi)).1 (.inl (by omega)))
  -- the newest one
  have hlast : ∃ m hok, m ≤ (Ns (k - 1)).length ∧ (hok = false → m = 0) ∧ (∀ cnt, Sf cnt k Ns F → cnt ≤ tot Ns (k - 1) + m) ∧
      (0 < k → (hok = true → headSeq ((segPages s' (fr + (k - 1))).getD 0 []) = k ∧ scanF ((k - 1 : Nat) : Int) (s'.pp + 1) 1 ((segPages s' (fr + (k - 1))).drop 1) = ents ((k - 1 : Nat) : Int) 1 ((Ns (k - 1)).take m)) ∧ (hok = false → headSeq ((segPages s' (fr + (k - 1))).getD 0 []) = 0)) := by
    rcases Nat.eq_zero_or_pos k with hk0 | hk0
    · refine ⟨0, false, Nat.zero_le _, fun _ => rfl, fun cnt hc => ?_, fun h => absurd h (by omega)⟩
      obtain ⟨m, h1, h2, _⟩ := hc
      rw [h.zero hk0] at h1
      simp at h1
      omega
    have hj : k - 1 < M := by omega
    have hkk : k - 1 + 1 = k := Nat.sub_add_cancel hk0
    have hall := h.all (k - 1) (by omega)
    cases hd
    · refine ⟨0, false, Nat.zero_le _, fun _ => rfl, fun cnt hc => ?_, fun _ => ⟨fun h => (by cases h), fun _ => ?_⟩⟩
      · obtain ⟨m, h1, h2, _⟩ := hc
        rw [(h.bad rfl).1] at h1
        simp at h1
        omega
      · rw [seg_at (by omega)]
        refine headSeq_bad ?_
        rcases (hcr (k - 1) 0 hj (by omega)).2 with e | e
        · rw [e, hall]
          unfold full
          rw [if_pos ⟨hkk, rfl⟩]
          exact blank_page
        · exact e
    have hfull : onSeg F (k - 1) X (k - 1) = hdr k :: ((Ns (k - 1)).flatMap notePages ++ ex) := by
      rw [hall]
      unfold full
      rw [if_neg (by simp), if_pos hkk, hkk]
    have hfl : (onSeg F (k - 1) X (k - 1)).length ≤ s'.pp := by
      unfold onSeg
      rw [if_pos rfl, List.length_append, hpp]
      exact h.phy.roomX
    obtain ⟨r, hr⟩ : ∃ r, r = s'.pp - (onSeg F (k - 1) X (k - 1)).length := ⟨_, rfl⟩
    have hpad : padded (onSeg F (k - 1) X (k - 1)) s'.pp = hdr k :: ((Ns (k - 1)).flatMap notePages ++ (ex ++ List.replicate r FlaM.blank)) := by
      unfold padded
      rw [← hr, hfull, List.cons_append, List.append_assoc]
    have hlike : Like (segPages s' (fr + (k - 1))) (padded (onSeg F (k - 1) X (k - 1)) s'.pp) := by
      apply like_of_get
      · rw [seg_len, padded_len hfl]
      · intro i hi
        rw [padded_len hfl] at hi
        rw [seg_at hi, padded_at hi]
        exact (hcr (k - 1) i hj (by omega)).2
    have hT : Tail (ex ++ List.replicate r FlaM.blank) := by
      rcases h.torn with h1 | ⟨_, n, c, hc, h1⟩
      · rw [h1]; exact tail_blank _
      · rw [h1]; exact tail_torn n c r hc
    -- what is safe is there
    have hsafe : ∃ F3, segPages s' (fr + (k - 1)) = F (k - 1) ++ F3 := by
      have hroom := h.phy.room (k - 1) hj
      refine ⟨(segPages s' (fr + (k - 1))).drop (F (k - 1)).length, ?_⟩
      conv => lhs; rw [← List.take_append_drop (F (k - 1)).length (segPages s' (fr + (k - 1)))]
      congr 1
      apply ext_get
      · rw [List.length_take, seg_len, hpp]; omega
      · intro i hi
        rw [List.length_take, seg_len] at hi
        have e1 : ((segPages s' (fr + (k - 1))).take (F (k - 1)).length).getD i [] = (segPages s' (fr + (k - 1))).getD i [] := by
          rw [List.getD_eq_getElem?_getD, List.getElem?_take_of_lt (by omega), ← List.getD_eq_getElem?_getD]
        rw [e1, seg_at (by omega), (hcr (k - 1) i hj (by omega)).1 (.inr (by omega)), List.getD_eq_getElem?_getD, List.getD_eq_getElem?_getD, List.getElem?_eq_getElem (by omega)]
        rfl
    rw [hpad] at hlike
    have hql := seg_len s' (fr + (k - 1))
    generalize hq : segPages s' (fr + (k - 1)) = Q at hlike hsafe hql ⊢
    cases Q with
    | nil => exact hlike.elim
    | cons q0 Q =>
      obtain ⟨hq0, hQ⟩ := hlike
      have hflen := flat_notes_len (Ns (k - 1))
      have hl2 := like_len hQ
      rw [List.length_append] at hl2
      simp only [List.length_cons] at hql
      obtain ⟨m, hm, e, hmax⟩ := scan_like ((k - 1 : Nat) : Int) _ hT (Ns (k - 1)) 1 (s'.pp + 1) Q (h.good (k - 1)) hQ (by omega)
      by_cases hp : PagM.isPage q0 = true
      · have hq1 : q0 = hdr k := by
          rcases hq0 with h1 | h1
          · exact h1
          · rw [hp] at h1; cases h1
        refine ⟨m, true, hm, fun h => (by cases h), fun cnt hc => ?_, fun _ => ⟨fun _ => ⟨?_, e⟩, fun h => (by cases h)⟩⟩
        · obtain ⟨m0, h1, h2, h3⟩ := hc
          rcases Nat.eq_zero_or_pos m0 with h0 | h0
          · omega
          · obtain ⟨F2, hF⟩ := h3 h0
            obtain ⟨F3, hF3⟩ := hsafe
            rw [hF, List.cons_append] at hF3
            have hQ2 := (List.cons.inj hF3).2
            have := hmax m0 (F2 ++ F3) h1 (by rw [hQ2]; exact List.append_assoc _ _ _)
            omega
        · rw [hq1]
          exact headSeq_hdr k (by omega)
      · have hpf : PagM.isPage q0 = false := by simpa using hp
        refine ⟨0, false, Nat.zero_le _, fun _ => rfl, fun cnt hc => ?_, fun _ => ⟨fun h => (by cases h), fun _ => headSeq_bad hpf⟩⟩
        obtain ⟨m0, h1, h2, h3⟩ := hc
        rcases Nat.eq_zero_or_pos m0 with h0 | h0
        · omega
        · obtain ⟨F2, hF⟩ := h3 h0
          obtain ⟨F3, hF3⟩ := hsafe
          rw [hF, List.cons_append] at hF3
          have := (List.cons.inj hF3).1
          rw [this, hdr_page] at hpf
          cases hpf
  obtain ⟨m, hok, l1, l2, l3, l4⟩ := hlast
  refine ⟨m, hok, l1, l2, l3, fun j hj => ?_⟩
  rw [hscan j hj]
  rcases Nat.lt_trichotomy (j + 1) k with hjk | hjk | hjk
  · obtain ⟨e1, e2⟩ := hold j hjk
    rw [e1, e2, if_neg (Nat.succ_ne_zero j)]
    unfold seqAt foundAt
    rw [if_pos (.inl hjk), if_pos hjk]
  · have hj1 : j = k - 1 := by omega
    obtain ⟨e1, e2⟩ := l4 (by omega)
    rw [← hj1] at e1 e2
    unfold seqAt foundAt
    cases hok
    · rw [e2 rfl, if_pos rfl, if_neg (by simp; omega), if_neg (by omega), if_pos hjk, l2 rfl]
      rfl
    · obtain ⟨e3, e4⟩ := e1 rfl
      rw [e3, e4, if_neg (by omega), if_pos (.inr ⟨hjk, rfl⟩), if_neg (by omega), if_pos hjk, hjk]
  · rw [hnew j (by omega) hj, if_pos rfl]
    unfold seqAt foundAt
    rw [if_neg (by simp; omega), if_neg (by omega), if_neg (by omega)]
    rfl
end
end Go.LogM

end
section
namespace Go.LogM
open FlaM (FS)
noncomputable def readL (fr : Nat) (σ : LG) (p : Plc) : RecM.Nte × Nat :=
  if p.seg < 0 ∨ (σ.tb.rows.length : Int) ≤ p.seg ∨ p.page < 1 ∨ p.pages < 1 ∨ (σ.fs.pp : Int) < p.page ∨ (σ.fs.pp : Int) - p.page < p.pages then (RecM.zeroN, 1)
  else if σ.fs.off = true then (RecM.zeroN, 6)
  else match note1 (((segPages σ.fs (fr + p.seg.toNat)).drop p.page.toNat).take p.pages.toNat) with
    | none => (RecM.zeroN, 120)
    | some (n, k) => if (k : Int) = p.pages then (n, 0) else (RecM.zeroN, 120)
def headN (σ : LG) : Nat × Nat :=
  match TabM.cur σ.tb with
  | none => (σ.tb.next, 1)
  | some i => if σ.a < σ.fs.pp then ((TabM.at_ σ.tb.rows i).seq, σ.a) else (σ.tb.next, 1)
/-- it hangs together -/
structure LgOk (fr : Nat) (σ : LG) (N : Nat) : Prop where
  fs : FlaM.Ok σ.fs N
  tb : TabM.Ok σ.tb N
  room : fr + σ.tb.rows.length ≤ σ.fs.safe.length
  pp : 2 ≤ σ.fs.pp
  a : (TabM.cur σ.tb).isSome = true → 1 ≤ σ.a ∧ σ.a ≤ σ.fs.pp
  load : TabM.LoadOk σ.tb.rows σ.tb.next
theorem load_tab {M k : Nat} (op : Bool) (hM : M ≤ 256) : TabM.LoadOk (tabOf M k op).rows (tabOf M k op).next := by
  refine ⟨by rw [tab_len]; exact hM, Nat.succ_pos _, ?_, ?_, ?_, ?_⟩
  · intro s hs hk
    obtain ⟨i, hi, rfl⟩ := tab_mem hs
    unfold rowAt at hk ⊢
    split at hk
    · simp at hk; split at hk <;> cases hk
    · rename_i h; rw [if_neg h]; rfl
  · intro s hs hk
    obtain ⟨i, hi, rfl⟩ := tab_mem hs
    unfold rowAt at hk ⊢
    by_cases h : i < k
    · rw [if_pos h]
      refine ⟨?_, Nat.succ_pos _, by show i + 1 < k + 1; omega⟩
      show (if _ then 1 else 2) ≤ 2
      split <;> omega
    · rw [if_neg h] at hk; exact absurd rfl hk
  · intro i j hi hj hne e
    have hi' : i < M := by rw [tab_len] at hi; exact hi
    have hj' : j < M := by rw [tab_len] at hj; exact hj
    have e1 : (tabOf M k op).rows[i] = rowAt k op i := by rw [← TabM.at_lt hi]; exact tab_at hi'
    have e2 : (tabOf M k op).rows[j] = rowAt k op j := by rw [← TabM.at_lt hj]; exact tab_at hj'
    rw [e1, e2] at e
    rw [e1]
    by_cases h1 : i < k
    · rw [rowAt_seq h1] at e ⊢
      by_cases h2 : j < k
      · rw [rowAt_seq h2] at e; omega
      · unfold rowAt at e; rw [if_neg h2] at e; cases e
    · unfold rowAt; rw [if_neg h1]; rfl
  · intro i j hi hj e1 e2
    have hi' : i < M := by rw [tab_len] at hi; exact hi
    have hj' : j < M := by rw [tab_len] at hj; exact hj
    rw [← TabM.at_lt hi, tab_at hi'] at e1
    rw [← TabM.at_lt hj, tab_at hj'] at e2
    have key : ∀ x, (rowAt k op x).kind = 1 → x + 1 = k := by
      intro x hx
      unfold rowAt at hx
      split at hx
      · simp only at hx
        split at hx
        · rename_i h; exact h.2
        · cases hx
      · cases hx
    have := key i e1
    have := key j e2
    omega
section
variable {fr M : Nat} {σ : LG} {k : Nat} {op hd : Bool} {Ns : Nat → List RecM.Nte} {ex : List Bs} {F : Nat → List Bs} {X : List Bs} {er : Bool} {N : Nat}
theorem Inv.ok (h : Inv fr M σ k op hd Ns ex F X er) (hM : M ≤ 256) (ok : FlaM.Ok σ.fs N) (hN : k ≤ N) (h1 : 1 ≤ N) : LgOk fr σ N := by
  refine ⟨ok, by rw [h.tb]; exact tab_ok op hM hN h1, by rw [h.tb, tab_len, h.phy.len]; exact Nat.le_refl _, h.pp, fun hc => ?_, by rw [h.tb]; exact load_tab op hM⟩
  rw [cur_some h] at hc
  have ha := h.at_ hc
  have hpp := h.pp
  cases hd
  · rw [if_neg (by simp)] at ha; omega
  · rw [if_pos rfl] at ha
    have hk := h.opn hc
    have hl := full_len h hk
    have hr := h.phy.roomX
    have hall := h.all (k - 1) (by omega)
    have : 1 ≤ (onSeg F (k - 1) X (k - 1)).length := by
      rw [hall]
      unfold full
      rw [if_neg (by simp), List.length_cons]
      omega
    omega
theorem head_open (h : Inv fr M σ k true hd Ns ex F X er) : headN σ = if σ.a < σ.fs.pp then (k, σ.a) else (k + 1, 1) := by
  have hk := h.opn rfl
  have hkM := h.km
  unfold headN
  rw [h.tb, tab_cur hk hkM]
  simp only
  rw [tab_at (by omega), rowAt_seq (by omega), show k - 1 + 1 = k by omega]
  rfl
end
/-! ### the examples -/
def nD (i : Nat) : RecM.Nte := ⟨3, 0, i, RecM.zsum, 0, []⟩
def x0 : LG := ⟨FlaM.fresh (2 + 1) 4, TabM.fresh 2, 4⟩
def x1 : LG := (appendL 1 x0 (nD 0)).1
def x2 : LG := (appendL 1 x1 (nD 1)).1
def x3 : LG := (appendL 1 x2 (nD 2)).1
def x4 : LG := (appendL 1 x3 (nD 3)).1
def xs (i : Nat) : LG := if i = 0 then x0 else if i = 1 then x1 else if i = 2 then x2 else if i = 3 then x3 else x4
def want (i : Nat) : Plc := if i = 0 then ⟨0, 1, 1⟩ else if i = 1 then ⟨0, 2, 1⟩ else if i = 2 then ⟨0, 3, 1⟩ else ⟨1, 1, 1⟩
theorem x1_eq : x1 = (appendL 1 x0 (nD 0)).1 := by rw [x1]
theorem x2_eq : x2 = (appendL 1 x1 (nD 1)).1 := by rw [x2]
theorem x3_eq : x3 = (appendL 1 x2 (nD 2)).1 := by rw [x3]
theorem x4_eq : x4 = (appendL 1 x3 (nD 3)).1 := by rw [x4]
theorem ex0 : (appendL 1 x0 (nD 0)).2 = (⟨0, 1, 1⟩, 0) := by kernel_rfl
theorem ex1 : (appendL 1 x1 (nD 1)).2 = (⟨0, 2, 1⟩, 0) := by kernel_rfl
theorem ex2 : (appendL 1 x2 (nD 2)).2 = (⟨0, 3, 1⟩, 0) := by kernel_rfl
theorem ex3 : (appendL 1 x3 (nD 3)).2 = (⟨1, 1, 1⟩, 0) := by kernel_rfl
theorem ex4 : headN x4 = (2, 2) := by kernel_rfl
theorem ex_step (i : Nat) (h : i < 4) : appendL 1 (xs i) (nD i) = (xs (i + 1), (want i, 0)) := by
  rcases (show i = 0 ∨ i = 1 ∨ i = 2 ∨ i = 3 by omega) with rfl | rfl | rfl | rfl
  · have e1 : xs 0 = x0 := by simp [xs]
    have e2 : xs (0 + 1) = x1 := by simp [xs]
    have e3 : want 0 = ⟨0, 1, 1⟩ := by simp [want]
    rw [e1, e2, e3]
    have h := (Prod.eta (appendL 1 x0 (nD 0))).symm
    rw [ex0, ← x1_eq] at h
    exact h
  · have e1 : xs 1 = x1 := by simp [xs]
    have e2 : xs (1 + 1) = x2 := by simp [xs]
    have e3 : want 1 = ⟨0, 2, 1⟩ := by simp [want]
    rw [e1, e2, e3]
    have h := (Prod.eta (appendL 1 x1 (nD 1))).symm
    rw [ex1, ← x2_eq] at h
    exact h
  · have e1 : xs 2 = x2 := by simp [xs]
    have e2 : xs (2 + 1) = x3 := by simp [xs]
    have e3 : want 2 = ⟨0, 3, 1⟩ := by simp [want]
    rw [e1, e2, e3]
    have h := (Prod.eta (appendL 1 x2 (nD 2))).symm
    rw [ex2, ← x3_eq] at h
    exact h
  · have e1 : xs 3 = x3 := by simp [xs]
    have e2 : xs (3 + 1) = x4 := by simp [xs]
    have e3 : want 3 = ⟨1, 1, 1⟩ := by simp [want]
    rw [e1, e2, e3]
    have h := (Prod.eta (appendL 1 x3 (nD 3))).symm
    rw [ex3, ← x4_eq] at h
    exact h
theorem nD_good (i : Nat) (h : i < 18446744073709551616) : Good (nD i) := ⟨⟨(by show 0 < 4294967296; decide), h, rfl, (by show 0 < 4294967296; decide)⟩, rfl⟩
theorem nD_pages (i : Nat) (h : i < 18446744073709551616) : (notePages (nD i)).length = 1 := by
  unfold notePages
  rw [PagM.pages_len, RecM.laid_len (nD_good i h).fits]
  simp [RecM.sizeN, nD]
/-- what is known of the state behind the first i of them -/
def XOk (i k : Nat) (op : Bool) : Prop := (∃ hd Ns ex F X er, Inv 1 2 (xs i) k op hd Ns ex F X er) ∧ FlaM.Ok (xs i).fs (2 + 7 * i) ∧ Live (xs i).fs ∧ (xs i).fs.pp = 4
theorem x_step (i : Nat) (hi : i < 4) {k : Nat} {op : Bool} (h : XOk i k op) (hk : k < 2) : XOk (i + 1) (if op = true ∧ (xs i).a + 1 ≤ 4 then k else k + 1) true := by
  obtain ⟨⟨hd, Ns, ex, F, X, er, hI⟩, ok, hl, hpp⟩ := h
  have hlen := nD_pages i (by omega)
  obtain ⟨⟨k', op', hd', Ns', ex', F', X', er', q⟩, qok⟩ := inv_append hI ok (nD_good i (by omega)) hk (by rw [hlen, hpp]; decide)
  have hkx := q.kx hl
  have hq := q.live hl
  have hqi := q.inv
  have hqp := q.pp
  have hor := q.or
  rw [ex_step i hi] at hq hqi hqp qok hor
  rw [hlen, hpp] at hkx
  rcases hor with ⟨_, h1, _⟩ | ⟨h1, _⟩
  · subst h1
    rw [hkx] at hqi
    exact ⟨⟨_, _, _, _, _, _, hqi⟩, qok.more (by omega), hq.2, hqp.trans hpp⟩
  · have := congrArg Prod.snd h1
    cases this
theorem xa1 : (xs 1).a = 2 := by kernel_rfl
theorem xa2 : (xs 2).a = 3 := by kernel_rfl
theorem xa3 : (xs 3).a = 4 := by kernel_rfl
theorem x_ok0 : XOk 0 0 false := ⟨⟨_, _, _, _, _, _, inv_fresh 1 2 4 (by decide)⟩, (FlaM.ok_fresh 3 4 (by decide) (by decide)).more (by decide), ⟨rfl, rfl⟩, rfl⟩
theorem x_ok1 : XOk 1 1 true := by have h := x_step 0 (by decide) x_ok0 (by decide); rw [if_neg (by simp)] at h; exact h
theorem x_ok2 : XOk 2 1 true := by have h := x_step 1 (by decide) x_ok1 (by decide); rw [xa1, if_pos (by simp)] at h; exact h
theorem x_ok3 : XOk 3 1 true := by have h := x_step 2 (by decide) x_ok2 (by decide); rw [xa2, if_pos (by simp)] at h; exact h
theorem x_ok4 : XOk 4 2 true := by have h := x_step 3 (by decide) x_ok3 (by decide); rw [xa3, if_neg (by simp)] at h; exact h
theorem x_lg {i k : Nat} {op : Bool} (h : XOk i k op) (hk : k ≤ 2) : LgOk 1 (xs i) (2 + 7 * i) := by
  obtain ⟨⟨hd, Ns, ex, F, X, er, hI⟩, ok, _⟩ := h
  exact hI.ok (by decide) ok (by omega) (by omega)
theorem xs_ok (i : Nat) (hi : i ≤ 4) : LgOk 1 (xs i) (2 + 7 * i) := by
  rcases (show i = 0 ∨ i = 1 ∨ i = 2 ∨ i = 3 ∨ i = 4 by omega) with rfl | rfl | rfl | rfl | rfl
  · exact x_lg x_ok0 (by decide)
  · exact x_lg x_ok1 (by decide)
  · exact x_lg x_ok2 (by decide)
  · exact x_lg x_ok3 (by decide)
  · exact x_lg x_ok4 (by decide)
end Go.LogM

end
section
namespace Go.Own
open Go.RowKit

/-- From w to w' only blocks of S have turned among those that were there; T (what the object holds now) is S and new blocks. -/
structure Step (S T : Nat → Prop) (w w' : World) : Prop where
  os : w'.os = w.os
  tape : w'.tape = w.tape
  output : w'.output = w.output
  size : w.heap.size ≤ w'.heap.size
  block : ∀ k, k < w.heap.size → ¬ S k → w'.heap[k]? = w.heap[k]?
  new : ∀ k, T k → S k ∨ w.heap.size ≤ k

theorem Step.refl (S : Nat → Prop) (w : World) : Step S S w w := ⟨rfl, rfl, rfl, Nat.le_refl _, fun _ _ _ => rfl, fun _ h => Or.inl h⟩

theorem Step.trans {S T U : Nat → Prop} {w w1 w2 : World} (h : Step S T w w1) (g : Step T U w1 w2) : Step S U w w2 :=
  ⟨g.os.trans h.os, g.tape.trans h.tape, g.output.trans h.output, Nat.le_trans h.size g.size,
   fun k hk hs => (g.block k (Nat.lt_of_lt_of_le hk h.size) (fun ht => (h.new k ht).elim hs (fun h1 => absurd h1 (by omega)))).trans (h.block k hk hs),
   fun k hu => (g.new k hu).elim (fun h1 => h.new k h1) (fun h1 => Or.inr (Nat.le_trans h.size h1))⟩

theorem Step.drewN {S T : Nat → Prop} {w w' : World} (h : Step S T w w') (n : Nat) : Step S T w (w'.drewN n) := ⟨h.os, h.tape, h.output, h.size, h.block, h.new⟩
theorem Step.drew {S T : Nat → Prop} {w w' : World} (h : Step S T w w') : Step S T w w'.drew := ⟨h.os, h.tape, h.output, h.size, h.block, h.new⟩

/-- A store into one of the object's own blocks. -/
theorem Step.setCell {S T : Nat → Prop} {w w' : World} (h : Step S T w w') {a : Addr} (ha : S a.block ∨ w.heap.size ≤ a.block) (u : Value) : Step S T w (w'.setCell a u) :=
  ⟨h.os, h.tape, h.output, by simpa using h.size, fun k hk hs => by
    have hne : k ≠ a.block := by
      intro e; subst e
      exact ha.elim hs (fun h1 => absurd h1 (by omega))
    rw [Below.heap_setCell _ _ _ _ hne]; exact h.block k hk hs, h.new⟩

/-- A new block, the object's or nobody's. -/
theorem Step.alloc {S T : Nat → Prop} {w w' : World} (h : Step S T w w') (o : Obj) : Step S T w (w'.alloc o) :=
  ⟨h.os, h.tape, h.output, by have := h.size; simp; omega, fun k hk hs => by
    rw [Below.heap_alloc _ _ _ (by have := h.size; omega)]; exact h.block k hk hs, h.new⟩

/-- What the object holds may be said otherwise. -/
theorem Step.to {S T U : Nat → Prop} {w w' : World} (h : Step S T w w') (hu : ∀ k, U k → S k ∨ w.heap.size ≤ k) : Step S U w w' := ⟨h.os, h.tape, h.output, h.size, h.block, hu⟩

/-- Behind an append onto a row of the object's own. -/
theorem Step.grown {S T : Nat → Prop} {w w1 w' : World} {row : Option Nat} (h : Step S T w w1) (hg : w1.grownBy w' row) (hr : ∀ k, row = some k → S k ∨ w.heap.size ≤ k) : Step S T w w' :=
  ⟨hg.os.trans h.os, hg.tape.trans h.tape, hg.output.trans h.output, Nat.le_trans h.size hg.size,
   fun k hk hs => (hg.block k (by have := h.size; omega) (fun e => (hr k e.symm).elim hs (fun h1 => absurd h1 (by omega)))).trans (h.block k hk hs), h.new⟩

theorem Step.below {S T : Nat → Prop} {w w' : World} (h : Step S T w w') {B : Nat} (hB : B ≤ w.heap.size) (hS : ∀ k, S k → B ≤ k) : Below B w w' :=
  ⟨h.os, h.tape, h.output, h.size, fun k hk => h.block k (by omega) (fun hs => by have := hS k hs; omega)⟩

def Dis (S T : Nat → Prop) : Prop := ∀ k, S k → ¬ T k

theorem cell_of_block {w : World} {b i : Nat} {c : Array Value} {t : TypeId} {fz : Nat × Nat} {v : Value} (h : w.heap[b]? = some (.cells c t fz)) (hv : c[i]? = some v) : w.cell? ⟨b, i, none⟩ = some v := by
  simp [World.cell?, h, hv]

theorem cell_alloc {w : World} {a : Addr} {v : Value} (h : w.cell? a = some v) (o : Obj) : (w.alloc o).cell? a = some v := by
  rw [World.cell?_alloc_lt _ _ _ (World.block_lt_of_cell? w a h)]; exact h

theorem frozen_of_block {w : World} {b i : Nat} {c : Array Value} {t : TypeId} (h : w.heap[b]? = some (.cells c t (0, 0))) : w.frozen? ⟨b, i, none⟩ = false := by
  simp [World.frozen?, h]

theorem lt_of_block {w : World} {b : Nat} {o : Obj} (h : w.heap[b]? = some o) : b < w.heap.size := (Array.getElem?_eq_some_iff.1 h).1

theorem block_setCell {w : World} {b i : Nat} {c : Array Value} {t : TypeId} {fz : Nat × Nat} (h : w.heap[b]? = some (.cells c t fz)) (u : Value) :
    (w.setCell ⟨b, i, none⟩ u).heap[b]? = some (.cells (c.setIfInBounds i u) t fz) := by
  simp [World.setCell, Array.getElem?_modify, h]

def byteV (c : UInt8) : Value := .int .u8 (c.toNat : Int)
theorem byteV_one (l : List UInt8) : ∀ u ∈ l.map byteV, u.oneCell' = true := by
  intro u hu; obtain ⟨c, _, rfl⟩ := List.mem_map.1 hu; rfl

/-- A row of an object's own: n elements (size cells each) in the cells xs; T: the block that holds them, if there is one. -/
structure Row (w : World) (e : TypeId) (size : Nat) (T : Nat → Prop) (v : Value) (n : Nat) (xs : List Value) : Prop where
  own : w.ownsRow 0 e size v n xs
  set : ∀ k, T k ↔ v.ownBlock = some k

section
variable {w w' : World} {e : TypeId} {size : Nat} {S T U : Nat → Prop} {v : Value} {n : Nat} {xs : List Value}

theorem Row.nil (w : World) (e : TypeId) (size : Nat) : Row w e size (fun _ => False) (.slice none 0 0) 0 [] := ⟨World.ownsRow_nil w 0 e size, fun k => by simp [Value.ownBlock]⟩

theorem Row.form (h : Row w e size T v n xs) : ∃ ao cap, v = .slice ao n cap ∧ n ≤ cap ∧ cap ≤ maxLen ∧ (ao = none → n = 0 ∧ cap = 0 ∧ xs = []) ∧ ∀ a, ao = some a → ∃ g, a = ⟨g, 0, none⟩ ∧ T g := by
  have hs := h.set
  have hx := h.own.1
  rcases h.own.2 with ⟨rfl, rfl⟩ | ⟨g, cap, cur, rfl, _, _, h1, h2, _⟩
  · exact ⟨none, 0, rfl, Nat.le_refl _, by unfold maxLen; omega, fun _ => ⟨rfl, rfl, List.eq_nil_of_length_eq_zero (by simpa using hx)⟩, fun a h => by cases h⟩
  · exact ⟨_, cap, rfl, h1, h2, fun h => by (cases h), fun a ha => ⟨g, by cases ha; rfl, (hs g).2 rfl⟩⟩

theorem Row.lt (h : Row w e size T v n xs) : ∀ k, T k → k < w.heap.size := fun k hk => (h.own.lt k ((h.set k).1 hk)).2

/-- What others turn turns no row of mine. -/
theorem Row.step (h : Row w e size T v n xs) (g : Step S U w w') (hd : Dis T S) : Row w' e size T v n xs := by
  refine ⟨⟨h.own.1, ?_⟩, h.set⟩
  rcases h.own.2 with h1 | ⟨b, cap, cur, rfl, h0, hb, r⟩
  · exact .inl h1
  · exact .inr ⟨b, cap, cur, rfl, h0, (g.block b (lt_of_block hb) (hd b ((h.set b).2 rfl))).trans hb, r⟩

theorem Row.alloc (h : Row w e size T v n xs) (o : Obj) : Row (w.alloc o) e size T v n xs := ⟨h.own.alloc o, h.set⟩
theorem Row.drew (h : Row w e size T v n xs) : Row w.drew e size T v n xs := ⟨h.own.drew, h.set⟩

theorem Row.cells {b cap : Nat} (h : Row w e size T (.slice (some ⟨b, 0, none⟩) n cap) n xs) (j : Nat) (hj : j < n * size) : w.cell? ⟨b, j, none⟩ = xs[j]? := h.own.cellAt j hj
end

/-- a new row: what it holds at first -/
theorem Row.made (w : World) (cs : Array Value) (e : TypeId) (size n : Nat) (hm : n ≤ maxLen) (hs : cs.size = n * size) : Row (w.alloc (.cells cs e)) e size (fun k => k = w.heap.size) (.slice (some ⟨w.heap.size, 0, none⟩) n n) n cs.toList :=
  ⟨World.ownsRow_lit w cs n (Nat.zero_le _) hm hs, fun k => by simp [Value.ownBlock, eq_comm]⟩

/-- append ONTO A ROW OF ONE's OWN: the row that comes is the old one's block or a new one. -/
theorem run_append_row {P : Program} (w : World) (t ty e : TypeId) (i : TypeInfo) (z : Value) (size bytes : Nat) (ht : P.underlying t = some (.slice e)) (hi : P.info? e = some i) (hz : i.zero = some z)
    (hsize : i.size = size) (hby : i.bytes = bytes) (hzs : z.cells.size = size) (hsz : 0 < size)
    {T : Nat → Prop} (v : Value) (n : Nat) (xs : List Value) (hrow : Row w e size T v n xs)
    (ao : Option Addr) (m c : Nat) (news : List Value) (hno : ao = none → m = 0 ∧ c = 0) (hl : news.length = m * size) (hnews : ∀ a, ao = some a → ∀ j u, news[j]? = some u → w.cell? (a.add j) = some u) (h1 : ∀ u ∈ news, u.oneCell' = true)
    (h63 : n + m ≤ maxLen) (hbytes : (n + m) * bytes ≤ 140737488355328) :
    ∃ v' w' T', (Builtin.append_ #[t, t] ty #[v, .slice ao m c]).run P w = .ok v' w' ∧ Row w' e size T' v' (n + m) (xs ++ news) ∧ Step T T' w w' := by
  cases ao with
  | none =>
    obtain ⟨rfl, rfl⟩ := hno rfl
    obtain rfl : news = [] := List.eq_nil_of_length_eq_zero (by simpa using hl)
    exact ⟨v, w, T, run_append_owned_none (P := P) w 0 t ty e i size ht hi v n xs hrow.own, by simpa using hrow, Step.refl _ _⟩
  | some a =>
    rcases hrow.own.2 with ⟨rfl, rfl⟩ | ⟨g, cap, cur, rfl, hbg, hg, hnc, hcm, hcs, htake⟩
    · obtain rfl : xs = [] := List.eq_nil_of_length_eq_zero (by simpa using hrow.own.1)
      obtain ⟨v', w', hr, r1, r2, _⟩ := run_append_own (P := P) w w.heap.size t ty e i z size bytes ht hi hz hsize hby hzs hsz _ 0 [] (World.ownsRow_nil w _ e size) a m c news hl (hnews a rfl) h1 h63 hbytes (Nat.le_refl _)
      have hlt := r1.lt
      refine ⟨v', w', fun k => v'.ownBlock = some k, hr, ⟨⟨r1.1, ?_⟩, fun _ => Iff.rfl⟩, ⟨r2.os, r2.tape, r2.output, r2.size, fun k hk _ => r2.block k hk (by simp [Value.ownBlock]), fun k hk => .inr (hlt k hk).1⟩⟩
      rcases r1.2 with h | ⟨g, cap, cur, h⟩
      · exact .inl h
      · exact .inr ⟨g, cap, cur, h.1, Nat.zero_le _, h.2.2⟩
    · by_cases hroom : n + m ≤ cap
      · obtain ⟨w', hr, r1, r2⟩ := run_append_fits (P := P) w 0 t ty e i size ht hi hsize g n cap xs hrow.own a m c news hl (hnews a rfl) h1 hroom
        exact ⟨_, w', T, hr, ⟨r1, fun k => by rw [hrow.set k]; simp [Value.ownBlock]⟩, ⟨r2.os, r2.tape, r2.output, r2.size, fun k hk hT => r2.block k hk (fun e => hT ((hrow.set k).2 (by simpa [Value.ownBlock] using e.symm))), fun k hk => .inl hk⟩⟩
      · have holds : ∀ j u, xs[j]? = some u → w.cell? ((⟨g, 0, none⟩ : Addr).add j) = some u := hrow.own.cells (g := g) rfl
        obtain ⟨v', w', hr, r1, r2⟩ := run_append_arg_grows (P := P) w t ty e i z size bytes ht hi hz hsize hby hzs hsz ⟨g, 0, none⟩ n cap xs hrow.own.1 holds a m c news hl (hnews a rfl) (by omega) h63 hbytes
        have hlt := r1.lt
        refine ⟨v', w', fun k => v'.ownBlock = some k, hr, ⟨⟨r1.1, ?_⟩, fun _ => Iff.rfl⟩, ⟨r2.os, r2.tape, r2.output, r2.size, fun k hk _ => r2.block k hk (by simp), fun k hk => .inr (hlt k hk).1⟩⟩
        rcases r1.2 with h | ⟨g, cap, cur, h⟩
        · exact .inl h
        · exact .inr ⟨g, cap, cur, h.1, Nat.zero_le _, h.2.2⟩

/-- as one step of a region that draws -/
theorem step_append_row {P : Program} {ops : Array Oper} {o : Oper} {a : Act} {w : World} {K : Act → World → Prop} {Q : Exit → Act → World → Prop} {E : Prop}
    (hg : o.guard = none) (s x : Operand) (t : TypeId) (hop : o.op = Op.call { callee := Callee.builtin Builtin.append, args := #[s, x], argTypes := #[t, t] })
    (e : TypeId) (i : TypeInfo) (z : Value) (size bytes : Nat) (h1 : P.underlying t = some (.slice e)) (h2 : P.info? e = some i) (h3 : i.zero = some z) (h4 : i.size = size) (h5 : i.bytes = bytes) (h6 : z.cells.size = size) (h7 : 0 < size)
    {T : Nat → Prop} (v : Value) (n : Nat) (xs : List Value) (hs : a.eval s = v) (hrow : Row w e size T v n xs)
    (ao : Option Addr) (m c : Nat) (news : List Value) (hx : a.eval x = .slice ao m c) (hno : ao = none → m = 0 ∧ c = 0) (hn : news.length = m * size) (hc : ∀ a, ao = some a → ∀ j u, news[j]? = some u → w.cell? (a.add j) = some u) (h1c : ∀ u ∈ news, u.oneCell' = true)
    (b1 : n + m ≤ maxLen) (b2 : (n + m) * bytes ≤ 140737488355328)
    (hK : ∀ v' w' T', Row w' e size T' v' (n + m) (xs ++ news) → Step T T' w w' → K (a.put o.dst v') w') :
    if Region.wanted o (yielded ops a.tmps) = true then Oper.wp P o a w K Q else E := by
  have hw : Region.wanted o (yielded ops a.tmps) = true := by simp [Region.wanted, hg]
  rw [if_pos hw]
  obtain ⟨v', w', T', hrun, r1, r2⟩ := run_append_row (P := P) w t o.type e i z size bytes h1 h2 h3 h4 h5 h6 h7 v n xs hrow ao m c news hno hn hc h1c b1 b2
  unfold Oper.wp
  simp [execOp, hop, resolve, invoke, builtin, hs, hx, hrun, Result.andThen]
  exact hK v' w' T' r1 r2

/-- as an operation of a list -/
theorem wpList_append_row {P : Program} {w : World} {ops : Array Oper} {rest : List Oper} {o : Oper} {a : Act} {Q : Exit → Act → World → Prop} (hgd : o.guard = none) (s x : Operand) (t : TypeId)
    (ho : o.op = .call { callee := .builtin .append, args := #[s, x], argTypes := #[t, t] })
    (e : TypeId) (i : TypeInfo) (z : Value) (size bytes : Nat) (h1 : P.underlying t = some (.slice e)) (h2 : P.info? e = some i) (h3 : i.zero = some z) (h4 : i.size = size) (h5 : i.bytes = bytes) (h6 : z.cells.size = size) (h7 : 0 < size)
    {T : Nat → Prop} (v : Value) (n : Nat) (xs : List Value) (hs : a.eval s = v) (hrow : Row w e size T v n xs)
    (ao : Option Addr) (m c : Nat) (news : List Value) (hx : a.eval x = .slice ao m c) (hno : ao = none → m = 0 ∧ c = 0) (hn : news.length = m * size) (hc : ∀ a, ao = some a → ∀ j u, news[j]? = some u → w.cell? (a.add j) = some u) (h1c : ∀ u ∈ news, u.oneCell' = true)
    (b1 : n + m ≤ maxLen) (b2 : (n + m) * bytes ≤ 140737488355328)
    (h : ∀ v' w' T', Row w' e size T' v' (n + m) (xs ++ news) → Step T T' w w' → wpList P ops Q rest (a.put o.dst v') w') : wpList P ops Q (o :: rest) a w := by
  refine wpList_plain hgd fun K hK => ?_
  obtain ⟨v', w', T', hrun, r1, r2⟩ := run_append_row (P := P) w t o.type e i z size bytes h1 h2 h3 h4 h5 h6 h7 v n xs hrow ao m c news hno hn hc h1c b1 b2
  unfold Oper.wp
  simp [execOp, ho, resolve, invoke, builtin, hs, hx, hrun, Result.andThen]
  exact hK _ _ (h v' w' T' r1 r2)

theorem cell_new_byte (w : World) (c : UInt8) (t : TypeId) : ∀ a, some (⟨w.heap.size, 0, none⟩ : Addr) = some a → ∀ j u, [byteV c][j]? = some u → (w.alloc (.cells #[.int .u8 (c.toNat : Int)] t)).cell? (a.add j) = some u := by
  intro a ha j u hj
  cases ha
  match j, hj with
  | 0, hj => simp at hj; subst hj; simp [Addr.add, byteV]

/-- A slice value in the region S of memory reads as these bytes. -/
def View (w : World) (S : Nat → Prop) (ao : Option Addr) (l : List UInt8) : Prop :=
  l = [] ∨ ∃ b o, ao = some ⟨b, o, none⟩ ∧ S b ∧ b < w.heap.size ∧ ∀ j, j < l.length → w.cell? ⟨b, o + j, none⟩ = some (.int .u8 ((l.getD j 0).toNat : Int))

theorem View.step {w w' : World} {S T U : Nat → Prop} {ao : Option Addr} {l : List UInt8} (h : View w S ao l) (g : Step T U w w') (hd : Dis S T) : View w' S ao l := by
  rcases h with h | ⟨b, o, e, hS, hb, hc⟩
  · exact .inl h
  · exact .inr ⟨b, o, e, hS, Nat.lt_of_lt_of_le hb g.size, fun j hj => (World.cell?_of_block (w := w) (g.block b hb (hd b hS))).trans (hc j hj)⟩

theorem View.live {w : World} {D : Nat → Prop} {ao : Option Addr} {l : List UInt8} (h : View w D ao l) : View w (fun k => D k ∧ k < w.heap.size) ao l := by
  rcases h with h | ⟨b, o, e, hS, hb, hc⟩
  · exact .inl h
  · exact .inr ⟨b, o, e, ⟨hS, hb⟩, hb, hc⟩

theorem Dis.step {D S T : Nat → Prop} {w w' : World} (hd : Dis D S) (hs : Step S T w w') : Dis (fun k => D k ∧ k < w.heap.size) T :=
  fun k hk ht => (hs.new k ht).elim (hd k hk.1) (fun h => absurd hk.2 (by omega))

theorem Dis.symm {S T : Nat → Prop} (h : Dis S T) : Dis T S := fun k ht hs => h k hs ht

/-- two objects stay apart when one of them grows -/
theorem Dis.grow {S T U : Nat → Prop} {w w' : World} (hd : Dis S U) (hu : ∀ k, U k → k < w.heap.size) (hs : Step S T w w') : Dis T U :=
  fun k ht hk => (hs.new k ht).elim (fun h => hd k h hk) (fun h => absurd (hu k hk) (by omega))

/-- all that an object holds lies from B on -/
theorem Step.from {S T : Nat → Prop} {w w' : World} {B : Nat} (hs : Step S T w w') (h : ∀ k, S k → B ≤ k) (hB : B ≤ w.heap.size) : ∀ k, T k → B ≤ k :=
  fun k ht => (hs.new k ht).elim (h k) (fun g => Nat.le_trans hB g)

theorem Step.fresh {T : Nat → Prop} {w w' : World} {B : Nat} (hs : Step (fun _ => False) T w w') (hB : B ≤ w.heap.size) : Below B w w' ∧ (∀ k, T k → B ≤ k) ∧ (∀ k, T k → w.heap.size ≤ k) :=
  ⟨hs.below hB (fun _ h => h.elim), hs.from (fun _ h => h.elim) hB, fun k h => (hs.new k h).elim (fun h => h.elim) id⟩

theorem Row.view {w : World} {e : TypeId} {T : Nat → Prop} {ao : Option Addr} {n cap : Nat} {l : List UInt8} (h : Row w e 1 T (.slice ao n cap) n (l.map byteV)) : View w T ao l := by
  have hl : l.length = n := by simpa using h.own.1
  obtain ⟨ao', cap', hv, _, _, h0, h1⟩ := h.form
  simp only [Value.slice.injEq, true_and] at hv
  obtain ⟨rfl, rfl⟩ := hv
  cases ao with
  | none => have := (h0 rfl).1; exact .inl (List.eq_nil_of_length_eq_zero (by omega))
  | some a =>
    obtain ⟨g, rfl, hT⟩ := h1 a rfl
    refine .inr ⟨g, 0, rfl, hT, h.lt g hT, fun j hj => ?_⟩
    rw [Nat.zero_add, h.cells j (by rw [Nat.mul_one]; omega)]
    simp [byteV, hj]

end Go.Own

end
section
namespace Go.Own
open Go.RowKit

/-- an object: what is so of it, given the blocks that it holds; what others turn does not touch it -/
structure Asn where
  holds : (Nat → Prop) → World → Prop
  keep : ∀ {S T U : Nat → Prop} {w w' : World}, holds S w → Step T U w w' → Dis S T → holds S w'
  lt : ∀ {S : Nat → Prop} {w : World}, holds S w → ∀ k, S k → k < w.heap.size

/-- the objects lie apart, and hold the blocks S together -/
def Apart (w : World) : List Asn → (Nat → Prop) → Prop
  | [], S => ∀ k, ¬ S k
  | P :: Ps, S => ∃ S1 S2, P.holds S1 w ∧ Apart w Ps S2 ∧ Dis S1 S2 ∧ ∀ k, S k ↔ (S1 k ∨ S2 k)

theorem Apart.lt {w : World} : ∀ {Ps : List Asn} {S : Nat → Prop}, Apart w Ps S → ∀ k, S k → k < w.heap.size
  | [], _, h, k, hk => absurd hk (h k)
  | P :: _, _, ⟨_, _, h1, h2, _, h4⟩, k, hk => ((h4 k).1 hk).elim (P.lt h1 k) (fun h => h2.lt k h)

theorem Apart.keep {w w' : World} {T U : Nat → Prop} (g : Step T U w w') : ∀ {Ps : List Asn} {S : Nat → Prop}, Apart w Ps S → Dis S T → Apart w' Ps S
  | [], _, h, _ => h
  | P :: _, _, ⟨S1, S2, h1, h2, h3, h4⟩, hd => ⟨S1, S2, P.keep h1 g (fun k hk => hd k ((h4 k).2 (.inl hk))), h2.keep g (fun k hk => hd k ((h4 k).2 (.inr hk))), h3, h4⟩

/-- one of them is looked at, turned into something else, and put back -/
theorem Apart.at {w : World} : ∀ {Ps : List Asn} {S : Nat → Prop} (i : Nat) {P : Asn}, Apart w Ps S → Ps[i]? = some P →
    ∃ Si, P.holds Si w ∧ (∀ k, Si k → S k) ∧ (∀ (j : Nat) (R : Asn), j ≠ i → Ps[j]? = some R → ∃ Sj, R.holds Sj w ∧ Dis Sj Si) ∧
      ∀ (S' : Nat → Prop) (w' : World) (Q : Asn), Q.holds S' w' → Step Si S' w w' → ∃ S'', Apart w' (Ps.set i Q) S'' ∧ (∀ k, S'' k → S k ∨ S' k)
  | [], _, i, _, _, hi => by simp at hi
  | P :: Ps, S, 0, P', ⟨S1, S2, h1, h2, h3, h4⟩, hi => by
    obtain rfl : P = P' := by simpa using hi
    refine ⟨S1, h1, fun k hk => (h4 k).2 (.inl hk), fun j R hj hR => ?_, fun S' w' Q hQ hs => ⟨fun k => S' k ∨ S2 k, ⟨S', S2, hQ, h2.keep hs h3.symm, h3.grow h2.lt hs, fun k => Iff.rfl⟩, fun k hk => hk.elim .inr (fun h => .inl ((h4 k).2 (.inr h)))⟩⟩
    match j, hj with
    | j + 1, _ =>
      obtain ⟨Sj, g1, g2, _⟩ := h2.at j (by simpa using hR)
      exact ⟨Sj, g1, fun k hk hk' => h3 k hk' (g2 k hk)⟩
  | P :: Ps, S, i + 1, P', ⟨S1, S2, h1, h2, h3, h4⟩, hi => by
    obtain ⟨Si, g1, g2, g4, g3⟩ := h2.at i (by simpa using hi)
    refine ⟨Si, g1, fun k hk => (h4 k).2 (.inr (g2 k hk)), fun j R hj hR => ?_, fun S' w' Q hQ hs => ?_⟩
    · match j, hj with
      | 0, _ =>
        obtain rfl : P = R := by simpa using hR
        exact ⟨S1, h1, fun k hk hk' => h3 k hk (g2 k hk')⟩
      | j + 1, hj => exact g4 j R (by omega) (by simpa using hR)
    obtain ⟨S'', k1, k2⟩ := g3 S' w' Q hQ hs
    have hd : Dis S1 Si := fun k hk hk' => h3 k hk (g2 k hk')
    have hd' : Dis S1 S' := (hd.symm.grow (P.lt h1) hs).symm
    exact ⟨fun k => S1 k ∨ S'' k, ⟨S1, S'', P.keep h1 hs hd, k1, fun k hk hk' => (k2 k hk').elim (h3 k hk) (hd' k hk), fun k => Iff.rfl⟩, fun k hk => hk.elim (fun h => .inl ((h4 k).2 (.inl h))) (fun h => (k2 k h).imp (fun g => (h4 k).2 (.inr g)) id)⟩

/-- THE STATE OF A CALL: since w0 nothing below B has turned; these objects lie apart, from B on. -/
structure St (B : Nat) (w0 w : World) (Ps : List Asn) : Prop where
  below : Below B w0 w
  size : B ≤ w.heap.size
  own : ∃ S, Apart w Ps S ∧ ∀ k, S k → B ≤ k

theorem St.start (w : World) : St w.heap.size w w [] := ⟨Below.refl _ _, Nat.le_refl _, fun _ => False, fun _ h => h, fun _ h => h.elim⟩

section
variable {B : Nat} {w0 w w' : World} {Ps : List Asn}

theorem St.at (h : St B w0 w Ps) (i : Nat) {P : Asn} (hi : Ps[i]? = some P) :
    ∃ Si, P.holds Si w ∧ (∀ k, Si k → B ≤ k) ∧ ∀ (S' : Nat → Prop) (w' : World) (Q : Asn), Q.holds S' w' → Step Si S' w w' → St B w0 w' (Ps.set i Q) := by
  obtain ⟨hb, hs, S, ha, hB⟩ := h
  obtain ⟨Si, g1, g2, _, g3⟩ := ha.at i hi
  refine ⟨Si, g1, fun k hk => hB k (g2 k hk), fun S' w' Q hQ hst => ?_⟩
  obtain ⟨S'', k1, k2⟩ := g3 S' w' Q hQ hst
  exact ⟨hb.trans (hst.below hs (fun k hk => hB k (g2 k hk))), Nat.le_trans hs hst.size, S'', k1, fun k hk => (k2 k hk).elim (hB k) (fun g => (hst.new k g).elim (fun g => hB k (g2 k g)) (Nat.le_trans hs))⟩

/-- one of them has turned, and something new is there -/
theorem St.more (h : St B w0 w Ps) (i : Nat) {P : Asn} (hi : Ps[i]? = some P) :
    ∃ Si, P.holds Si w ∧ ∀ (S' T' : Nat → Prop) (w' : World) (Q R : Asn), Q.holds S' w' → R.holds T' w' → Step Si S' w w' → (∀ k, T' k → w.heap.size ≤ k) → (∀ k, S' k → k < w.heap.size) → St B w0 w' (R :: Ps.set i Q) := by
  obtain ⟨hb, hs, S, ha, hB⟩ := h
  obtain ⟨Si, g1, g2, _, g3⟩ := ha.at i hi
  refine ⟨Si, g1, fun S' T' w' Q R hQ hR hst hT hS' => ?_⟩
  obtain ⟨S'', k1, k2⟩ := g3 S' w' Q hQ hst
  refine ⟨hb.trans (hst.below hs (fun k hk => hB k (g2 k hk))), Nat.le_trans hs hst.size, fun k => T' k ∨ S'' k, ⟨T', S'', hR, k1, fun k ht hk => ?_, fun k => Iff.rfl⟩, fun k hk => ?_⟩
  · have := hT k ht
    exact (k2 k hk).elim (fun g => by have := ha.lt k g; omega) (fun g => by have := hS' k g; omega)
  · exact hk.elim (fun g => Nat.le_trans hs (hT k g)) (fun g => (k2 k g).elim (hB k) (fun g => (hst.new k g).elim (fun g => hB k (g2 k g)) (Nat.le_trans hs)))

/-- something new -/
theorem St.new (h : St B w0 w Ps) {S' : Nat → Prop} (Q : Asn) (hQ : Q.holds S' w') (hst : Step (fun _ => False) S' w w') : St B w0 w' (Q :: Ps) := by
  obtain ⟨hb, hs, S, ha, hB⟩ := h
  refine ⟨hb.trans (hst.below hs (fun _ h => h.elim)), Nat.le_trans hs hst.size, fun k => S' k ∨ S k, ⟨S', S, hQ, ha.keep hst (fun _ _ h => h), fun k h1 h2 => (hst.new k h1).elim (fun h => h) (fun h => by have := ha.lt k h2; omega), fun k => Iff.rfl⟩, fun k hk => hk.elim (fun h => (hst.new k h).elim (fun h => h.elim) (Nat.le_trans hs)) (hB k)⟩

/-- nothing that is held has turned -/
theorem St.quiet (h : St B w0 w Ps) {T : Nat → Prop} (hst : Step (fun _ => False) T w w') : St B w0 w' Ps := by
  obtain ⟨hb, hs, S, ha, hB⟩ := h
  exact ⟨hb.trans (hst.below hs (fun _ h => h.elim)), Nat.le_trans hs hst.size, S, ha.keep hst (fun _ _ h => h), hB⟩

theorem St.alloc (h : St B w0 w Ps) (o : Obj) : St B w0 (w.alloc o) Ps := h.quiet ((Step.refl (fun _ => False) w).alloc o)
theorem St.drew (h : St B w0 w Ps) : St B w0 w.drew Ps := h.quiet ((Step.refl (fun _ => False) w).drew)
theorem St.drewN (h : St B w0 w Ps) (n : Nat) : St B w0 (w.drewN n) Ps := h.quiet ((Step.refl (fun _ => False) w).drewN n)

/-- something is let go -/
theorem Apart.drop {w : World} : ∀ {Ps : List Asn} {S : Nat → Prop} (n : Nat), Apart w Ps S → ∃ S', Apart w (Ps.drop n) S' ∧ ∀ k, S' k → S k
  | Ps, S, 0, h => ⟨S, by simpa using h, fun _ h => h⟩
  | [], S, n + 1, h => ⟨S, by simpa using h, fun _ h => h⟩
  | _ :: _, _, n + 1, ⟨_, _, _, h2, _, h4⟩ => by
    obtain ⟨S', g1, g2⟩ := h2.drop n
    exact ⟨S', by simpa using g1, fun k hk => (h4 k).2 (.inr (g2 k hk))⟩
theorem St.drop (h : St B w0 w Ps) (n : Nat) : St B w0 w (Ps.drop n) := by
  obtain ⟨hb, hs, S, ha, hB⟩ := h
  obtain ⟨S', g1, g2⟩ := ha.drop n
  exact ⟨hb, hs, S', g1, fun k hk => hB k (g2 k hk)⟩

end

/-- old memory reads as it did -/
theorem View.below {w w' : World} {B : Nat} {ao : Option Addr} {l : List UInt8} (h : View w (fun k => k < B) ao l) (g : Below B w w') : View w' (fun k => k < B) ao l := by
  rcases h with h | ⟨b, o, e, hS, hb, hc⟩
  · exact .inl h
  · exact .inr ⟨b, o, e, hS, Nat.lt_of_lt_of_le hb g.size, fun j hj => (World.cell?_of_block (w := w) (g.block b hS)).trans (hc j hj)⟩

theorem View.same {w w' : World} {B : Nat} {ao : Option Addr} {l : List UInt8} (h : View w (fun k => k < B) ao l) (g : ∀ k, k < B → w'.heap[k]? = w.heap[k]?) : View w' (fun k => k < B) ao l := by
  rcases h with h | ⟨b, o, e, hS, hb, hc⟩
  · exact .inl h
  · refine .inr ⟨b, o, e, hS, ?_, fun j hj => (World.cell?_of_block (w := w) (g b hS)).trans (hc j hj)⟩
    have := g b hS
    rw [Array.getElem?_eq_getElem hb] at this
    exact (Array.getElem?_eq_some_iff.1 this).1

/-- two worlds of one call -/
theorem Below.both {B : Nat} {W w w' : World} (h : Below B W w) (g : Below B W w') : ∀ k, k < B → w'.heap[k]? = w.heap[k]? := fun k hk => (g.block k hk).trans (h.block k hk).symm

theorem View.mono {w : World} {D D' : Nat → Prop} {ao : Option Addr} {l : List UInt8} (h : View w D ao l) (hd : ∀ k, D k → D' k) : View w D' ao l := by
  rcases h with h | ⟨b, o, e, hS, hb, hc⟩
  · exact .inl h
  · exact .inr ⟨b, o, e, hd b hS, hb, hc⟩

/-- a row as an object -/
def ARow (e : TypeId) (size : Nat) (v : Value) (n : Nat) (xs : List Value) : Asn where
  holds S w := Row w e size S v n xs
  keep h g hd := h.step g hd
  lt h := h.lt

/-- a block of one's own, known whole -/
def ABlk (b : Nat) (o : Obj) : Asn where
  holds S w := w.heap[b]? = some o ∧ ∀ k, S k ↔ k = b
  keep h g hd := ⟨(g.block _ (lt_of_block h.1) (hd _ ((h.2 _).2 rfl))).trans h.1, h.2⟩
  lt h k hk := by rw [(h.2 k).1 hk]; exact lt_of_block h.1

theorem St.block {B : Nat} {w0 w : World} {Ps : List Asn} (h : St B w0 w Ps) (i : Nat) {b : Nat} {o : Obj} (hi : Ps[i]? = some (ABlk b o)) : w.heap[b]? = some o := by
  obtain ⟨S, hS, _⟩ := h.at i hi
  exact hS.1

theorem St.box {B : Nat} {w0 w : World} {Ps : List Asn} (h : St B w0 w Ps) (o : Obj) : St B w0 (w.alloc o) (ABlk w.heap.size o :: Ps) :=
  h.new (S' := fun k => k = w.heap.size) (ABlk w.heap.size o) ⟨heap_alloc_new w o, fun _ => Iff.rfl⟩ (((Step.refl (fun _ => False) w).alloc o).to (fun k hk => Or.inr (Nat.le_of_eq hk.symm)))

end Go.Own

end
section
namespace Go.Own
open Go.RowKit

theorem size_alloc' (w : World) (o : Obj) : (w.alloc o).heap.size = w.heap.size + 1 := by simp

/-- a block of one's own with these cells -/
def AVals (b : Nat) (t : TypeId) (vs : List Value) : Asn := ABlk b (.cells vs.toArray t (0, 0))

section
variable {B : Nat} {w0 w : World} {Ps : List Asn} {b : Nat} {t : TypeId} {vs : List Value}

theorem St.cellV (h : St B w0 w Ps) (i : Nat) (hi : Ps[i]? = some (AVals b t vs)) (j : Nat) {v : Value} (hj : vs[j]? = some v) : w.cell? ⟨b, j, none⟩ = some v ∧ w.frozen? ⟨b, j, none⟩ = false := by
  have hb := h.block i hi
  exact ⟨cell_of_block hb (by simpa using hj), frozen_of_block hb⟩

theorem St.storeV (h : St B w0 w Ps) (i : Nat) (hi : Ps[i]? = some (AVals b t vs)) (j : Nat) (v : Value) : St B w0 (w.setCell ⟨b, j, none⟩ v) (Ps.set i (AVals b t (vs.set j v))) := by
  obtain ⟨S, hS, _, put⟩ := h.at i hi
  refine put S _ (AVals b t (vs.set j v)) ⟨?_, hS.2⟩ ((Step.refl S w).setCell (a := ⟨b, j, none⟩) (Or.inl ((hS.2 b).2 rfl)) _)
  rw [block_setCell hS.1]
  simp

theorem St.boxV (h : St B w0 w Ps) (t : TypeId) (vs : List Value) : St B w0 (w.alloc (.cells vs.toArray t)) (AVals w.heap.size t vs :: Ps) := h.box _

/-- all its cells are written -/
theorem St.setAll (i : Nat) : ∀ (r : List Value) (o : Nat) (w : World) (Ps : List Asn) (vs : List Value), St B w0 w Ps → Ps[i]? = some (AVals b t vs) → o + r.length = vs.length → St B w0 (w.setCells b o r) (Ps.set i (AVals b t (vs.take o ++ r)))
  | [], o, w, Ps, vs, h, hi, hl => by
    have e : vs.take o ++ [] = vs := by rw [List.append_nil, List.take_of_length_le (by simp at hl; omega)]
    rw [e]
    have : Ps.set i (AVals b t vs) = Ps := by
      apply List.ext_getElem?
      intro j
      by_cases hj : j = i
      · subst hj
        have hlt : j < Ps.length := (List.getElem?_eq_some_iff.1 hi).1
        rw [List.getElem?_set_self hlt, hi]
      · rw [List.getElem?_set_ne (Ne.symm hj)]
    rw [this]
    exact h
  | v :: r, o, w, Ps, vs, h, hi, hl => by
    have hlt : i < Ps.length := (List.getElem?_eq_some_iff.1 hi).1
    have h1 := h.storeV i hi o v
    have h2 := St.setAll i r (o + 1) _ _ (vs.set o v) h1 (by rw [List.getElem?_set_self hlt]) (by simp at hl ⊢; omega)
    rw [List.set_set] at h2
    have e : (vs.set o v).take (o + 1) ++ r = vs.take o ++ v :: r := by
      have ho : o < vs.length := by simp at hl; omega
      have e0 : (vs.set o v).take o = vs.take o := by
        apply List.ext_getElem?
        intro j
        by_cases hj : j < o
        · rw [List.getElem?_take_of_lt hj, List.getElem?_take_of_lt hj, List.getElem?_set_ne (by omega)]
        · rw [List.getElem?_eq_none (by simp; omega), List.getElem?_eq_none (by simp; omega)]
      rw [List.take_succ_eq_append_getElem (by simpa using ho), e0]
      simp
    rw [e] at h2
    exact h2

/-- the block whole, as the laws on rows want it -/
theorem St.rowV (h : St B w0 w Ps) (i : Nat) (hi : Ps[i]? = some (AVals b t vs)) : w.heap[b]? = some (.cells vs.toArray t (0, 0)) := h.block i hi
theorem St.thereV (h : St B w0 w Ps) (i : Nat) (hi : Ps[i]? = some (AVals b t vs)) {n : Nat} (hn : n ≤ vs.length) : w.there b 0 n := by
  intro j hj
  obtain ⟨h1, h2⟩ := h.cellV i hi j (v := vs[j]) (by simp [show j < vs.length by omega])
  rw [Nat.zero_add]
  exact ⟨by rw [h1]; rfl, h2⟩

/-- nothing that is there has turned -/
theorem St.later {w' : World} (h : St B w0 w Ps) (hb : Below w.heap.size w w') : St B w0 w' Ps :=
  h.quiet (T := fun _ => False) ⟨hb.os, hb.tape, hb.output, hb.size, fun k hk _ => hb.block k hk, fun _ h => h.elim⟩

/-- which block it is: apart from every older one -/
theorem St.ltV (h : St B w0 w Ps) (i : Nat) (hi : Ps[i]? = some (AVals b t vs)) : B ≤ b ∧ b < w.heap.size := by
  obtain ⟨S, hS, hB, _⟩ := h.at i hi
  exact ⟨hB b ((hS.2 b).2 rfl), lt_of_block hS.1⟩
end
end Go.Own

end
section
namespace Go.Own
open Go.RowKit

def strB (l : List UInt8) : ByteArray := ⟨l.toArray⟩

theorem strB_nums (l : List UInt8) : strOfNums (l.map fun c => (c.toNat : Int)) = strB l := by
  apply ByteArray.ext
  apply Array.toList_inj.1
  show (strOfNums _).data.toList = (strB l).data.toList
  rw [strOfNums_data, List.map_map]
  show _ = l
  conv => rhs; rw [← List.map_id l]
  apply List.map_congr_left
  intro x _
  simp

theorem strB_toList (l : List UInt8) : (strB l).toList = l := by
  rw [Lib.toList_data]; rfl

theorem run_str {P : Program} {w : World} {D : Nat → Prop} {ao : Option Addr} {l : List UInt8} (src e dst : TypeId) (hs : P.underlying src = some (.slice e)) (he : P.underlying e = some (.int .u8)) (hd : P.underlying dst = some .string) (h : View w D ao l) (cap : Nat) :
    (convert src dst (.slice ao l.length cap)).run P w = .ok (.string (strB l)) w := by
  cases ao with
  | none =>
    rcases h with rfl | ⟨b, o, h, _⟩
    · exact run_convert_bytes_nil w src e hs he _ _ dst hd
    · cases h
  | some a =>
    rcases h with rfl | ⟨b, o, h, _, _, hc⟩
    · rw [run_convert_bytes_string w src dst e _ _ _ hs he hd]
      have := run_bytesToString (P := P) w a 0 cap [] (by simp [loadCells, loadCellsFrom])
      exact this
    · cases h
      have := run_convert_bytes_arg (P := P) w src e hs he b o l.length cap (l.map fun c => (c.toNat : Int)) (by simp) (fun i hi => by rw [hc i hi]; simp [List.getD, hi]) dst hd
      rw [this, strB_nums]

end Go.Own

end
section
namespace Go.Own
open Go.RowKit Go.ChangeShapes Go.WideShapes Go.Deep

/-- what is so of the cells of a value of one type, in a world, for plain data -/
abbrev InT (α : Type) := α → Nat → World → List Value → Prop

def inInt (k : IntKind) : InT Int := fun n _ _ cs => cs = [.int k n] ∧ (Lit.int k n).wf = true
/-- a slice: nil, or empty, or leading to its elements -/
def inSlice {α : Type} (size : Nat) (R : InT α) : InT (List α) := fun xs B w cs =>
  ∃ ao cap, cs = [.slice ao xs.length cap] ∧ xs.length ≤ cap ∧ cap ≤ maxLen ∧ (ao = none → cap = 0) ∧
    (xs = [] ∨ ∃ b o, ao = some ⟨b, o, none⟩ ∧ b < B ∧ b < w.heap.size ∧ ∀ i (hi : i < xs.length), ∃ cs', cs'.length = size ∧ (∀ j, j < size → w.cell? ⟨b, o + (i * size + j), none⟩ = cs'[j]?) ∧ R xs[i] B w cs')
def inBytes : InT (List UInt8) := fun l B w cs =>
  ∃ ao cap, cs = [.slice ao l.length cap] ∧ l.length ≤ cap ∧ cap ≤ maxLen ∧ (ao = none → cap = 0) ∧ View w (fun k => k < B) ao l

/-- the form's own reading of a value of type t gives it -/
def Opens {α : Type} (P : Program) (t : TypeId) (R : InT α) : Prop :=
  ∀ (H : Type) (enc : TypeId × Value → H) (w : World) (fuel : Nat) (cs : List Value) (x : DataW H × List MemPlace),
    DataW.trod enc P w 0 (fun _ => true) true fuel t cs = some x → ∃ a, R a w.heap.size w cs

theorem opens_int {P : Program} {t : TypeId} {k : IntKind} (ht : P.underlying t = some (.int k)) : Opens P t (inInt k) := by
  intro H enc w fuel cs x h
  obtain ⟨n, rfl, _, hw⟩ := DataW.trod_int ht h
  exact ⟨n, rfl, hw⟩
theorem add_of (b o j : Nat) : (⟨b, o, none⟩ : Addr).add j = ⟨b, o + j, none⟩ := by unfold Addr.add; split <;> simp_all

/-- elements, one by one, as one list -/
theorem list_of {α : Type} {n : Nat} {p : Nat → α → Prop} (h : ∀ i, i < n → ∃ x, p i x) : ∃ xs : List α, xs.length = n ∧ ∀ i (hi : i < xs.length), p i xs[i] := by
  induction n with
  | zero => exact ⟨[], rfl, fun i hi => absurd hi (Nat.not_lt_zero _)⟩
  | succ n ih =>
    obtain ⟨xs, h1, h2⟩ := ih (fun i hi => h i (by omega))
    obtain ⟨x, hx⟩ := h n (by omega)
    refine ⟨xs ++ [x], by simp [h1], fun i hi => ?_⟩
    by_cases hin : i < xs.length
    · rw [List.getElem_append_left hin]; exact h2 i hin
    · have : i = n := by simp at hi; omega
      subst this
      rw [List.getElem_append_right (by omega)]
      simpa [h1] using hx

theorem opens_slice {α : Type} {P : Program} {t e : TypeId} {R : InT α} (size : Nat) (ht : P.underlying t = some (.slice e)) (hc : P.cellsOf e = size) (hpos : 0 < size) (hR : Opens P e R) : Opens P t (inSlice size R) := by
  intro H enc w fuel cs x h
  rcases open_slice ht h with ⟨rfl, _⟩ | ⟨a, len, cap, m, n, D, Pl, rfl, _, h1, h2, hm, _, hel⟩
  · exact ⟨[], none, 0, rfl, Nat.le_refl _, by unfold maxLen; omega, fun _ => rfl, .inl rfl⟩
  · simp only [if_true] at hm
    subst hm
    rw [hc] at hel
    obtain ⟨xs, k1, k2⟩ := list_of (n := len) (p := fun i (y : α) => ∃ cs', cs'.length = size ∧ (∀ j, j < size → w.cell? ((a.add (i * size)).add j) = cs'[j]?) ∧ R y w.heap.size w cs') (fun i hi => by
      obtain ⟨cs', hcs, hd⟩ := hel i (by omega)
      obtain ⟨y, hy⟩ := hR H enc w n cs' _ hd
      obtain ⟨_, g1, g2⟩ := World.cells?_some hcs
      exact ⟨y, cs', g1, g2, hy⟩)
    subst k1
    refine ⟨xs, some a, m, rfl, h1, h2, fun h => by (cases h), ?_⟩
    rcases Nat.eq_zero_or_pos xs.length with hz | hz
    · exact .inl (List.eq_nil_of_length_eq_zero hz)
    · right
      obtain ⟨b, o, sp⟩ := a
      obtain ⟨cs', g1, g2, _⟩ := k2 0 hz
      have g3 := g2 0 hpos
      have e0 : ((⟨b, o, sp⟩ : Addr).add (0 * size)).add 0 = ⟨b, o, sp⟩ := by simp [Addr.add]
      rw [e0] at g3
      obtain ⟨u, hu⟩ : ∃ u, cs'[0]? = some u := ⟨cs'[0]'(by omega), by simp [show 0 < cs'.length by omega]⟩
      rw [hu] at g3
      have hsp : sp = none := by
        cases sp with
        | none => rfl
        | some s =>
          unfold World.cell? at g3
          split at g3 <;> simp at g3
      subst hsp
      have hlt := World.block_lt_of_cell? w _ g3
      refine ⟨b, o, rfl, hlt, hlt, fun i hi => ?_⟩
      obtain ⟨cs'', f1, f2, f3⟩ := k2 i hi
      exact ⟨cs'', f1, fun j hj => by rw [← f2 j hj, add_of, add_of, Nat.add_assoc], f3⟩

theorem opens_bytes {P : Program} {t e : TypeId} (ht : P.underlying t = some (.slice e)) (he : P.underlying e = some (.int .u8)) (hc : P.cellsOf e = 1) : Opens P t inBytes := by
  intro H enc w fuel cs x h
  obtain ⟨zs, ao, cap, h1, h2, h3, h4, h5⟩ := opens_slice 1 ht hc (by decide) (opens_int he) H enc w fuel cs x h
  refine ⟨zs.map fun z => UInt8.ofNat z.toNat, ao, cap, by simpa using h1, by simpa using h2, h3, h4, ?_⟩
  rcases h5 with rfl | ⟨b, o, e, hb, hs, hcell⟩
  · exact .inl rfl
  · refine .inr ⟨b, o, e, hb, hs, fun j hj => ?_⟩
    rw [List.length_map] at hj
    obtain ⟨cs', g1, g2, g3, g4⟩ := hcell j hj
    subst g3
    have := g2 0 (by decide)
    rw [Nat.mul_one, Nat.add_zero] at this
    rw [this]
    have hw : 0 ≤ zs[j] ∧ zs[j] ≤ 255 := by simpa [Lit.wf, IntKind.min, IntKind.max, IntKind.signed, IntKind.bits] using g4
    have e2 : ((zs.map fun z => UInt8.ofNat z.toNat).getD j 0) = UInt8.ofNat zs[j].toNat := by simp [List.getD, hj]
    rw [e2]
    simp
    omega

/-- the fields of a struct, one behind the other -/
theorem opens_fields {P : Program} {t : TypeId} {fs : Array Field} {H : Type} {enc : TypeId × Value → H} {w : World} {fuel : Nat} {cs : List Value} {x : DataW H × List MemPlace} (ht : P.underlying t = some (.struct fs))
    (h : DataW.trod enc P w 0 (fun _ => true) true fuel t cs = some x) :
    cs.length = P.cellsOf t ∧ ∀ (i : Nat) (f : Field), fs[i]? = some f → ∃ n y, DataW.trod enc P w 0 (fun _ => true) true n f.type ((cs.drop f.offset).take (P.cellsOf f.type)) = some y := by
  obtain ⟨xs, n, _, _, hl, hlen, hf⟩ := DataW.trod_struct ht h
  refine ⟨hl, fun i f hi => ?_⟩
  have := hf i f hi
  have hlt : i < xs.length := by rw [hlen]; exact (Array.getElem?_eq_some_iff.1 hi).1
  rw [List.getElem?_eq_getElem hlt] at this
  exact ⟨n, _, this⟩

/-- an array of numbers, by value -/
def inInts (k : IntKind) (n : Nat) : InT (List Int) := fun l _ _ cs => cs = l.map (Value.int k) ∧ l.length = n ∧ ∀ i (h : i < l.length), (Lit.int k l[i]).wf = true
theorem opens_ints {P : Program} {t e : TypeId} {k : IntKind} {n : Nat} (ht : P.underlying t = some (.array n e)) (he : P.underlying e = some (.int k)) (hce : P.cellsOf e = 1) (hct : P.cellsOf t = n) : Opens P t (inInts k n) := by
  intro H enc w fuel cs x h
  obtain ⟨xs, m, _, _, hl, hlen, hf⟩ := DataW.trod_array ht h
  rw [hct] at hl
  rw [hce] at hf
  obtain ⟨zs, h1, h2⟩ := list_of (n := n) (p := fun i (z : Int) => cs[i]? = some (.int k z) ∧ (Lit.int k z).wf = true) (fun i hi => by
    have h3 := hf i hi
    rw [List.getElem?_eq_getElem (show i < xs.length by omega)] at h3
    obtain ⟨z, hz, _, hw⟩ := DataW.trod_int he h3
    refine ⟨z, ?_, hw⟩
    have hi' : i < cs.length := by omega
    rw [Nat.mul_one, List.drop_eq_getElem_cons hi'] at hz
    rw [List.getElem?_eq_getElem hi']
    rw [List.take_succ_cons] at hz
    exact congrArg some (List.cons.inj hz).1)
  refine ⟨zs, ?_, h1, fun i hi => (h2 i hi).2⟩
  apply List.ext_getElem?
  intro i
  by_cases hi : i < n
  · rw [(h2 i (by omega)).1]
    simp [show i < zs.length by omega]
  · rw [List.getElem?_eq_none (by omega), List.getElem?_eq_none (by simp; omega)]

/-- an array of bytes, by value -/
def inBytesA (n : Nat) : InT (List UInt8) := fun l _ _ cs => cs = l.map byteV ∧ l.length = n
theorem opens_bytesA {P : Program} {t e : TypeId} {n : Nat} (ht : P.underlying t = some (.array n e)) (he : P.underlying e = some (.int .u8)) (hce : P.cellsOf e = 1) (hct : P.cellsOf t = n) : Opens P t (inBytesA n) := by
  intro H enc w fuel cs x h
  obtain ⟨zs, h1, h2, h3⟩ := opens_ints ht he hce hct H enc w fuel cs x h
  refine ⟨zs.map fun z => UInt8.ofNat z.toNat, ?_, by simpa using h2⟩
  rw [h1, List.map_map]
  apply List.ext_getElem?
  intro i
  by_cases hi : i < zs.length
  · have hw : 0 ≤ zs[i] ∧ zs[i] ≤ 255 := by simpa [Lit.wf, IntKind.min, IntKind.max, IntKind.signed, IntKind.bits] using h3 i hi
    simp [hi, byteV]
    omega
  · simp [hi]

end Go.Own

end
section
namespace Go.Proofs.Ytmdphcebmgcdbaa
open Go.RowKit Go.Own
namespace Byt

theorem infoU8 : (Try.prog.info? 5).map (fun i => (i.zero, i.size, i.bytes)) = some (some (.int .u8 0), 1, 1) := by kernel_rfl

theorem vat {w : World} {D : Nat → Prop} {ao : Option Addr} {l : List UInt8} (hV : View w D ao l) {k : Nat} (hk : k < l.length) :
    ∃ b o, ao = some ⟨b, o, none⟩ ∧ D b ∧ b < w.heap.size ∧ w.cell? ⟨b, o + k, none⟩ = some (.int .u8 ((l.getD k 0).toNat : Int)) := by
  rcases hV with h | ⟨b, o, e, h1, h2, h3⟩
  · rw [h] at hk; simp at hk
  · exact ⟨b, o, e, h1, h2, h3 k hk⟩
theorem vcells {w : World} {D : Nat → Prop} {ao : Option Addr} {bs : List UInt8} (h : View w D ao bs) : ∀ a, ao = some a → ∀ j u, (bs.map byteV)[j]? = some u → w.cell? (a.add j) = some u := by
  intro a ha j u hu
  have hj := (List.getElem?_eq_some_iff.1 hu).1
  rw [List.length_map] at hj
  rcases h with rfl | ⟨b, o, hab, _, _, hc⟩
  · simp at hj
  · rw [ha] at hab
    cases hab
    have e : (⟨b, o, none⟩ : Addr).add j = ⟨b, o + j, none⟩ := by unfold Addr.add; split <;> simp_all
    rw [e, hc j hj]
    rw [← hu]
    simp [byteV, hj]
/-- new memory does not touch what is read -/
theorem vlater {w w' : World} {D : Nat → Prop} {ao : Option Addr} {l : List UInt8} (h : View w D ao l) (g : Below w.heap.size w w') : View w' D ao l := by
  rcases h with h | ⟨b, o, e, hS, hb, hc⟩
  · exact .inl h
  · exact .inr ⟨b, o, e, hS, Nat.lt_of_lt_of_le hb g.size, fun j hj => (World.cell?_of_block (w := w) (g.block b hb)).trans (hc j hj)⟩

/-- a slice of bytes of one's own -/
def AB (ao : Option Addr) (n cap : Nat) (l : List UInt8) : Asn := ARow 5 1 (.slice ao n cap) n (l.map byteV)
theorem AB.view {w : World} {S : Nat → Prop} {ao : Option Addr} {n cap : Nat} {l : List UInt8} (h : (AB ao n cap l).holds S w) : View w S ao l := Row.view h
theorem AB.len {w : World} {S : Nat → Prop} {ao : Option Addr} {n cap : Nat} {l : List UInt8} (h : (AB ao n cap l).holds S w) : l.length = n ∧ n ≤ cap ∧ cap ≤ maxLen ∧ (ao = none → n = 0 ∧ cap = 0) := by
  obtain ⟨ao', cap', hv, h1, h2, h3, _⟩ := Row.form h
  simp only [Value.slice.injEq, true_and] at hv
  obtain ⟨rfl, rfl⟩ := hv
  exact ⟨by have := h.own.1; simpa using this, h1, h2, fun e => ⟨(h3 e).1, (h3 e).2.1⟩⟩
section
variable {B : Nat} {w0 w : World} {Ps : List Asn} {ao : Option Addr} {n cap : Nat} {l : List UInt8}
theorem ab_len (H : St B w0 w Ps) (i : Nat) (hi : Ps[i]? = some (AB ao n cap l)) : l.length = n ∧ n ≤ cap ∧ cap ≤ maxLen ∧ (ao = none → n = 0 ∧ cap = 0) := by
  obtain ⟨S, hS, _⟩ := H.at i hi
  exact AB.len hS
theorem ab_view (H : St B w0 w Ps) (i : Nat) (hi : Ps[i]? = some (AB ao n cap l)) : View w (fun k => B ≤ k) ao l := by
  obtain ⟨S, hS, hB, _⟩ := H.at i hi
  exact (AB.view hS).mono hB
/-- the nil slice, as one of one's own -/
theorem ab_nil (H : St B w0 w Ps) : St B w0 w (AB none 0 0 [] :: Ps) :=
  H.new (S' := fun _ => False) (AB none 0 0 []) (Row.nil _ _ _) ((Step.refl (fun _ => False) w))
theorem ab_str (H : St B w0 w Ps) (i : Nat) (hi : Ps[i]? = some (AB ao n cap l)) :
    (convert 56 9 (.slice ao n cap)).run Try.prog w = .ok (.string (strB l)) w := by
  obtain ⟨S, hS, _⟩ := H.at i hi
  obtain ⟨rfl, _⟩ := AB.len hS
  exact run_str (P := Try.prog) 56 5 9 Try.underlying56 Try.underlying5 Try.underlying9 (AB.view hS) cap
/-- one byte of a slice of one's own -/
theorem ab_byte (H : St B w0 w Ps) (i : Nat) (hi : Ps[i]? = some (AB ao n cap l)) (j : Nat) (hj : j < n) :
    ∃ g, ao = some ⟨g, 0, none⟩ ∧ w.cell? ⟨g, j, none⟩ = some (.int .u8 ((l.getD j 0).toNat : Int)) ∧ w.frozen? ⟨g, j, none⟩ = false ∧
      ∀ c : UInt8, St B w0 (w.setCell ⟨g, j, none⟩ (.int .u8 (c.toNat : Int))) (Ps.set i (AB ao n cap (l.set j c))) := by
  obtain ⟨S, hS, _, put⟩ := H.at i hi
  have hlen := (AB.len hS).1
  obtain ⟨hown, hset⟩ := hS
  rcases hown.2 with ⟨hv, rfl⟩ | ⟨g, cap', cur, hv, h0, hb, hnc, hcm, hcs, htake⟩
  · omega
  · simp only [Value.slice.injEq, true_and] at hv
    obtain ⟨rfl, rfl⟩ := hv
    simp only [Nat.mul_one] at hcs htake
    have hcur : cur[j]? = some (byteV (l.getD j 0)) := by
      have : (cur.toList.take n)[j]? = (l.map byteV)[j]? := by rw [htake]
      rw [List.getElem?_take_of_lt hj] at this
      rw [← Array.getElem?_toList, this]
      simp [hlen, hj]
    refine ⟨g, rfl, cell_of_block hb hcur, frozen_of_block hb, fun c => ?_⟩
    refine put S _ (AB (some ⟨g, 0, none⟩) n cap (l.set j c)) ?_ ((Step.refl S w).setCell (a := ⟨g, j, none⟩) (Or.inl ((hset g).2 rfl)) _)
    have := (hown.stored j (byteV c)).1
    rw [← List.map_set] at this
    exact ⟨this, hset⟩
theorem madeBytes (n : Nat) : (madeCells (Value.int .u8 0).cells (n * 1)).toList = (List.replicate n (0 : UInt8)).map byteV := by
  unfold madeCells
  apply List.ext_getElem?
  intro i
  by_cases hi : i < n
  · simp [hi, Value.cells, byteV, Nat.mod_one]
  · simp [hi]
/-- make([]byte, n) -/
theorem ab_make (H : St B w0 w Ps) (kl kc : IntKind) (n : Nat) (hn : n ≤ 1000000000) :
    ∃ w', (Instr.makeSlice 56 (.int kl (n : Int)) (.int kc (n : Int))).run Try.prog w = .ok (.slice (some ⟨w.heap.size, 0, none⟩) n n) w' ∧ St B w0 w' (AB (some ⟨w.heap.size, 0, none⟩) n n (List.replicate n 0) :: Ps) := by
  obtain ⟨i0, hi, hz0, hz1, hz2⟩ := info_parts infoU8
  obtain ⟨w', hr, hown, hg⟩ := run_make_full (P := Try.prog) w 0 56 5 i0 (.int .u8 0) 1 Try.underlying56 hi hz0 hz1 kl kc n (by rw [hz2]; omega) (by unfold maxLen; omega) (Nat.zero_le _)
  rw [madeBytes] at hown
  refine ⟨w', hr, H.new (S' := fun k => k = w.heap.size) (AB _ n n _) ⟨hown, fun k => by simp [Value.ownBlock, eq_comm]⟩ ?_⟩
  exact ((Step.refl (fun _ => False) w).grown hg (by intro k hk; cases hk)).to (fun k hk => .inr (Nat.le_of_eq hk.symm))
/-- append(x, news...) onto a slice of one's own -/
theorem ab_append (H : St B w0 w Ps) (i : Nat) (hi : Ps[i]? = some (AB ao n cap l)) (ty : TypeId) (bo : Option Addr) (m c : Nat) (news : List UInt8) (hno : bo = none → m = 0 ∧ c = 0) (hl : news.length = m)
    (hc : ∀ a, bo = some a → ∀ j u, (news.map byteV)[j]? = some u → w.cell? (a.add j) = some u) (b1 : n + m ≤ 1000000000) :
    ∃ ao' cap' w', (Builtin.append_ #[56, 56] ty #[.slice ao n cap, .slice bo m c]).run Try.prog w = .ok (.slice ao' (n + m) cap') w' ∧ St B w0 w' (Ps.set i (AB ao' (n + m) cap' (l ++ news))) := by
  obtain ⟨i0, hi0, hz0, hz1, hz2⟩ := info_parts infoU8
  obtain ⟨S, hS, _, put⟩ := H.at i hi
  obtain ⟨v', w', T', hr, hrow, hst⟩ := run_append_row (P := Try.prog) w 56 ty 5 i0 (.int .u8 0) 1 1 Try.underlying56 hi0 hz0 hz1 hz2 rfl (by decide) (.slice ao n cap) n (l.map byteV) hS bo m c (news.map byteV) hno (by rw [List.length_map, hl, Nat.mul_one]) hc (byteV_one _) (by unfold maxLen; omega) (by omega)
  obtain ⟨ao', cap', rfl, _⟩ := hrow.form
  rw [← List.map_append] at hrow
  exact ⟨ao', cap', w', hr, put T' w' (AB ao' (n + m) cap' (l ++ news)) hrow hst⟩
theorem wpList_ab_append {ops : Array Oper} {rest : List Oper} {o : Oper} {a : Act} {Q : Exit → Act → World → Prop} (hgd : o.guard = none) (s x : Operand)
    (ho : o.op = .call { callee := .builtin .append, args := #[s, x], argTypes := #[56, 56] }) (H : St B w0 w Ps) (i : Nat) (hi : Ps[i]? = some (AB ao n cap l)) (hs : a.eval s = .slice ao n cap)
    (bo : Option Addr) (m c : Nat) (news : List UInt8) (hx : a.eval x = .slice bo m c) (hno : bo = none → m = 0 ∧ c = 0) (hl : news.length = m)
    (hc : ∀ a, bo = some a → ∀ j u, (news.map byteV)[j]? = some u → w.cell? (a.add j) = some u) (b1 : n + m ≤ 1000000000)
    (h : ∀ ao' cap' w', St B w0 w' (Ps.set i (AB ao' (n + m) cap' (l ++ news))) → wpList Try.prog ops Q rest (a.put o.dst (.slice ao' (n + m) cap')) w') : wpList Try.prog ops Q (o :: rest) a w := by
  refine wpList_plain hgd fun K hK => ?_
  obtain ⟨ao', cap', w', hrun, h1⟩ := ab_append H i hi o.type bo m c news hno hl hc b1
  unfold Oper.wp
  simp [execOp, ho, resolve, invoke, builtin, hs, hx, hrun, Result.andThen]
  exact hK _ _ (h ao' cap' w' h1)
end

/-- an array of bytes in a block of one's own -/
def A8 (b : Nat) (t : TypeId) (l : List UInt8) : Asn := AVals b t (l.map byteV)
section
variable {B : Nat} {w0 w : World} {Ps : List Asn} {b : Nat} {t : TypeId} {l : List UInt8}
theorem A8.cell (h : St B w0 w Ps) (i : Nat) (hi : Ps[i]? = some (A8 b t l)) (j : Nat) (hj : j < l.length) : w.cell? ⟨b, j, none⟩ = some (.int .u8 ((l.getD j 0).toNat : Int)) ∧ w.frozen? ⟨b, j, none⟩ = false :=
  h.cellV i hi j (by simp [byteV, hj])
theorem A8.store (h : St B w0 w Ps) (i : Nat) (hi : Ps[i]? = some (A8 b t l)) (j : Nat) (c : UInt8) : St B w0 (w.setCell ⟨b, j, none⟩ (.int .u8 (c.toNat : Int))) (Ps.set i (A8 b t (l.set j c))) := by
  have := h.storeV i hi j (byteV c)
  unfold A8
  rw [List.map_set]
  exact this
theorem A8.box (h : St B w0 w Ps) (t : TypeId) (l : List UInt8) : St B w0 (w.alloc (.cells (l.map byteV).toArray t)) (A8 w.heap.size t l :: Ps) := h.boxV t _
theorem A8.row (h : St B w0 w Ps) (i : Nat) (hi : Ps[i]? = some (A8 b t l)) : w.heap[b]? = some (.cells (l.map byteV).toArray t (0, 0)) := h.rowV i hi
theorem A8.there (h : St B w0 w Ps) (i : Nat) (hi : Ps[i]? = some (A8 b t l)) (r : List UInt8) (hl : r.length = l.length) : w.there b 0 (r.map byteV).toArray.size := h.thereV i hi (by simp [hl])
theorem A8.setAll (h : St B w0 w Ps) (i : Nat) (hi : Ps[i]? = some (A8 b t l)) (r : List UInt8) (hl : r.length = l.length) : St B w0 (w.setCells b 0 (r.map byteV).toArray.toList) (Ps.set i (A8 b t r)) := by
  have := Own.St.setAll i (r.map byteV) 0 w Ps (l.map byteV) h hi (by simp [hl])
  simpa [A8] using this
theorem A8.view (h : St B w0 w Ps) (i : Nat) (hi : Ps[i]? = some (A8 b t l)) : View w (fun k => B ≤ k) (some ⟨b, 0, none⟩) l := by
  obtain ⟨h1, h2⟩ := h.ltV i hi
  exact .inr ⟨b, 0, rfl, h1, h2, fun j hj => by rw [Nat.zero_add]; exact (A8.cell h i hi j hj).1⟩
end
theorem one8 (l : List UInt8) : (l.map byteV).toArray.all (·.oneCell') = true := all_oneCell_toArray (fun v hv => byteV_one l v hv)
/-- an operation that is carried out, also behind a guard -/
theorem wpList_want {P : Program} {ops : Array Oper} {rest : List Oper} {o : Oper} {a : Act} {w : World} {Q : Exit → Act → World → Prop} (hw : Region.wanted o (yielded ops a.tmps) = true) (h : o.wp P a w (fun a' w' => wpList P ops Q rest a' w') Q) : wpList P ops Q (o :: rest) a w := by
  unfold wpList
  rw [if_pos hw]
  exact .inl h
/-- string(b) -/
theorem wpList_str8 {ops : Array Oper} {rest : List Oper} {o : Oper} {a : Act} {w : World} {Q : Exit → Act → World → Prop} (hw : Region.wanted o (yielded ops a.tmps) = true) (x : Operand) (ho : o.op = .convert 56 9 x) (ao : Option Addr) (n cap : Nat) (hx : a.eval x = .slice ao n cap)
    (D : Nat → Prop) (l : List UInt8) (hV : View w D ao l) (hn : l.length = n) (h : wpList Try.prog ops Q rest (a.put o.dst (.string (strB l))) w) : wpList Try.prog ops Q (o :: rest) a w := by
  refine wpList_want hw ?_
  subst hn
  have hc := run_str (P := Try.prog) 56 5 9 Try.underlying56 Try.underlying5 Try.underlying9 hV cap
  unfold Oper.wp execOp
  simp only [ho, hx, Sem.run_bind, hc, Result.andThen_ok, Sem.run_pure]
  exact h
theorem vtake {w : World} {D : Nat → Prop} {ao : Option Addr} {l : List UInt8} (h : View w D ao l) (k : Nat) : View w D ao (l.take k) := by
  rcases h with rfl | ⟨b, o, e, hS, hb, hc⟩
  · exact .inl (by simp)
  · refine .inr ⟨b, o, e, hS, hb, fun j hj => ?_⟩
    have hj2 : j < l.length ∧ j < k := by rw [List.length_take] at hj; omega
    rw [hc j hj2.1]
    simp [List.getD, hj2.2]
/-- b[k:] begins k cells on -/
theorem vdrop {w : World} {D : Nat → Prop} {b o : Nat} {l : List UInt8} (h : View w D (some ⟨b, o, none⟩) l) (k : Nat) : View w D (some ⟨b, o + k, none⟩) (l.drop k) := by
  rcases h with rfl | ⟨b', o', e, hS, hb, hc⟩
  · exact .inl (by simp)
  · cases e
    refine .inr ⟨b, o + k, rfl, hS, hb, fun j hj => ?_⟩
    rw [List.length_drop] at hj
    rw [Nat.add_assoc, hc (k + j) (by omega)]
    simp [List.getD, List.getElem?_drop]

/-- an operation whose value is known -/
theorem wpList_val {P : Program} {ops : Array Oper} {rest : List Oper} {o : Oper} {a : Act} {w : World} {Q : Exit → Act → World → Prop} (hw : Region.wanted o (yielded ops a.tmps) = true) {v : Value} (hrun : (execOp a.eval o).run P w = .ok (.value v) w) (h : wpList P ops Q rest (a.put o.dst v) w) : wpList P ops Q (o :: rest) a w := by
  refine wpList_want hw ?_
  unfold Oper.wp
  rw [hrun]
  exact h
/-- what a part of bytes is, whatever memory they lie in -/
structure Cut (ao : Option Addr) (l : List UInt8) (a' : Option Addr) (l' : List UInt8) (m' c' : Nat) : Prop where
  view : ∀ w D, View w D ao l → View w D a' l'
  len : l'.length = m'
  cap : m' ≤ c' ∧ c' ≤ maxLen
  none : a' = none → c' = 0
section
variable {ao : Option Addr} {l : List UInt8} {m cap : Nat}
theorem cutTo (k : Nat) (hl : l.length = m) (hk : k ≤ m) (hm : m ≤ cap) (hc : cap ≤ maxLen) (hno : ao = none → cap = 0) :
    (∀ (o : Oper) (x y : Operand), o.op = .slice 56 x none (some y) none → ∀ (ρ : Operand → Value) w, ρ x = .slice ao m cap → ρ y = .int .i64 (k : Int) → (execOp ρ o).run Try.prog w = .ok (.value (.slice ao k cap)) w) ∧ Cut ao l ao (l.take k) k cap := by
  refine ⟨fun o x y ho ρ w h0 h1 => ?_, fun w D h => vtake h k, by rw [List.length_take]; omega, ⟨by omega, hc⟩, hno⟩
  unfold maxLen at hc
  cases ao with
  | none =>
    obtain rfl := hno rfl
    obtain rfl : m = 0 := by omega
    obtain rfl : k = 0 := by omega
    simp [execOp, ho, h0, h1, go_sem]
  | some a =>
    simp [execOp, ho, h0, h1, go_sem]
    omega
theorem cutFrom (k : Nat) (hl : l.length = m) (hk : k ≤ m) (hm : m ≤ cap) (hc : cap ≤ maxLen) (hno : ao = none → cap = 0) :
    ∃ a' c', (∀ (o : Oper) (x y : Operand), o.op = .slice 56 x (some y) none none → ∀ (ρ : Operand → Value) w, ρ x = .slice ao m cap → ρ y = .int .i64 (k : Int) → (execOp ρ o).run Try.prog w = .ok (.value (.slice a' (m - k) c')) w) ∧ Cut ao l a' (l.drop k) (m - k) c' := by
  have hc0 := hc
  unfold maxLen at hc
  cases ao with
  | none =>
    obtain rfl := hno rfl
    obtain rfl : m = 0 := by omega
    obtain rfl : k = 0 := by omega
    exact ⟨none, 0, fun o x y ho ρ w h0 h1 => by simp [execOp, ho, h0, h1, go_sem], fun w D h => by simpa using h, by simp [hl], ⟨Nat.le_refl _, Nat.zero_le _⟩, fun _ => rfl⟩
  | some a =>
    by_cases hck : cap = k
    · refine ⟨some a, 0, fun o x y ho ρ w h0 h1 => ?_, fun w D h => .inl (List.drop_eq_nil_of_le (by omega)), by rw [List.length_drop, hl], ⟨by omega, Nat.zero_le _⟩, fun h => by cases h⟩
      simp [execOp, ho, h0, h1, go_sem]
      rw [if_pos hk, if_pos hck, hck]; simp
    · refine ⟨some (a.add k), cap - k, fun o x y ho ρ w h0 h1 => ?_, fun w D h => ?_, by rw [List.length_drop, hl], ⟨by omega, by omega⟩, fun h => by cases h⟩
      · simp [execOp, ho, h0, h1, go_sem]
        rw [if_pos hk, if_neg hck]
      · rcases h with h | ⟨b, o, e, h1, h2, h3⟩
        · exact .inl (by rw [h, List.drop_nil])
        · obtain rfl : a = ⟨b, o, none⟩ := by simpa using e
          rw [add_of]
          exact vdrop (.inr ⟨b, o, rfl, h1, h2, h3⟩) k
end

/-- the length of a slice -/
def lenV : Value → Nat
  | .slice _ n _ => n
  | _ => 0

end Byt
end Go.Proofs.Ytmdphcebmgcdbaa

end
section
namespace Go.Proofs.Ytmdphcebmgcdbaa
open Go.RowKit Go.Own
namespace Byt

/-- bytes that a call may be given -/
structure Given (w : World) (ao : Option Addr) (len cap : Nat) (l : List UInt8) : Prop where
  view : View w (fun k => k < w.heap.size) ao l
  size : l.length = len
  room : len ≤ cap ∧ cap ≤ maxLen
  nil : ao = none → cap = 0
theorem Given.later {w w' : World} {ao : Option Addr} {len cap : Nat} {l : List UInt8} (h : Given w ao len cap l) (g : Below w.heap.size w w') : Given w' ao len cap l :=
  ⟨(View.below h.view g).mono (fun k hk => by have := g.size; omega), h.size, h.room, h.nil⟩

theorem i64_in {a : Int} (h : (Lit.int .i64 a).wf = true) : -9223372036854775808 ≤ a ∧ a ≤ 9223372036854775807 := by
  simp [Lit.wf, IntKind.min, IntKind.max, IntKind.signed, IntKind.bits] at h
  omega

/-- the first k bytes are laid -/
def ones (c : UInt8) (N k : Nat) : List UInt8 := List.replicate k c ++ List.replicate (N - k) 0
theorem ones_zero (c : UInt8) (N : Nat) : ones c N 0 = List.replicate N 0 := by simp [ones]
theorem ones_all (c : UInt8) (N : Nat) : ones c N N = List.replicate N c := by simp [ones]
theorem ones_set (c : UInt8) (N k : Nat) (h : k < N) : (ones c N k).set k c = ones c N (k + 1) := by
  unfold ones
  obtain ⟨r, hr⟩ : ∃ r, N - k = r + 1 := ⟨N - k - 1, by omega⟩
  rw [hr, show N - (k + 1) = r by omega, List.replicate_succ, List.replicate_succ']
  simp
theorem u8_byte {a : Int} (h : (Lit.int .u8 a).wf = true) : ∃ c : UInt8, a = (c.toNat : Int) := by
  have h' : 0 ≤ a ∧ a ≤ 255 := by simpa [Lit.wf, IntKind.min, IntKind.max, IntKind.signed, IntKind.bits] using h
  exact ⟨UInt8.ofNat a.toNat, by simp; omega⟩
/-- bytes of one's own may be given -/
theorem given_own {B : Nat} {w0 w : World} {Ps : List Asn} {ao : Option Addr} {n cap : Nat} {l : List UInt8} (H : St B w0 w Ps) (i : Nat) (hi : Ps[i]? = some (AB ao n cap l)) : Given w ao n cap l := by
  obtain ⟨h1, h2, h3, h4⟩ := ab_len H i hi
  exact ⟨(ab_view H i hi).live.mono (fun k hk => hk.2), h1, ⟨h2, h3⟩, fun h => (h4 h).2⟩

theorem given_nil {w : World} {ao : Option Addr} {n cap : Nat} {l : List UInt8} (h : Given w ao n cap l) : ao = none → n = 0 ∧ cap = 0 := fun e => ⟨by have := h.room.1; rw [h.nil e] at this; omega, h.nil e⟩
theorem vcell {w : World} {D : Nat → Prop} {b o : Nat} {l : List UInt8} (h : View w D (some ⟨b, o, none⟩) l) {k : Nat} (hk : k < l.length) : w.cell? ⟨b, o + k, none⟩ = some (.int .u8 ((l.getD k 0).toNat : Int)) := by
  obtain ⟨b', o', e, _, _, hc⟩ := vat h hk
  cases e
  exact hc

theorem in_given {l : List UInt8} {w : World} {ao : Option Addr} {n cap : Nat} (h : inBytes l w.heap.size w [.slice ao n cap]) : Given w ao n cap l := by
  obtain ⟨ao', cap', h1, h2, h3, h4, h5⟩ := h
  simp only [List.cons.injEq, Value.slice.injEq, and_true] at h1
  obtain ⟨rfl, rfl, rfl⟩ := h1
  exact ⟨h5, rfl, ⟨h2, h3⟩, h4⟩
theorem given_take {w : World} {ao : Option Addr} {n cap : Nat} {l : List UInt8} (h : Given w ao n cap l) (m : Nat) (hm : m ≤ n) : Given w ao m cap (l.take m) :=
  ⟨vtake h.view m, by rw [List.length_take, h.size]; omega, ⟨Nat.le_trans hm h.room.1, h.room.2⟩, h.nil⟩
theorem cellLater {W w : World} {a : Addr} {v : Value} (h : W.cell? a = some v) (hb : Below W.heap.size W w) : w.cell? a = some v := by
  rw [hb.cell (World.block_lt_of_cell? W a h)]; exact h

end Byt
end Go.Proofs.Ytmdphcebmgcdbaa

end
section
namespace Go.Own
open Go.RowKit

theorem Apart.iff {w : World} : ∀ {Ps : List Asn} {S T : Nat → Prop}, Apart w Ps S → (∀ k, S k ↔ T k) → Apart w Ps T
  | [], _, _, h, e => fun k hk => h k ((e k).2 hk)
  | _ :: _, _, _, ⟨S1, S2, h1, h2, h3, h4⟩, e => ⟨S1, S2, h1, h2, h3, fun k => (e k).symm.trans (h4 k)⟩
theorem Apart.append {w : World} : ∀ {Ps Qs : List Asn} {S T : Nat → Prop}, Apart w Ps S → Apart w Qs T → Dis S T → Apart w (Ps ++ Qs) (fun k => S k ∨ T k)
  | [], Qs, S, T, h, g, _ => g.iff fun k => ⟨.inr, fun x => x.elim (fun y => (h k y).elim) id⟩
  | P :: Ps, Qs, S, T, ⟨S1, S2, h1, h2, h3, h4⟩, g, hd => ⟨S1, fun k => S2 k ∨ T k, h1, Apart.append h2 g (fun k hk => hd k ((h4 k).2 (.inr hk))), fun k hk hk' => hk'.elim (h3 k hk) (hd k ((h4 k).2 (.inl hk))), fun k => by show (S k ∨ T k) ↔ (S1 k ∨ S2 k ∨ T k); rw [h4 k, or_assoc]⟩
theorem Apart.split {w : World} : ∀ {Ps Qs : List Asn} {S : Nat → Prop}, Apart w (Ps ++ Qs) S → ∃ S1 S2, Apart w Ps S1 ∧ Apart w Qs S2 ∧ Dis S1 S2 ∧ ∀ k, S k ↔ (S1 k ∨ S2 k)
  | [], Qs, S, h => ⟨fun _ => False, S, fun _ h => h, h, fun _ h => h.elim, fun k => ⟨.inr, fun x => x.elim (fun y => y.elim) id⟩⟩
  | P :: Ps, Qs, S, ⟨S1, S2, h1, h2, h3, h4⟩ => by
    obtain ⟨T1, T2, g1, g2, g3, g4⟩ := Apart.split h2
    exact ⟨fun k => S1 k ∨ T1 k, T2, ⟨S1, T1, h1, g1, fun k hk hk' => h3 k hk ((g4 k).2 (.inl hk')), fun k => Iff.rfl⟩, g2, fun k hk hk' => hk.elim (fun x => h3 k x ((g4 k).2 (.inr hk'))) (fun x => g3 k x hk'), fun k => by rw [h4 k, g4 k, or_assoc]⟩

theorem erase_perm {α : Type _} : ∀ (l : List α) (i : Nat) (h : i < l.length), (l[i] :: l.eraseIdx i).Perm l
  | [], i, h => by simp at h
  | x :: l, 0, _ => List.Perm.refl _
  | x :: l, i + 1, h => by
    have h' : i < l.length := by simpa using h
    exact ((List.Perm.swap x l[i] (l.eraseIdx i))).trans ((erase_perm l i h').cons x)
theorem Apart.perm {w : World} {Ps Qs : List Asn} (h : Ps.Perm Qs) : ∀ {S : Nat → Prop}, Apart w Ps S → Apart w Qs S := by
  induction h with
  | nil => exact fun h => h
  | cons x _ ih => rintro S ⟨S1, S2, h1, h2, h3, h4⟩; exact ⟨S1, S2, h1, ih h2, h3, h4⟩
  | swap x y l =>
    rintro S ⟨S1, S2, h1, ⟨T1, T2, g1, g2, g3, g4⟩, h3, h4⟩
    refine ⟨T1, fun k => S1 k ∨ T2 k, g1, ⟨S1, T2, h1, g2, fun k a b => h3 k a ((g4 k).2 (.inr b)), fun k => Iff.rfl⟩, fun k a b => b.elim (fun c => h3 k c ((g4 k).2 (.inl a))) (g3 k a), fun k => ?_⟩
    rw [h4 k, g4 k]
    constructor
    · rintro (a | a | a)
      · exact .inr (.inl a)
      · exact .inl a
      · exact .inr (.inr a)
    · rintro (a | a | a)
      · exact .inr (.inl a)
      · exact .inl a
      · exact .inr (.inr a)
  | trans _ _ ih1 ih2 => exact fun h => ih2 (ih1 h)

/-- an object made of objects -/
def AJoin (Qs : List Asn) : Asn := ⟨fun S w => Apart w Qs S, fun h g hd => h.keep g hd, fun h => h.lt⟩

section
variable {B : Nat} {w0 w w' : World} {Ps Qs : List Asn}
theorem St.perm (h : St B w0 w Ps) (e : Ps.Perm Qs) : St B w0 w Qs := by
  obtain ⟨hb, hs, S, ha, hB⟩ := h
  exact ⟨hb, hs, S, ha.perm e, hB⟩
theorem St.openJ (h : St B w0 w (AJoin Qs :: Ps)) : St B w0 w (Qs ++ Ps) := by
  obtain ⟨hb, hs, S, ⟨S1, S2, h1, h2, h3, h4⟩, hB⟩ := h
  exact ⟨hb, hs, _, Apart.append h1 h2 h3, fun k hk => hB k ((h4 k).2 hk)⟩
theorem St.closeJ (h : St B w0 w (Qs ++ Ps)) : St B w0 w (AJoin Qs :: Ps) := by
  obtain ⟨hb, hs, S, ha, hB⟩ := h
  obtain ⟨S1, S2, h1, h2, h3, h4⟩ := ha.split
  exact ⟨hb, hs, S, ⟨S1, S2, h1, h2, h3, h4⟩, hB⟩
/-- one of them to the front, and back -/
theorem St.front (h : St B w0 w Ps) (i : Nat) {P : Asn} (hi : Ps[i]? = some P) : St B w0 w (P :: Ps.eraseIdx i) := by
  obtain ⟨hl, rfl⟩ := List.getElem?_eq_some_iff.1 hi
  exact h.perm (erase_perm Ps i hl).symm
theorem St.back {Q : Asn} (i : Nat) (hi : i < Ps.length) (h : St B w0 w (Q :: Ps.eraseIdx i)) : St B w0 w (Ps.set i Q) := by
  have hl : i < (Ps.set i Q).length := by simpa using hi
  have e := erase_perm (Ps.set i Q) i hl
  rw [List.getElem_set_self, List.eraseIdx_set_eq] at e
  exact h.perm e
end
end Go.Own

end
