/- Merged: LogV LogX LogY Own Heap Arr Str In Byt Giv Obj Lax Cpy -/
import Derived.Great.Walk
import Derived.WalkKit
import Derived.Deep.RegionLaw
import Derived.Deep.Draws
import Derived.Deep.MidRow
import Derived.Laws.Rows
import Derived.Lib.SlBytesRow
import Derived.Lib.Strings
import Derived.Deep.Slices
import Derived.OpenShut
import Derived.Test.YtahjjcmeocibbaaGreatDoorRows
import Derived.OwnWalk
import Derived.Still
import Derived.Laws.IdiomCopy
import Derived.Test.YtahjjcmeocibbaaGreatDoorQ1
set_option linter.unusedVariables false
section
namespace Go.LogM
open FlaM (FS)
section
variable {fr M : Nat} {σ : LG} {k : Nat} {op hd : Bool} {Ns : Nat -> List RecM.Nte} {ex : List Bs} {F : Nat -> List Bs} {X : List Bs} {er : Bool} {N : Nat}
structure Appd (fr M : Nat) (σ : LG) (op0 : Bool) (k : Nat) (Ns : Nat -> List RecM.Nte) (F : Nat -> List Bs) (n : RecM.Nte) (r : LG × (Plc × Nat)) (k' : Nat) (op' hd' : Bool) (Ns' : Nat -> List RecM.Nte) (ex' : List Bs) (F' : Nat -> List Bs) (X' : List Bs) (er' : Bool) : Prop where
 inv : Inv fr M r.1 k' op' hd' Ns' ex' F' X' er'
 pp : r.1.fs.pp = σ.fs.pp
 lo : k <= k'
 hi : k' <= k + 1
 sf : ∀ cnt, Sf cnt k Ns F -> Sf cnt k' Ns' F'
 live : Live σ.fs -> r.2.2 = 0 /\ Live r.1.fs
 kx : Live σ.fs -> k' = if op0 = true /\ σ.a + (notePages n).length <= σ.fs.pp then k else k + 1
 or : (r.2.2 = 0 /\ op' = true /\ hd' = true /\ ex' = [] /\ Ns' = updN Ns (k' - 1) (Ns (k' - 1) ++ [n]) /\ r.2.1 = ⟨((k' - 1 : Nat) : Int), ((1 + ((Ns (k' - 1)).flatMap notePages).length : Nat) : Int), ((notePages n).length : Int)⟩ /\ 1 + ((Ns (k' - 1)).flatMap notePages).length + (notePages n).length <= σ.fs.pp) \/
  (r.2 = (zP, 6) /\ r.1.fs.off = true /\ Ns' = Ns)
def openPut (fr : Nat) (σ : LG) (n : RecM.Nte) : LG × (Plc × Nat) :=
 if (openL fr σ).2 ≠ 0 then ((openL fr σ).1, (zP, (openL fr σ).2)) else putL fr (openL fr σ).1 (notePages n)
theorem inv_openPut (h : Inv fr M σ k false hd Ns ex F X er) (ok : FlaM.Ok σ.fs N) {n : RecM.Nte} (hn : Good n) (hk : k < M) (hfit : 1 + (notePages n).length <= σ.fs.pp) :
 (∃ k' op' hd' Ns' ex' F' X' er', Appd fr M σ false k Ns F n (openPut fr σ n) k' op' hd' Ns' ex' F' X' er') /\ FlaM.Ok (openPut fr σ n).1.fs (N + 6) := by
 obtain ⟨p1, p2, p3, p4⟩ := inv_open h ok hk
 have hpp := h.pp
 have hz : k = 0 -> ∀ j, Ns j = [] := h.zero
 unfold openPut
 generalize openL fr σ = o at p1 p2 p3 p4
 rcases p2 with ⟨h0, hi⟩ | ⟨h6, hof, er', hi⟩
 · rw [if_neg (by rw [h0]; simp)]
   have ha : o.1.a = 1 := by
    have := hi.at_ rfl
    rw [if_pos rfl, full_len hi (Nat.succ_pos _)] at this
    rw [this, Nat.add_sub_cancel, (h.new k (Nat.le_refl _)).1]
    rfl
   obtain ⟨q, qok⟩ := inv_put hi p4 hn (by rw [ha, p1]; exact hfit)
   generalize putL fr o.1 (notePages n) = r at q qok
   refine ⟨?_, qok⟩
   have hsf : ∀ cnt, Sf cnt k Ns F -> Sf cnt (k + 1) Ns F := fun cnt hc => sf_next hc hz
   rcases q.or with ⟨r0, r1, r2, X', hI⟩ | ⟨r1, r2, hd', ex', X', er', hI⟩
   · refine ⟨k + 1, true, true, _, [], F, X', false, hI, q.pp.trans p1, Nat.le_succ _, Nat.le_refl _, fun cnt hc => sf_more (hsf cnt hc), fun hl => q.live (p3 hl).2, fun _ => by simp, .inl ⟨r0, rfl, rfl, rfl, rfl, r1, ?_⟩⟩
     rw [p1] at r2
     exact r2
   · exact ⟨k + 1, true, hd', Ns, ex', F, X', er', hI, q.pp.trans p1, Nat.le_succ _, Nat.le_refl _, hsf, fun hl => q.live (p3 hl).2, fun _ => by simp, .inr ⟨r1, r2, rfl⟩⟩
 · rw [if_pos (by rw [h6]; decide)]
   refine ⟨⟨k + 1, true, false, Ns, [], F, [], er', hi, p1, Nat.le_succ _, Nat.le_refl _, fun cnt hc => sf_next hc hz, fun hl => absurd (p3 hl).1 (by rw [h6]; decide), fun _ => by simp, .inr ⟨by rw [h6], hof, rfl⟩⟩, p4.more (by omega)⟩
theorem cur_some (h : Inv fr M σ k op hd Ns ex F X er) : (TabM.cur σ.tb).isSome = op := by
 rw [h.tb]
 cases op
 · rw [tab_nocur]; rfl
 · rw [tab_cur (h.opn rfl) h.km]; rfl
theorem inv_append (h : Inv fr M σ k op hd Ns ex F X er) (ok : FlaM.Ok σ.fs N) {n : RecM.Nte} (hn : Good n) (hk : k < M) (hfit : 1 + (notePages n).length <= σ.fs.pp) :
 (∃ k' op' hd' Ns' ex' F' X' er', Appd fr M σ op k Ns F n (appendL fr σ n) k' op' hd' Ns' ex' F' X' er') /\ FlaM.Ok (appendL fr σ n).1.fs (N + 7) := by
 have hcur := cur_some h
 have e0 : appendL fr σ n = if (roomL σ (notePages n).length).2 ≠ 0 then ((roomL σ (notePages n).length).1, (zP, (roomL σ (notePages n).length).2)) else
  if (needL fr (roomL σ (notePages n).length).1).2 ≠ 0 then ((needL fr (roomL σ (notePages n).length).1).1, (zP, (needL fr (roomL σ (notePages n).length).1).2)) else
  putL fr (needL fr (roomL σ (notePages n).length).1).1 (notePages n) := by
  unfold appendL
  rw [if_neg (by rw [hn.right]; decide), if_neg (by omega)]
 rw [e0]
 cases op
 · have e1 : roomL σ (notePages n).length = (σ, 0) := by unfold roomL; rw [hcur, if_neg (by simp)]
   have e2 : needL fr σ = openL fr σ := by unfold needL; rw [hcur, if_neg (by decide)]
   rw [e1, if_neg (by simp)]
   simp only
   rw [e2]
   obtain ⟨q, qok⟩ := inv_openPut h ok hn hk hfit
   unfold openPut at q qok
   exact ⟨q, qok.more (by omega)⟩
 · by_cases hr : σ.fs.pp < σ.a + (notePages n).length
   · have e1 : roomL σ (notePages n).length = closeL σ := by unfold roomL; rw [hcur, if_pos ⟨rfl, hr⟩]
     rw [e1]
     obtain ⟨c1, c2, c3, c4⟩ := inv_close h ok
     generalize closeL σ = c at c1 c2 c3 c4
     rcases c2 with ⟨h0, hI, hhd, hex⟩ | ⟨h6, hof, _, hI⟩
     · have hcur2 := cur_some hI
       have e2 : needL fr c.1 = openL fr c.1 := by unfold needL; rw [hcur2, if_neg (by decide)]
       rw [if_neg (by rw [h0]; simp), e2]
       obtain ⟨⟨k', op', hd', Ns', ex', F', X', er', q⟩, qok⟩ := inv_openPut hI c4 hn hk (by rw [c1]; exact hfit)
       unfold openPut at q qok
       refine ⟨⟨k', op', hd', Ns', ex', F', X', er', q.inv, q.pp.trans c1, q.lo, q.hi, fun cnt hc => q.sf cnt (sf_front hc ?_), fun hl => q.live (c3 hl).2, fun hl => ?_, ?_⟩, qok.more (by omega)⟩
       · unfold onSeg
         rw [if_pos rfl]
         exact ⟨X, rfl⟩
       · rw [q.kx (c3 hl).2, if_neg (by simp), if_neg (fun hh => by have := hh.2; omega)]
       · have hq := q.or
         rw [c1] at hq
         exact hq
     · rw [if_pos (by rw [h6]; decide)]
       exact ⟨⟨k, true, hd, Ns, ex, F, X, er, hI, c1, Nat.le_refl _, Nat.le_succ _, fun _ hc => hc, fun hl => absurd (c3 hl).1 (by rw [h6]; decide), fun hl => absurd (c3 hl).1 (by rw [h6]; decide), .inr ⟨by rw [h6], hof, rfl⟩⟩, c4.more (by omega)⟩
   · have e1 : roomL σ (notePages n).length = (σ, 0) := by unfold roomL; rw [hcur, if_neg (fun hh => hr hh.2)]
     have e2 : needL fr σ = (σ, 0) := by unfold needL; rw [hcur, if_pos rfl]
     rw [e1, if_neg (by simp)]
     simp only
     rw [e2, if_neg (by simp)]
     simp only
     obtain ⟨q, qok⟩ := inv_put h ok hn (by omega)
     generalize putL fr σ (notePages n) = r at q qok
     refine ⟨?_, qok.more (by omega)⟩
     rcases q.or with ⟨r0, r1, r2, X', hI⟩ | ⟨r1, r2, hd', ex', X', er', hI⟩
     · exact ⟨k, true, true, _, [], F, X', false, hI, q.pp, Nat.le_refl _, Nat.le_succ _, fun cnt hc => sf_more hc, q.live, fun _ => by rw [if_pos ⟨rfl, by omega⟩], .inl ⟨r0, rfl, rfl, rfl, rfl, r1, r2⟩⟩
     · exact ⟨k, true, hd', Ns, ex', F, X', er', hI, q.pp, Nat.le_refl _, Nat.le_succ _, fun _ hc => hc, q.live, fun _ => by rw [if_pos ⟨rfl, by omega⟩], .inr ⟨r1, r2, rfl⟩⟩
theorem inv_barrier (h : Inv fr M σ k op hd Ns ex F X er) (ok : FlaM.Ok σ.fs N) :
 (((FlaM.barrier σ.fs).2 = 0 /\ ∃ F', Inv fr M ⟨(FlaM.barrier σ.fs).1, σ.tb, σ.a⟩ k op true Ns [] F' [] false) \/ ((FlaM.barrier σ.fs).2 = 6 /\ Inv fr M ⟨(FlaM.barrier σ.fs).1, σ.tb, σ.a⟩ k op hd Ns ex F X er)) /\ (FlaM.barrier σ.fs).1.pp = σ.fs.pp := by
 have D := h.phy.barrier ok
 refine ⟨?_, D.pp⟩
 rcases D.or with ⟨h0, hp⟩ | ⟨h6, hof, hp⟩
 · have hoff : σ.fs.off ≠ true := fun ho => by have := D.dead ho; omega
   have hhd : hd = true := by
    cases hd
    · exact absurd (h.bad rfl).2.2 hoff
    · rfl
   have hex : ex = [] := by
    rcases h.torn with h1 | ⟨h1, _⟩
    · exact h1
    · exact absurd h1 hoff
   subst hhd hex
   refine .inl ⟨h0, onSeg F (k - 1) X, h.tb, h.km, hp, ?_, ?_, h.opn, fun ho => ?_, fun ho => ⟨rfl, rfl, rfl, rfl⟩, fun h => (by cases h), .inl rfl, fun h => (by cases h), h.good, by show 2 <= (FlaM.barrier σ.fs).1.pp; rw [D.pp]; exact h.pp⟩
   · intro j hj
     refine ⟨?_, (h.new j hj).2⟩
     unfold onSeg
     split
     · rename_i h1
       cases op
       · rw [(h.new j hj).1, (h.shut rfl).1]; rfl
       · have := h.opn rfl; omega
     · exact (h.new j hj).1
   · intro j hj
     rw [onSeg_twice]
     exact h.all j hj
   · have := h.at_ ho
     rw [onSeg_twice]
     exact this
 · exact .inr ⟨h6, h.tb, h.km, hp, h.new, h.all, h.opn, fun ho => (h.at_ ho).trans (by show _ = if hd = true then _ else (FlaM.barrier σ.fs).1.pp; rw [D.pp]), h.shut, fun hh => ⟨(h.bad hh).1, (h.bad hh).2.1, hof⟩, h.torn.imp id (fun ⟨_, hx⟩ => ⟨hof, hx⟩), h.er0, h.good, by show 2 <= (FlaM.barrier σ.fs).1.pp; rw [D.pp]; exact h.pp⟩
theorem inv_cut (h : Inv fr M σ k op hd Ns ex F X er) (after : Int) : Inv fr M ⟨FlaM.cut σ.fs after, σ.tb, σ.a⟩ k op hd Ns ex F X er /\ (FlaM.cut σ.fs after).pp = σ.fs.pp := by
 have e : (FlaM.cut σ.fs after).safe = σ.fs.safe /\ (FlaM.cut σ.fs after).L = σ.fs.L /\ (FlaM.cut σ.fs after).pp = σ.fs.pp /\ (FlaM.cut σ.fs after).off = σ.fs.off := by
  unfold FlaM.cut
  split <;> exact ⟨rfl, rfl, rfl, rfl⟩
 obtain ⟨e1, e2, e3, e4⟩ := e
 refine ⟨⟨h.tb, h.km, h.phy.same e1 e2 e3, h.new, h.all, h.opn, fun ho => (h.at_ ho).trans (by show _ = if hd = true then _ else (FlaM.cut σ.fs after).pp; rw [e3]), h.shut, fun hh => ⟨(h.bad hh).1, (h.bad hh).2.1, e4.trans (h.bad hh).2.2⟩, h.torn.imp id (fun ⟨ho, hx⟩ => ⟨e4.trans ho, hx⟩), h.er0, h.good, by show 2 <= (FlaM.cut σ.fs after).pp; rw [e3]; exact h.pp⟩, e3⟩
end
end Go.LogM
end
section
namespace Go.LogM
open FlaM (FS)
def segPages (s : FS) (g : Nat) : List Bs := (List.range s.pp).map (fun i => FlaM.now s g i)
noncomputable def scanL (fr : Nat) (σ : LG) (seg page : Int) : (Nat × List Ent) × Nat :=
 if seg < 0 \/ (σ.tb.rows.length : Int) <= seg \/ page < 1 \/ (σ.fs.pp : Int) < page then ((0, []), 1)
 else if σ.fs.off = true then ((0, []), 6)
 else if headSeq ((segPages σ.fs (fr + seg.toNat)).getD 0 []) = 0 then ((0, []), 0)
 else ((headSeq ((segPages σ.fs (fr + seg.toNat)).getD 0 []), scanF seg (σ.fs.pp + 1) page.toNat ((segPages σ.fs (fr + seg.toNat)).drop page.toNat)), 0)
theorem seg_len (s : FS) (g : Nat) : (segPages s g).length = s.pp := by simp [segPages]
theorem seg_at {s : FS} {g i : Nat} (h : i < s.pp) : (segPages s g).getD i [] = FlaM.now s g i := by
 unfold segPages
 rw [List.getD_eq_getElem?_getD, List.getElem?_map, List.getElem?_range h]; rfl
def padded (l : List Bs) (pp : Nat) : List Bs := l ++ List.replicate (pp - l.length) FlaM.blank
theorem padded_at {l : List Bs} {pp i : Nat} (hi : i < pp) : (padded l pp).getD i [] = l.getD i FlaM.blank := by
 unfold padded
 rw [getD_append]
 split
 · rename_i h
   rw [List.getD_eq_getElem?_getD, List.getD_eq_getElem?_getD, List.getElem?_eq_getElem h]; rfl
 · rename_i h
   rw [List.getD_eq_getElem?_getD, List.getElem?_replicate, if_pos (by omega), List.getD_eq_getElem?_getD, List.getElem?_eq_none (by omega)]; rfl
theorem padded_len {l : List Bs} {pp : Nat} (h : l.length <= pp) : (padded l pp).length = pp := by unfold padded; rw [List.length_append, List.length_replicate]; omega
theorem ext_get {A B : List Bs} (hl : A.length = B.length) (h : ∀ i, i < A.length -> A.getD i [] = B.getD i []) : A = B := by
 apply List.ext_getElem hl
 intro i h1 h2
 have := h i h1
 rw [List.getD_eq_getElem?_getD, List.getD_eq_getElem?_getD, List.getElem?_eq_getElem h1, List.getElem?_eq_getElem h2] at this
 exact this
theorem tail_blank (n : Nat) : Tail (List.replicate n FlaM.blank) :=
 ⟨RecM.zeroN, 0, _, rfl, notePages_pos _, fun p hp => by rw [(List.mem_replicate.1 hp).2]; exact blank_page⟩
theorem tail_torn (n : RecM.Nte) (c m : Nat) (hc : c < (notePages n).length) : Tail ((notePages n).take c ++ List.replicate m FlaM.blank) :=
 ⟨n, c, _, rfl, hc, fun p hp => by rw [(List.mem_replicate.1 hp).2]; exact blank_page⟩
theorem flat_notes_len : ∀ (ns : List RecM.Nte), ns.length <= (ns.flatMap notePages).length
 | [] => Nat.le_refl _
 | n :: ns => by
  rw [List.flatMap_cons, List.length_append, List.length_cons]
  have := notePages_pos n
  have := flat_notes_len ns
  omega
def seqAt (k : Nat) (hok : Bool) (j : Nat) : Nat := if j + 1 < k \/ (j + 1 = k /\ hok = true) then j + 1 else 0
def foundAt (k : Nat) (Ns : Nat -> List RecM.Nte) (m j : Nat) : List RecM.Nte := if j + 1 < k then Ns j else if j + 1 = k then (Ns j).take m else []
section
variable {fr M : Nat} {σ : LG} {k : Nat} {op hd : Bool} {Ns : Nat -> List RecM.Nte} {ex : List Bs} {F : Nat -> List Bs} {X : List Bs} {er : Bool} {N : Nat}
theorem scan_on {tb : TabM.T} {s : FS} {a : Nat} (hM : tb.rows.length = M) (hpp : 1 <= s.pp) (hon : s.off = false) (j : Nat) (hj : j < M) :
 scanL fr ⟨s, tb, a⟩ (j : Int) 1 = if headSeq ((segPages s (fr + j)).getD 0 []) = 0 then ((0, []), 0) else ((headSeq ((segPages s (fr + j)).getD 0 []), scanF (j : Int) (s.pp + 1) 1 ((segPages s (fr + j)).drop 1)), 0) := by
 unfold scanL
 rw [if_neg (by simp only [hM]; omega), if_neg (by simp only [hon]; decide)]
 rfl
theorem scan_whole {Q : List Bs} {s : Nat} {ns : List RecM.Nte} {T : List Bs} (hs : s < 18446744073709551616) (hs0 : 0 < s) (hg : ∀ n ∈ ns, Good n) (hT : Tail T) (hQ : Q = hdr s :: (ns.flatMap notePages ++ T)) (seg : Int) (f : Nat) (hf : Q.length <= f) :
 headSeq (Q.getD 0 []) = s /\ scanF seg f 1 (Q.drop 1) = ents seg 1 ns := by
 subst hQ
 refine ⟨headSeq_hdr s hs, ?_⟩
 have hlen := flat_notes_len ns
 simp only [List.length_cons, List.length_append] at hf
 obtain ⟨m, hm, e, hmax⟩ := scan_like seg T hT ns 1 f _ hg (like_refl _) (by omega)
 have hml : ns.length <= m := hmax ns.length T (Nat.le_refl _) (by rw [List.take_length])
 rw [List.drop_succ_cons, List.drop_zero, e, List.take_of_length_le (by omega)]
theorem found_old (h : Inv fr M σ k op hd Ns ex F X er) (hM : M <= 256) {s' : FS} (hpp : s'.pp = σ.fs.pp) (j : Nat) (hj : j + 1 < k) (hnow : ∀ i, i < s'.pp -> FlaM.now s' (fr + j) i = (F j).getD i FlaM.blank) :
 headSeq ((segPages s' (fr + j)).getD 0 []) = j + 1 /\ scanF (j : Int) (s'.pp + 1) 1 ((segPages s' (fr + j)).drop 1) = ents (j : Int) 1 (Ns j) := by
 have h1 := h.all j (by omega)
 have h2 : F j = hdr (j + 1) :: (Ns j).flatMap notePages := by
  unfold onSeg full at h1
  rw [if_neg (by omega), if_neg (by omega), if_neg (by omega), List.append_nil] at h1
  exact h1
 have hroom := h.phy.room j (by have := h.km; omega)
 have hQ : segPages s' (fr + j) = padded (F j) s'.pp := by
  apply ext_get
  · rw [seg_len, padded_len (by rw [hpp]; exact hroom)]
  · intro i hi
    rw [seg_len] at hi
    rw [seg_at hi, padded_at hi, hnow i hi]
 rw [hQ]
 have e : padded (F j) s'.pp = hdr (j + 1) :: ((Ns j).flatMap notePages ++ List.replicate (s'.pp - (F j).length) FlaM.blank) := by
  unfold padded
  rw [h2]; rfl
 have hl : (padded (F j) s'.pp).length = s'.pp := padded_len (by rw [hpp]; exact hroom)
 have hk := h.km
 exact scan_whole (by omega) (Nat.succ_pos _) (h.good j) (tail_blank _) e (j : Int) _ (by rw [hl]; exact Nat.le_succ _)
theorem scan_crash (h : Inv fr M σ k op hd Ns ex F X er) (ok : FlaM.Ok σ.fs N) (hM : M <= 256) (fates : List Int) :
 ∃ m hok, m <= (Ns (k - 1)).length /\ (hok = false -> m = 0) /\ (∀ cnt, Sf cnt k Ns F -> cnt <= tot Ns (k - 1) + m) /\
  ∀ j, j < M -> scanL fr ⟨FlaM.crash σ.fs fates, σ.tb, σ.a⟩ (j : Int) 1 = ((seqAt k hok j, ents (j : Int) 1 (foundAt k Ns m j)), 0) := by
 have hpp : (FlaM.crash σ.fs fates).pp = σ.fs.pp := rfl
 have hp5 := h.pp
 have hk := h.km
 have htb : σ.tb.rows.length = M := by rw [h.tb]; exact tab_len _ _ _
 have hnow : ∀ g i, FlaM.now (FlaM.crash σ.fs fates) g i = FlaM.pageAt (FlaM.crash σ.fs fates).safe g i := fun g i => rfl
 have hcr : ∀ j i, j < M -> i < σ.fs.pp -> (j ≠ k - 1 \/ i < (F j).length -> FlaM.now (FlaM.crash σ.fs fates) (fr + j) i = (F j).getD i FlaM.blank) /\ (FlaM.now (FlaM.crash σ.fs fates) (fr + j) i = (onSeg F (k - 1) X j).getD i FlaM.blank \/ PagM.isPage (FlaM.now (FlaM.crash σ.fs fates) (fr + j) i) = false) := by
  intro j i hj hi
  rw [hnow]
  exact h.phy.crash ok fates j i hj hi
 generalize hs' : FlaM.crash σ.fs fates = s' at hpp hnow hcr ⊢
 have hon : s'.off = false := by rw [<- hs']; rfl
 have hscan := fun j hj => scan_on (fr := fr) (a := σ.a) htb (s := s') (by rw [hpp]; omega) hon j hj
 have hnew : ∀ j, k <= j -> j < M -> headSeq ((segPages s' (fr + j)).getD 0 []) = 0 := by
  intro j hkj hj
  rw [seg_at (by omega)]
  refine headSeq_bad ?_
  rcases (hcr j 0 hj (by omega)).2 with e | e
  · rw [e]
    have : onSeg F (k - 1) X j = [] := by
     unfold onSeg
     split
     · rename_i h1
       cases op
       · rw [(h.new j hkj).1, (h.shut rfl).1]; rfl
       · have := h.opn rfl; omega
     · exact (h.new j hkj).1
    rw [this]
    exact blank_page
  · exact e
 have hold := fun j (hj : j + 1 < k) => found_old h hM hpp j hj (fun i hi => (hcr j i (by omega) (by rw [<- hpp]; exact hi)).1 (.inl (by omega)))
 have hlast : ∃ m hok, m <= (Ns (k - 1)).length /\ (hok = false -> m = 0) /\ (∀ cnt, Sf cnt k Ns F -> cnt <= tot Ns (k - 1) + m) /\
  (0 < k -> (hok = true -> headSeq ((segPages s' (fr + (k - 1))).getD 0 []) = k /\ scanF ((k - 1 : Nat) : Int) (s'.pp + 1) 1 ((segPages s' (fr + (k - 1))).drop 1) = ents ((k - 1 : Nat) : Int) 1 ((Ns (k - 1)).take m)) /\ (hok = false -> headSeq ((segPages s' (fr + (k - 1))).getD 0 []) = 0)) := by
  rcases Nat.eq_zero_or_pos k with hk0 | hk0
  · refine ⟨0, false, Nat.zero_le _, fun _ => rfl, fun cnt hc => ?_, fun h => absurd h (by omega)⟩
    obtain ⟨m, h1, h2, _⟩ := hc
    rw [h.zero hk0] at h1
    simp at h1
    omega
  have hj : k - 1 < M := by omega
  have hkk : k - 1 + 1 = k := Nat.sub_add_cancel hk0
  have hall := h.all (k - 1) (by omega)
  cases hd
  · refine ⟨0, false, Nat.zero_le _, fun _ => rfl, fun cnt hc => ?_, fun _ => ⟨fun h => (by cases h), fun _ => ?_⟩⟩
    · obtain ⟨m, h1, h2, _⟩ := hc
      rw [(h.bad rfl).1] at h1
      simp at h1
      omega
    · rw [seg_at (by omega)]
      refine headSeq_bad ?_
      rcases (hcr (k - 1) 0 hj (by omega)).2 with e | e
      · rw [e, hall]
        unfold full
        rw [if_pos ⟨hkk, rfl⟩]
        exact blank_page
      · exact e
  have hfull : onSeg F (k - 1) X (k - 1) = hdr k :: ((Ns (k - 1)).flatMap notePages ++ ex) := by
   rw [hall]
   unfold full
   rw [if_neg (by simp), if_pos hkk, hkk]
  have hfl : (onSeg F (k - 1) X (k - 1)).length <= s'.pp := by
   unfold onSeg
   rw [if_pos rfl, List.length_append, hpp]
   exact h.phy.roomX
  obtain ⟨r, hr⟩ : ∃ r, r = s'.pp - (onSeg F (k - 1) X (k - 1)).length := ⟨_, rfl⟩
  have hpad : padded (onSeg F (k - 1) X (k - 1)) s'.pp = hdr k :: ((Ns (k - 1)).flatMap notePages ++ (ex ++ List.replicate r FlaM.blank)) := by
   unfold padded
   rw [<- hr, hfull, List.cons_append, List.append_assoc]
  have hlike : Like (segPages s' (fr + (k - 1))) (padded (onSeg F (k - 1) X (k - 1)) s'.pp) := by
   apply like_of_get
   · rw [seg_len, padded_len hfl]
   · intro i hi
     rw [padded_len hfl] at hi
     rw [seg_at hi, padded_at hi]
     exact (hcr (k - 1) i hj (by omega)).2
  have hT : Tail (ex ++ List.replicate r FlaM.blank) := by
   rcases h.torn with h1 | ⟨_, n, c, hc, h1⟩
   · rw [h1]; exact tail_blank _
   · rw [h1]; exact tail_torn n c r hc
  have hsafe : ∃ F3, segPages s' (fr + (k - 1)) = F (k - 1) ++ F3 := by
   have hroom := h.phy.room (k - 1) hj
   refine ⟨(segPages s' (fr + (k - 1))).drop (F (k - 1)).length, ?_⟩
   conv => lhs; rw [<- List.take_append_drop (F (k - 1)).length (segPages s' (fr + (k - 1)))]
   congr 1
   apply ext_get
   · rw [List.length_take, seg_len, hpp]; omega
   · intro i hi
     rw [List.length_take, seg_len] at hi
     have e1 : ((segPages s' (fr + (k - 1))).take (F (k - 1)).length).getD i [] = (segPages s' (fr + (k - 1))).getD i [] := by
      rw [List.getD_eq_getElem?_getD, List.getElem?_take_of_lt (by omega), <- List.getD_eq_getElem?_getD]
     rw [e1, seg_at (by omega), (hcr (k - 1) i hj (by omega)).1 (.inr (by omega)), List.getD_eq_getElem?_getD, List.getD_eq_getElem?_getD, List.getElem?_eq_getElem (by omega)]
     rfl
  rw [hpad] at hlike
  have hql := seg_len s' (fr + (k - 1))
  generalize hq : segPages s' (fr + (k - 1)) = Q at hlike hsafe hql ⊢
  cases Q with
  | nil => exact hlike.elim
  | cons q0 Q =>
   obtain ⟨hq0, hQ⟩ := hlike
   have hflen := flat_notes_len (Ns (k - 1))
   have hl2 := like_len hQ
   rw [List.length_append] at hl2
   simp only [List.length_cons] at hql
   obtain ⟨m, hm, e, hmax⟩ := scan_like ((k - 1 : Nat) : Int) _ hT (Ns (k - 1)) 1 (s'.pp + 1) Q (h.good (k - 1)) hQ (by omega)
   by_cases hp : PagM.isPage q0 = true
   · have hq1 : q0 = hdr k := by
      rcases hq0 with h1 | h1
      · exact h1
      · rw [hp] at h1; cases h1
     refine ⟨m, true, hm, fun h => (by cases h), fun cnt hc => ?_, fun _ => ⟨fun _ => ⟨?_, e⟩, fun h => (by cases h)⟩⟩
     · obtain ⟨m0, h1, h2, h3⟩ := hc
       rcases Nat.eq_zero_or_pos m0 with h0 | h0
       · omega
       · obtain ⟨F2, hF⟩ := h3 h0
         obtain ⟨F3, hF3⟩ := hsafe
         rw [hF, List.cons_append] at hF3
         have hQ2 := (List.cons.inj hF3).2
         have := hmax m0 (F2 ++ F3) h1 (by rw [hQ2]; exact List.append_assoc _ _ _)
         omega
     · rw [hq1]
       exact headSeq_hdr k (by omega)
   · have hpf : PagM.isPage q0 = false := by simpa using hp
     refine ⟨0, false, Nat.zero_le _, fun _ => rfl, fun cnt hc => ?_, fun _ => ⟨fun h => (by cases h), fun _ => headSeq_bad hpf⟩⟩
     obtain ⟨m0, h1, h2, h3⟩ := hc
     rcases Nat.eq_zero_or_pos m0 with h0 | h0
     · omega
     · obtain ⟨F2, hF⟩ := h3 h0
       obtain ⟨F3, hF3⟩ := hsafe
       rw [hF, List.cons_append] at hF3
       have := (List.cons.inj hF3).1
       rw [this, hdr_page] at hpf
       cases hpf
 obtain ⟨m, hok, l1, l2, l3, l4⟩ := hlast
 refine ⟨m, hok, l1, l2, l3, fun j hj => ?_⟩
 rw [hscan j hj]
 rcases Nat.lt_trichotomy (j + 1) k with hjk | hjk | hjk
 · obtain ⟨e1, e2⟩ := hold j hjk
   rw [e1, e2, if_neg (Nat.succ_ne_zero j)]
   unfold seqAt foundAt
   rw [if_pos (.inl hjk), if_pos hjk]
 · have hj1 : j = k - 1 := by omega
   obtain ⟨e1, e2⟩ := l4 (by omega)
   rw [<- hj1] at e1 e2
   unfold seqAt foundAt
   cases hok
   · rw [e2 rfl, if_pos rfl, if_neg (by simp; omega), if_neg (by omega), if_pos hjk, l2 rfl]
     rfl
   · obtain ⟨e3, e4⟩ := e1 rfl
     rw [e3, e4, if_neg (by omega), if_pos (.inr ⟨hjk, rfl⟩), if_neg (by omega), if_pos hjk, hjk]
 · rw [hnew j (by omega) hj, if_pos rfl]
   unfold seqAt foundAt
   rw [if_neg (by simp; omega), if_neg (by omega), if_neg (by omega)]
   rfl
end
end Go.LogM
end
section
namespace Go.LogM
open FlaM (FS)
def headN (σ : LG) : Nat × Nat :=
 match TabM.cur σ.tb with
 | none => (σ.tb.next, 1)
 | some i => if σ.a < σ.fs.pp then ((TabM.at_ σ.tb.rows i).seq, σ.a) else (σ.tb.next, 1)
structure LgOk (fr : Nat) (σ : LG) (N : Nat) : Prop where
 fs : FlaM.Ok σ.fs N
 tb : TabM.Ok σ.tb N
 room : fr + σ.tb.rows.length <= σ.fs.safe.length
 pp : 2 <= σ.fs.pp
 a : (TabM.cur σ.tb).isSome = true -> 1 <= σ.a /\ σ.a <= σ.fs.pp
 load : TabM.LoadOk σ.tb.rows σ.tb.next
theorem load_tab {M k : Nat} (op : Bool) (hM : M <= 256) : TabM.LoadOk (tabOf M k op).rows (tabOf M k op).next := by
 refine ⟨by rw [tab_len]; exact hM, Nat.succ_pos _, ?_, ?_, ?_, ?_⟩
 · intro s hs hk
   obtain ⟨i, hi, rfl⟩ := tab_mem hs
   unfold rowAt at hk ⊢
   split at hk
   · simp at hk; split at hk <;> cases hk
   · rename_i h; rw [if_neg h]; rfl
 · intro s hs hk
   obtain ⟨i, hi, rfl⟩ := tab_mem hs
   unfold rowAt at hk ⊢
   by_cases h : i < k
   · rw [if_pos h]
     refine ⟨?_, Nat.succ_pos _, by show i + 1 < k + 1; omega⟩
     show (if _ then 1 else 2) <= 2
     split <;> omega
   · rw [if_neg h] at hk; exact absurd rfl hk
 · intro i j hi hj hne e
   have hi' : i < M := by rw [tab_len] at hi; exact hi
   have hj' : j < M := by rw [tab_len] at hj; exact hj
   have e1 : (tabOf M k op).rows[i] = rowAt k op i := by rw [<- TabM.at_lt hi]; exact tab_at hi'
   have e2 : (tabOf M k op).rows[j] = rowAt k op j := by rw [<- TabM.at_lt hj]; exact tab_at hj'
   rw [e1, e2] at e
   rw [e1]
   by_cases h1 : i < k
   · rw [rowAt_seq h1] at e ⊢
     by_cases h2 : j < k
     · rw [rowAt_seq h2] at e; omega
     · unfold rowAt at e; rw [if_neg h2] at e; cases e
   · unfold rowAt; rw [if_neg h1]; rfl
 · intro i j hi hj e1 e2
   have hi' : i < M := by rw [tab_len] at hi; exact hi
   have hj' : j < M := by rw [tab_len] at hj; exact hj
   rw [<- TabM.at_lt hi, tab_at hi'] at e1
   rw [<- TabM.at_lt hj, tab_at hj'] at e2
   have key : ∀ x, (rowAt k op x).kind = 1 -> x + 1 = k := by
    intro x hx
    unfold rowAt at hx
    split at hx
    · simp only at hx
      split at hx
      · rename_i h; exact h.2
      · cases hx
    · cases hx
   have := key i e1
   have := key j e2
   omega
section
variable {fr M : Nat} {σ : LG} {k : Nat} {op hd : Bool} {Ns : Nat -> List RecM.Nte} {ex : List Bs} {F : Nat -> List Bs} {X : List Bs} {er : Bool} {N : Nat}
theorem Inv.ok (h : Inv fr M σ k op hd Ns ex F X er) (hM : M <= 256) (ok : FlaM.Ok σ.fs N) (hN : k <= N) (h1 : 1 <= N) : LgOk fr σ N := by
 refine ⟨ok, by rw [h.tb]; exact tab_ok op hM hN h1, by rw [h.tb, tab_len, h.phy.len]; exact Nat.le_refl _, h.pp, fun hc => ?_, by rw [h.tb]; exact load_tab op hM⟩
 rw [cur_some h] at hc
 have ha := h.at_ hc
 have hpp := h.pp
 cases hd
 · rw [if_neg (by simp)] at ha; omega
 · rw [if_pos rfl] at ha
   have hk := h.opn hc
   have hl := full_len h hk
   have hr := h.phy.roomX
   have hall := h.all (k - 1) (by omega)
   have : 1 <= (onSeg F (k - 1) X (k - 1)).length := by
    rw [hall]
    unfold full
    rw [if_neg (by simp), List.length_cons]
    omega
   omega
end
def nD (i : Nat) : RecM.Nte := ⟨3, 0, i, RecM.zsum, 0, []⟩
def x0 : LG := ⟨FlaM.fresh (2 + 1) 4, TabM.fresh 2, 4⟩
def x1 : LG := (appendL 1 x0 (nD 0)).1
def x2 : LG := (appendL 1 x1 (nD 1)).1
def x3 : LG := (appendL 1 x2 (nD 2)).1
def x4 : LG := (appendL 1 x3 (nD 3)).1
def xs (i : Nat) : LG := if i = 0 then x0 else if i = 1 then x1 else if i = 2 then x2 else if i = 3 then x3 else x4
def want (i : Nat) : Plc := if i = 0 then ⟨0, 1, 1⟩ else if i = 1 then ⟨0, 2, 1⟩ else if i = 2 then ⟨0, 3, 1⟩ else ⟨1, 1, 1⟩
end Go.LogM
end
section
namespace Go.Own
open Go.RowKit
structure Step (S T : Nat -> Prop) (w w' : World) : Prop where
 os : w'.os = w.os
 tape : w'.tape = w.tape
 output : w'.output = w.output
 size : w.heap.size <= w'.heap.size
 block : ∀ k, k < w.heap.size -> ¬ S k -> w'.heap[k]? = w.heap[k]?
 new : ∀ k, T k -> S k \/ w.heap.size <= k
theorem Step.refl (S : Nat -> Prop) (w : World) : Step S S w w := ⟨rfl, rfl, rfl, Nat.le_refl _, fun _ _ _ => rfl, fun _ h => Or.inl h⟩
theorem Step.trans {S T U : Nat -> Prop} {w w1 w2 : World} (h : Step S T w w1) (g : Step T U w1 w2) : Step S U w w2 :=
 ⟨g.os.trans h.os, g.tape.trans h.tape, g.output.trans h.output, Nat.le_trans h.size g.size,
  fun k hk hs => (g.block k (Nat.lt_of_lt_of_le hk h.size) (fun ht => (h.new k ht).elim hs (fun h1 => absurd h1 (by omega)))).trans (h.block k hk hs),
  fun k hu => (g.new k hu).elim (fun h1 => h.new k h1) (fun h1 => Or.inr (Nat.le_trans h.size h1))⟩
theorem Step.drewN {S T : Nat -> Prop} {w w' : World} (h : Step S T w w') (n : Nat) : Step S T w (w'.drewN n) := ⟨h.os, h.tape, h.output, h.size, h.block, h.new⟩
theorem Step.drew {S T : Nat -> Prop} {w w' : World} (h : Step S T w w') : Step S T w w'.drew := ⟨h.os, h.tape, h.output, h.size, h.block, h.new⟩
theorem Step.setCell {S T : Nat -> Prop} {w w' : World} (h : Step S T w w') {a : Addr} (ha : S a.block \/ w.heap.size <= a.block) (u : Value) : Step S T w (w'.setCell a u) :=
 ⟨h.os, h.tape, h.output, by simpa using h.size, fun k hk hs => by
  have hne : k ≠ a.block := by
   intro e; subst e
   exact ha.elim hs (fun h1 => absurd h1 (by omega))
  rw [Below.heap_setCell _ _ _ _ hne]; exact h.block k hk hs, h.new⟩
theorem Step.alloc {S T : Nat -> Prop} {w w' : World} (h : Step S T w w') (o : Obj) : Step S T w (w'.alloc o) :=
 ⟨h.os, h.tape, h.output, by have := h.size; simp; omega, fun k hk hs => by
  rw [Below.heap_alloc _ _ _ (by have := h.size; omega)]; exact h.block k hk hs, h.new⟩
theorem Step.to {S T U : Nat -> Prop} {w w' : World} (h : Step S T w w') (hu : ∀ k, U k -> S k \/ w.heap.size <= k) : Step S U w w' := ⟨h.os, h.tape, h.output, h.size, h.block, hu⟩
theorem Step.grown {S T : Nat -> Prop} {w w1 w' : World} {row : Option Nat} (h : Step S T w w1) (hg : w1.grownBy w' row) (hr : ∀ k, row = some k -> S k \/ w.heap.size <= k) : Step S T w w' :=
 ⟨hg.os.trans h.os, hg.tape.trans h.tape, hg.output.trans h.output, Nat.le_trans h.size hg.size,
  fun k hk hs => (hg.block k (by have := h.size; omega) (fun e => (hr k e.symm).elim hs (fun h1 => absurd h1 (by omega)))).trans (h.block k hk hs), h.new⟩
theorem Step.below {S T : Nat -> Prop} {w w' : World} (h : Step S T w w') {B : Nat} (hB : B <= w.heap.size) (hS : ∀ k, S k -> B <= k) : Below B w w' :=
 ⟨h.os, h.tape, h.output, h.size, fun k hk => h.block k (by omega) (fun hs => by have := hS k hs; omega)⟩
def Dis (S T : Nat -> Prop) : Prop := ∀ k, S k -> ¬ T k
theorem cell_of_block {w : World} {b i : Nat} {c : Array Value} {t : TypeId} {fz : Nat × Nat} {v : Value} (h : w.heap[b]? = some (.cells c t fz)) (hv : c[i]? = some v) : w.cell? ⟨b, i, none⟩ = some v := by
 simp [World.cell?, h, hv]
theorem cell_alloc {w : World} {a : Addr} {v : Value} (h : w.cell? a = some v) (o : Obj) : (w.alloc o).cell? a = some v := by
 rw [World.cell?_alloc_lt _ _ _ (World.block_lt_of_cell? w a h)]; exact h
theorem frozen_of_block {w : World} {b i : Nat} {c : Array Value} {t : TypeId} (h : w.heap[b]? = some (.cells c t (0, 0))) : w.frozen? ⟨b, i, none⟩ = false := by
 simp [World.frozen?, h]
theorem lt_of_block {w : World} {b : Nat} {o : Obj} (h : w.heap[b]? = some o) : b < w.heap.size := (Array.getElem?_eq_some_iff.1 h).1
theorem block_setCell {w : World} {b i : Nat} {c : Array Value} {t : TypeId} {fz : Nat × Nat} (h : w.heap[b]? = some (.cells c t fz)) (u : Value) :
 (w.setCell ⟨b, i, none⟩ u).heap[b]? = some (.cells (c.setIfInBounds i u) t fz) := by
 simp [World.setCell, Array.getElem?_modify, h]
def byteV (c : UInt8) : Value := .int .u8 (c.toNat : Int)
theorem byteV_one (l : List UInt8) : ∀ u ∈ l.map byteV, u.oneCell' = true := by
 intro u hu; obtain ⟨c, _, rfl⟩ := List.mem_map.1 hu; rfl
structure Row (w : World) (e : TypeId) (size : Nat) (T : Nat -> Prop) (v : Value) (n : Nat) (xs : List Value) : Prop where
 own : w.ownsRow 0 e size v n xs
 set : ∀ k, T k ↔ v.ownBlock = some k
section
variable {w w' : World} {e : TypeId} {size : Nat} {S T U : Nat -> Prop} {v : Value} {n : Nat} {xs : List Value}
theorem Row.nil (w : World) (e : TypeId) (size : Nat) : Row w e size (fun _ => False) (.slice none 0 0) 0 [] := ⟨World.ownsRow_nil w 0 e size, fun k => by simp [Value.ownBlock]⟩
theorem Row.form (h : Row w e size T v n xs) : ∃ ao cap, v = .slice ao n cap /\ n <= cap /\ cap <= maxLen /\ (ao = none -> n = 0 /\ cap = 0 /\ xs = []) /\ ∀ a, ao = some a -> ∃ g, a = ⟨g, 0, none⟩ /\ T g := by
 have hs := h.set
 have hx := h.own.1
 rcases h.own.2 with ⟨rfl, rfl⟩ | ⟨g, cap, cur, rfl, _, _, h1, h2, _⟩
 · exact ⟨none, 0, rfl, Nat.le_refl _, by unfold maxLen; omega, fun _ => ⟨rfl, rfl, List.eq_nil_of_length_eq_zero (by simpa using hx)⟩, fun a h => by cases h⟩
 · exact ⟨_, cap, rfl, h1, h2, fun h => by (cases h), fun a ha => ⟨g, by cases ha; rfl, (hs g).2 rfl⟩⟩
theorem Row.lt (h : Row w e size T v n xs) : ∀ k, T k -> k < w.heap.size := fun k hk => (h.own.lt k ((h.set k).1 hk)).2
theorem Row.step (h : Row w e size T v n xs) (g : Step S U w w') (hd : Dis T S) : Row w' e size T v n xs := by
 refine ⟨⟨h.own.1, ?_⟩, h.set⟩
 rcases h.own.2 with h1 | ⟨b, cap, cur, rfl, h0, hb, r⟩
 · exact .inl h1
 · exact .inr ⟨b, cap, cur, rfl, h0, (g.block b (lt_of_block hb) (hd b ((h.set b).2 rfl))).trans hb, r⟩
theorem Row.alloc (h : Row w e size T v n xs) (o : Obj) : Row (w.alloc o) e size T v n xs := ⟨h.own.alloc o, h.set⟩
theorem Row.drew (h : Row w e size T v n xs) : Row w.drew e size T v n xs := ⟨h.own.drew, h.set⟩
theorem Row.cells {b cap : Nat} (h : Row w e size T (.slice (some ⟨b, 0, none⟩) n cap) n xs) (j : Nat) (hj : j < n * size) : w.cell? ⟨b, j, none⟩ = xs[j]? := h.own.cellAt j hj
end
theorem Row.made (w : World) (cs : Array Value) (e : TypeId) (size n : Nat) (hm : n <= maxLen) (hs : cs.size = n * size) : Row (w.alloc (.cells cs e)) e size (fun k => k = w.heap.size) (.slice (some ⟨w.heap.size, 0, none⟩) n n) n cs.toList :=
 ⟨World.ownsRow_lit w cs n (Nat.zero_le _) hm hs, fun k => by simp [Value.ownBlock, eq_comm]⟩
theorem run_append_row {P : Program} (w : World) (t ty e : TypeId) (i : TypeInfo) (z : Value) (size bytes : Nat) (ht : P.underlying t = some (.slice e)) (hi : P.info? e = some i) (hz : i.zero = some z)
 (hsize : i.size = size) (hby : i.bytes = bytes) (hzs : z.cells.size = size) (hsz : 0 < size)
 {T : Nat -> Prop} (v : Value) (n : Nat) (xs : List Value) (hrow : Row w e size T v n xs)
 (ao : Option Addr) (m c : Nat) (news : List Value) (hno : ao = none -> m = 0 /\ c = 0) (hl : news.length = m * size) (hnews : ∀ a, ao = some a -> ∀ j u, news[j]? = some u -> w.cell? (a.add j) = some u) (h1 : ∀ u ∈ news, u.oneCell' = true)
 (h63 : n + m <= maxLen) (hbytes : (n + m) * bytes <= 140737488355328) :
 ∃ v' w' T', (Builtin.append_ #[t, t] ty #[v, .slice ao m c]).run P w = .ok v' w' /\ Row w' e size T' v' (n + m) (xs ++ news) /\ Step T T' w w' := by
 cases ao with
 | none =>
  obtain ⟨rfl, rfl⟩ := hno rfl
  obtain rfl : news = [] := List.eq_nil_of_length_eq_zero (by simpa using hl)
  exact ⟨v, w, T, run_append_owned_none (P := P) w 0 t ty e i size ht hi v n xs hrow.own, by simpa using hrow, Step.refl _ _⟩
 | some a =>
  rcases hrow.own.2 with ⟨rfl, rfl⟩ | ⟨g, cap, cur, rfl, hbg, hg, hnc, hcm, hcs, htake⟩
  · obtain rfl : xs = [] := List.eq_nil_of_length_eq_zero (by simpa using hrow.own.1)
    obtain ⟨v', w', hr, r1, r2, _⟩ := run_append_own (P := P) w w.heap.size t ty e i z size bytes ht hi hz hsize hby hzs hsz _ 0 [] (World.ownsRow_nil w _ e size) a m c news hl (hnews a rfl) h1 h63 hbytes (Nat.le_refl _)
    have hlt := r1.lt
    refine ⟨v', w', fun k => v'.ownBlock = some k, hr, ⟨⟨r1.1, ?_⟩, fun _ => Iff.rfl⟩, ⟨r2.os, r2.tape, r2.output, r2.size, fun k hk _ => r2.block k hk (by simp [Value.ownBlock]), fun k hk => .inr (hlt k hk).1⟩⟩
    rcases r1.2 with h | ⟨g, cap, cur, h⟩
    · exact .inl h
    · exact .inr ⟨g, cap, cur, h.1, Nat.zero_le _, h.2.2⟩
  · by_cases hroom : n + m <= cap
    · obtain ⟨w', hr, r1, r2⟩ := run_append_fits (P := P) w 0 t ty e i size ht hi hsize g n cap xs hrow.own a m c news hl (hnews a rfl) h1 hroom
      exact ⟨_, w', T, hr, ⟨r1, fun k => by rw [hrow.set k]; simp [Value.ownBlock]⟩, ⟨r2.os, r2.tape, r2.output, r2.size, fun k hk hT => r2.block k hk (fun e => hT ((hrow.set k).2 (by simpa [Value.ownBlock] using e.symm))), fun k hk => .inl hk⟩⟩
    · have holds : ∀ j u, xs[j]? = some u -> w.cell? ((⟨g, 0, none⟩ : Addr).add j) = some u := hrow.own.cells (g := g) rfl
      obtain ⟨v', w', hr, r1, r2⟩ := run_append_arg_grows (P := P) w t ty e i z size bytes ht hi hz hsize hby hzs hsz ⟨g, 0, none⟩ n cap xs hrow.own.1 holds a m c news hl (hnews a rfl) (by omega) h63 hbytes
      have hlt := r1.lt
      refine ⟨v', w', fun k => v'.ownBlock = some k, hr, ⟨⟨r1.1, ?_⟩, fun _ => Iff.rfl⟩, ⟨r2.os, r2.tape, r2.output, r2.size, fun k hk _ => r2.block k hk (by simp), fun k hk => .inr (hlt k hk).1⟩⟩
      rcases r1.2 with h | ⟨g, cap, cur, h⟩
      · exact .inl h
      · exact .inr ⟨g, cap, cur, h.1, Nat.zero_le _, h.2.2⟩
theorem step_append_row {P : Program} {ops : Array Oper} {o : Oper} {a : Act} {w : World} {K : Act -> World -> Prop} {Q : Exit -> Act -> World -> Prop} {E : Prop}
 (hg : o.guard = none) (s x : Operand) (t : TypeId) (hop : o.op = Op.call { callee := Callee.builtin Builtin.append, args := #[s, x], argTypes := #[t, t] })
 (e : TypeId) (i : TypeInfo) (z : Value) (size bytes : Nat) (h1 : P.underlying t = some (.slice e)) (h2 : P.info? e = some i) (h3 : i.zero = some z) (h4 : i.size = size) (h5 : i.bytes = bytes) (h6 : z.cells.size = size) (h7 : 0 < size)
 {T : Nat -> Prop} (v : Value) (n : Nat) (xs : List Value) (hs : a.eval s = v) (hrow : Row w e size T v n xs)
 (ao : Option Addr) (m c : Nat) (news : List Value) (hx : a.eval x = .slice ao m c) (hno : ao = none -> m = 0 /\ c = 0) (hn : news.length = m * size) (hc : ∀ a, ao = some a -> ∀ j u, news[j]? = some u -> w.cell? (a.add j) = some u) (h1c : ∀ u ∈ news, u.oneCell' = true)
 (b1 : n + m <= maxLen) (b2 : (n + m) * bytes <= 140737488355328)
 (hK : ∀ v' w' T', Row w' e size T' v' (n + m) (xs ++ news) -> Step T T' w w' -> K (a.put o.dst v') w') :
 if Region.wanted o (yielded ops a.tmps) = true then Oper.wp P o a w K Q else E := by
 have hw : Region.wanted o (yielded ops a.tmps) = true := by simp [Region.wanted, hg]
 rw [if_pos hw]
 obtain ⟨v', w', T', hrun, r1, r2⟩ := run_append_row (P := P) w t o.type e i z size bytes h1 h2 h3 h4 h5 h6 h7 v n xs hrow ao m c news hno hn hc h1c b1 b2
 unfold Oper.wp
 simp [execOp, hop, resolve, invoke, builtin, hs, hx, hrun, Result.andThen]
 exact hK v' w' T' r1 r2
theorem wpList_append_row {P : Program} {w : World} {ops : Array Oper} {rest : List Oper} {o : Oper} {a : Act} {Q : Exit -> Act -> World -> Prop} (hgd : o.guard = none) (s x : Operand) (t : TypeId)
 (ho : o.op = .call { callee := .builtin .append, args := #[s, x], argTypes := #[t, t] })
 (e : TypeId) (i : TypeInfo) (z : Value) (size bytes : Nat) (h1 : P.underlying t = some (.slice e)) (h2 : P.info? e = some i) (h3 : i.zero = some z) (h4 : i.size = size) (h5 : i.bytes = bytes) (h6 : z.cells.size = size) (h7 : 0 < size)
 {T : Nat -> Prop} (v : Value) (n : Nat) (xs : List Value) (hs : a.eval s = v) (hrow : Row w e size T v n xs)
 (ao : Option Addr) (m c : Nat) (news : List Value) (hx : a.eval x = .slice ao m c) (hno : ao = none -> m = 0 /\ c = 0) (hn : news.length = m * size) (hc : ∀ a, ao = some a -> ∀ j u, news[j]? = some u -> w.cell? (a.add j) = some u) (h1c : ∀ u ∈ news, u.oneCell' = true)
 (b1 : n + m <= maxLen) (b2 : (n + m) * bytes <= 140737488355328)
 (h : ∀ v' w' T', Row w' e size T' v' (n + m) (xs ++ news) -> Step T T' w w' -> wpList P ops Q rest (a.put o.dst v') w') : wpList P ops Q (o :: rest) a w := by
 refine wpList_plain hgd fun K hK => ?_
 obtain ⟨v', w', T', hrun, r1, r2⟩ := run_append_row (P := P) w t o.type e i z size bytes h1 h2 h3 h4 h5 h6 h7 v n xs hrow ao m c news hno hn hc h1c b1 b2
 unfold Oper.wp
 simp [execOp, ho, resolve, invoke, builtin, hs, hx, hrun, Result.andThen]
 exact hK _ _ (h v' w' T' r1 r2)
theorem cell_new_byte (w : World) (c : UInt8) (t : TypeId) : ∀ a, some (⟨w.heap.size, 0, none⟩ : Addr) = some a -> ∀ j u, [byteV c][j]? = some u -> (w.alloc (.cells #[.int .u8 (c.toNat : Int)] t)).cell? (a.add j) = some u := by
 intro a ha j u hj
 cases ha
 match j, hj with
 | 0, hj => simp at hj; subst hj; simp [Addr.add, byteV]
def View (w : World) (S : Nat -> Prop) (ao : Option Addr) (l : List UInt8) : Prop :=
 l = [] \/ ∃ b o, ao = some ⟨b, o, none⟩ /\ S b /\ b < w.heap.size /\ ∀ j, j < l.length -> w.cell? ⟨b, o + j, none⟩ = some (.int .u8 ((l.getD j 0).toNat : Int))
theorem View.step {w w' : World} {S T U : Nat -> Prop} {ao : Option Addr} {l : List UInt8} (h : View w S ao l) (g : Step T U w w') (hd : Dis S T) : View w' S ao l := by
 rcases h with h | ⟨b, o, e, hS, hb, hc⟩
 · exact .inl h
 · exact .inr ⟨b, o, e, hS, Nat.lt_of_lt_of_le hb g.size, fun j hj => (World.cell?_of_block (w := w) (g.block b hb (hd b hS))).trans (hc j hj)⟩
theorem View.live {w : World} {D : Nat -> Prop} {ao : Option Addr} {l : List UInt8} (h : View w D ao l) : View w (fun k => D k /\ k < w.heap.size) ao l := by
 rcases h with h | ⟨b, o, e, hS, hb, hc⟩
 · exact .inl h
 · exact .inr ⟨b, o, e, ⟨hS, hb⟩, hb, hc⟩
theorem Dis.step {D S T : Nat -> Prop} {w w' : World} (hd : Dis D S) (hs : Step S T w w') : Dis (fun k => D k /\ k < w.heap.size) T :=
 fun k hk ht => (hs.new k ht).elim (hd k hk.1) (fun h => absurd hk.2 (by omega))
theorem Dis.symm {S T : Nat -> Prop} (h : Dis S T) : Dis T S := fun k ht hs => h k hs ht
theorem Dis.grow {S T U : Nat -> Prop} {w w' : World} (hd : Dis S U) (hu : ∀ k, U k -> k < w.heap.size) (hs : Step S T w w') : Dis T U :=
 fun k ht hk => (hs.new k ht).elim (fun h => hd k h hk) (fun h => absurd (hu k hk) (by omega))
theorem Step.from {S T : Nat -> Prop} {w w' : World} {B : Nat} (hs : Step S T w w') (h : ∀ k, S k -> B <= k) (hB : B <= w.heap.size) : ∀ k, T k -> B <= k :=
 fun k ht => (hs.new k ht).elim (h k) (fun g => Nat.le_trans hB g)
theorem Row.view {w : World} {e : TypeId} {T : Nat -> Prop} {ao : Option Addr} {n cap : Nat} {l : List UInt8} (h : Row w e 1 T (.slice ao n cap) n (l.map byteV)) : View w T ao l := by
 have hl : l.length = n := by simpa using h.own.1
 obtain ⟨ao', cap', hv, _, _, h0, h1⟩ := h.form
 simp only [Value.slice.injEq, true_and] at hv
 obtain ⟨rfl, rfl⟩ := hv
 cases ao with
 | none => have := (h0 rfl).1; exact .inl (List.eq_nil_of_length_eq_zero (by omega))
 | some a =>
  obtain ⟨g, rfl, hT⟩ := h1 a rfl
  refine .inr ⟨g, 0, rfl, hT, h.lt g hT, fun j hj => ?_⟩
  rw [Nat.zero_add, h.cells j (by rw [Nat.mul_one]; omega)]
  simp [byteV, hj]
theorem Step.pre {S S' T : Nat -> Prop} {w w1 w2 : World} (h : Step (fun _ => False) T w w1) (g : Step S S' w1 w2) : Step S S' w w2 :=
 ⟨g.os.trans h.os, g.tape.trans h.tape, g.output.trans h.output, Nat.le_trans h.size g.size, fun k hk hs => (g.block k (Nat.lt_of_lt_of_le hk h.size) hs).trans (h.block k hk (fun h => h)), fun k hk => (g.new k hk).imp id (Nat.le_trans h.size)⟩
end Go.Own
end
section
namespace Go.Own
open Go.RowKit
structure Asn where
 holds : (Nat -> Prop) -> World -> Prop
 keep : ∀ {S T U : Nat -> Prop} {w w' : World}, holds S w -> Step T U w w' -> Dis S T -> holds S w'
 lt : ∀ {S : Nat -> Prop} {w : World}, holds S w -> ∀ k, S k -> k < w.heap.size
def Apart (w : World) : List Asn -> (Nat -> Prop) -> Prop
 | [], S => ∀ k, ¬ S k
 | P :: Ps, S => ∃ S1 S2, P.holds S1 w /\ Apart w Ps S2 /\ Dis S1 S2 /\ ∀ k, S k ↔ (S1 k \/ S2 k)
theorem Apart.lt {w : World} : ∀ {Ps : List Asn} {S : Nat -> Prop}, Apart w Ps S -> ∀ k, S k -> k < w.heap.size
 | [], _, h, k, hk => absurd hk (h k)
 | P :: _, _, ⟨_, _, h1, h2, _, h4⟩, k, hk => ((h4 k).1 hk).elim (P.lt h1 k) (fun h => h2.lt k h)
theorem Apart.keep {w w' : World} {T U : Nat -> Prop} (g : Step T U w w') : ∀ {Ps : List Asn} {S : Nat -> Prop}, Apart w Ps S -> Dis S T -> Apart w' Ps S
 | [], _, h, _ => h
 | P :: _, _, ⟨S1, S2, h1, h2, h3, h4⟩, hd => ⟨S1, S2, P.keep h1 g (fun k hk => hd k ((h4 k).2 (.inl hk))), h2.keep g (fun k hk => hd k ((h4 k).2 (.inr hk))), h3, h4⟩
theorem Apart.at {w : World} : ∀ {Ps : List Asn} {S : Nat -> Prop} (i : Nat) {P : Asn}, Apart w Ps S -> Ps[i]? = some P ->
 ∃ Si, P.holds Si w /\ (∀ k, Si k -> S k) /\ (∀ (j : Nat) (R : Asn), j ≠ i -> Ps[j]? = some R -> ∃ Sj, R.holds Sj w /\ Dis Sj Si) /\
  ∀ (S' : Nat -> Prop) (w' : World) (Q : Asn), Q.holds S' w' -> Step Si S' w w' -> ∃ S'', Apart w' (Ps.set i Q) S'' /\ (∀ k, S'' k -> S k \/ S' k)
 | [], _, i, _, _, hi => by simp at hi
 | P :: Ps, S, 0, P', ⟨S1, S2, h1, h2, h3, h4⟩, hi => by
  obtain rfl : P = P' := by simpa using hi
  refine ⟨S1, h1, fun k hk => (h4 k).2 (.inl hk), fun j R hj hR => ?_, fun S' w' Q hQ hs => ⟨fun k => S' k \/ S2 k, ⟨S', S2, hQ, h2.keep hs h3.symm, h3.grow h2.lt hs, fun k => Iff.rfl⟩, fun k hk => hk.elim .inr (fun h => .inl ((h4 k).2 (.inr h)))⟩⟩
  match j, hj with
  | j + 1, _ =>
   obtain ⟨Sj, g1, g2, _⟩ := h2.at j (by simpa using hR)
   exact ⟨Sj, g1, fun k hk hk' => h3 k hk' (g2 k hk)⟩
 | P :: Ps, S, i + 1, P', ⟨S1, S2, h1, h2, h3, h4⟩, hi => by
  obtain ⟨Si, g1, g2, g4, g3⟩ := h2.at i (by simpa using hi)
  refine ⟨Si, g1, fun k hk => (h4 k).2 (.inr (g2 k hk)), fun j R hj hR => ?_, fun S' w' Q hQ hs => ?_⟩
  · match j, hj with
    | 0, _ =>
     obtain rfl : P = R := by simpa using hR
     exact ⟨S1, h1, fun k hk hk' => h3 k hk (g2 k hk')⟩
    | j + 1, hj => exact g4 j R (by omega) (by simpa using hR)
  obtain ⟨S'', k1, k2⟩ := g3 S' w' Q hQ hs
  have hd : Dis S1 Si := fun k hk hk' => h3 k hk (g2 k hk')
  have hd' : Dis S1 S' := (hd.symm.grow (P.lt h1) hs).symm
  exact ⟨fun k => S1 k \/ S'' k, ⟨S1, S'', P.keep h1 hs hd, k1, fun k hk hk' => (k2 k hk').elim (h3 k hk) (hd' k hk), fun k => Iff.rfl⟩, fun k hk => hk.elim (fun h => .inl ((h4 k).2 (.inl h))) (fun h => (k2 k h).imp (fun g => (h4 k).2 (.inr g)) id)⟩
structure St (B : Nat) (w0 w : World) (Ps : List Asn) : Prop where
 below : Below B w0 w
 size : B <= w.heap.size
 own : ∃ S, Apart w Ps S /\ ∀ k, S k -> B <= k
theorem St.start (w : World) : St w.heap.size w w [] := ⟨Below.refl _ _, Nat.le_refl _, fun _ => False, fun _ h => h, fun _ h => h.elim⟩
section
variable {B : Nat} {w0 w w' : World} {Ps : List Asn}
theorem St.at (h : St B w0 w Ps) (i : Nat) {P : Asn} (hi : Ps[i]? = some P) :
 ∃ Si, P.holds Si w /\ (∀ k, Si k -> B <= k) /\ ∀ (S' : Nat -> Prop) (w' : World) (Q : Asn), Q.holds S' w' -> Step Si S' w w' -> St B w0 w' (Ps.set i Q) := by
 obtain ⟨hb, hs, S, ha, hB⟩ := h
 obtain ⟨Si, g1, g2, _, g3⟩ := ha.at i hi
 refine ⟨Si, g1, fun k hk => hB k (g2 k hk), fun S' w' Q hQ hst => ?_⟩
 obtain ⟨S'', k1, k2⟩ := g3 S' w' Q hQ hst
 exact ⟨hb.trans (hst.below hs (fun k hk => hB k (g2 k hk))), Nat.le_trans hs hst.size, S'', k1, fun k hk => (k2 k hk).elim (hB k) (fun g => (hst.new k g).elim (fun g => hB k (g2 k g)) (Nat.le_trans hs))⟩
theorem St.at2 (h : St B w0 w Ps) (i j : Nat) (hij : j ≠ i) {P R : Asn} (hi : Ps[i]? = some P) (hj : Ps[j]? = some R) :
 ∃ Si Sj, P.holds Si w /\ R.holds Sj w /\ Dis Sj Si /\ (∀ k, Si k -> B <= k) /\ ∀ (S' : Nat -> Prop) (w' : World) (Q : Asn), Q.holds S' w' -> Step Si S' w w' -> St B w0 w' (Ps.set i Q) := by
 obtain ⟨hb, hs, S, ha, hB⟩ := h
 obtain ⟨Si, g1, g2, g4, g3⟩ := ha.at i hi
 obtain ⟨Sj, f1, f2⟩ := g4 j R hij hj
 refine ⟨Si, Sj, g1, f1, f2, fun k hk => hB k (g2 k hk), fun S' w' Q hQ hst => ?_⟩
 obtain ⟨S'', k1, k2⟩ := g3 S' w' Q hQ hst
 exact ⟨hb.trans (hst.below hs (fun k hk => hB k (g2 k hk))), Nat.le_trans hs hst.size, S'', k1, fun k hk => (k2 k hk).elim (hB k) (fun g => (hst.new k g).elim (fun g => hB k (g2 k g)) (Nat.le_trans hs))⟩
theorem St.more (h : St B w0 w Ps) (i : Nat) {P : Asn} (hi : Ps[i]? = some P) :
 ∃ Si, P.holds Si w /\ ∀ (S' T' : Nat -> Prop) (w' : World) (Q R : Asn), Q.holds S' w' -> R.holds T' w' -> Step Si S' w w' -> (∀ k, T' k -> w.heap.size <= k) -> (∀ k, S' k -> k < w.heap.size) -> St B w0 w' (R :: Ps.set i Q) := by
 obtain ⟨hb, hs, S, ha, hB⟩ := h
 obtain ⟨Si, g1, g2, _, g3⟩ := ha.at i hi
 refine ⟨Si, g1, fun S' T' w' Q R hQ hR hst hT hS' => ?_⟩
 obtain ⟨S'', k1, k2⟩ := g3 S' w' Q hQ hst
 refine ⟨hb.trans (hst.below hs (fun k hk => hB k (g2 k hk))), Nat.le_trans hs hst.size, fun k => T' k \/ S'' k, ⟨T', S'', hR, k1, fun k ht hk => ?_, fun k => Iff.rfl⟩, fun k hk => ?_⟩
 · have := hT k ht
   exact (k2 k hk).elim (fun g => by have := ha.lt k g; omega) (fun g => by have := hS' k g; omega)
 · exact hk.elim (fun g => Nat.le_trans hs (hT k g)) (fun g => (k2 k g).elim (hB k) (fun g => (hst.new k g).elim (fun g => hB k (g2 k g)) (Nat.le_trans hs)))
theorem St.new (h : St B w0 w Ps) {S' : Nat -> Prop} (Q : Asn) (hQ : Q.holds S' w') (hst : Step (fun _ => False) S' w w') : St B w0 w' (Q :: Ps) := by
 obtain ⟨hb, hs, S, ha, hB⟩ := h
 refine ⟨hb.trans (hst.below hs (fun _ h => h.elim)), Nat.le_trans hs hst.size, fun k => S' k \/ S k, ⟨S', S, hQ, ha.keep hst (fun _ _ h => h), fun k h1 h2 => (hst.new k h1).elim (fun h => h) (fun h => by have := ha.lt k h2; omega), fun k => Iff.rfl⟩, fun k hk => hk.elim (fun h => (hst.new k h).elim (fun h => h.elim) (Nat.le_trans hs)) (hB k)⟩
theorem St.quiet (h : St B w0 w Ps) {T : Nat -> Prop} (hst : Step (fun _ => False) T w w') : St B w0 w' Ps := by
 obtain ⟨hb, hs, S, ha, hB⟩ := h
 exact ⟨hb.trans (hst.below hs (fun _ h => h.elim)), Nat.le_trans hs hst.size, S, ha.keep hst (fun _ _ h => h), hB⟩
theorem St.alloc (h : St B w0 w Ps) (o : Obj) : St B w0 (w.alloc o) Ps := h.quiet ((Step.refl (fun _ => False) w).alloc o)
theorem St.drew (h : St B w0 w Ps) : St B w0 w.drew Ps := h.quiet ((Step.refl (fun _ => False) w).drew)
theorem St.drewN (h : St B w0 w Ps) (n : Nat) : St B w0 (w.drewN n) Ps := h.quiet ((Step.refl (fun _ => False) w).drewN n)
theorem Apart.drop {w : World} : ∀ {Ps : List Asn} {S : Nat -> Prop} (n : Nat), Apart w Ps S -> ∃ S', Apart w (Ps.drop n) S' /\ ∀ k, S' k -> S k
 | Ps, S, 0, h => ⟨S, by simpa using h, fun _ h => h⟩
 | [], S, n + 1, h => ⟨S, by simpa using h, fun _ h => h⟩
 | _ :: _, _, n + 1, ⟨_, _, _, h2, _, h4⟩ => by
  obtain ⟨S', g1, g2⟩ := h2.drop n
  exact ⟨S', by simpa using g1, fun k hk => (h4 k).2 (.inr (g2 k hk))⟩
theorem St.drop (h : St B w0 w Ps) (n : Nat) : St B w0 w (Ps.drop n) := by
 obtain ⟨hb, hs, S, ha, hB⟩ := h
 obtain ⟨S', g1, g2⟩ := ha.drop n
 exact ⟨hb, hs, S', g1, fun k hk => hB k (g2 k hk)⟩
end
theorem View.below {w w' : World} {B : Nat} {ao : Option Addr} {l : List UInt8} (h : View w (fun k => k < B) ao l) (g : Below B w w') : View w' (fun k => k < B) ao l := by
 rcases h with h | ⟨b, o, e, hS, hb, hc⟩
 · exact .inl h
 · exact .inr ⟨b, o, e, hS, Nat.lt_of_lt_of_le hb g.size, fun j hj => (World.cell?_of_block (w := w) (g.block b hS)).trans (hc j hj)⟩
theorem View.same {w w' : World} {B : Nat} {ao : Option Addr} {l : List UInt8} (h : View w (fun k => k < B) ao l) (g : ∀ k, k < B -> w'.heap[k]? = w.heap[k]?) : View w' (fun k => k < B) ao l := by
 rcases h with h | ⟨b, o, e, hS, hb, hc⟩
 · exact .inl h
 · refine .inr ⟨b, o, e, hS, ?_, fun j hj => (World.cell?_of_block (w := w) (g b hS)).trans (hc j hj)⟩
   have := g b hS
   rw [Array.getElem?_eq_getElem hb] at this
   exact (Array.getElem?_eq_some_iff.1 this).1
theorem Below.both {B : Nat} {W w w' : World} (h : Below B W w) (g : Below B W w') : ∀ k, k < B -> w'.heap[k]? = w.heap[k]? := fun k hk => (g.block k hk).trans (h.block k hk).symm
theorem View.mono {w : World} {D D' : Nat -> Prop} {ao : Option Addr} {l : List UInt8} (h : View w D ao l) (hd : ∀ k, D k -> D' k) : View w D' ao l := by
 rcases h with h | ⟨b, o, e, hS, hb, hc⟩
 · exact .inl h
 · exact .inr ⟨b, o, e, hd b hS, hb, hc⟩
def ARow (e : TypeId) (size : Nat) (v : Value) (n : Nat) (xs : List Value) : Asn where
 holds S w := Row w e size S v n xs
 keep h g hd := h.step g hd
 lt h := h.lt
def ABlk (b : Nat) (o : Obj) : Asn where
 holds S w := w.heap[b]? = some o /\ ∀ k, S k ↔ k = b
 keep h g hd := ⟨(g.block _ (lt_of_block h.1) (hd _ ((h.2 _).2 rfl))).trans h.1, h.2⟩
 lt h k hk := by rw [(h.2 k).1 hk]; exact lt_of_block h.1
theorem St.block {B : Nat} {w0 w : World} {Ps : List Asn} (h : St B w0 w Ps) (i : Nat) {b : Nat} {o : Obj} (hi : Ps[i]? = some (ABlk b o)) : w.heap[b]? = some o := by
 obtain ⟨S, hS, _⟩ := h.at i hi
 exact hS.1
theorem St.box {B : Nat} {w0 w : World} {Ps : List Asn} (h : St B w0 w Ps) (o : Obj) : St B w0 (w.alloc o) (ABlk w.heap.size o :: Ps) :=
 h.new (S' := fun k => k = w.heap.size) (ABlk w.heap.size o) ⟨heap_alloc_new w o, fun _ => Iff.rfl⟩ (((Step.refl (fun _ => False) w).alloc o).to (fun k hk => Or.inr (Nat.le_of_eq hk.symm)))
end Go.Own
end
section
namespace Go.Own
open Go.RowKit
theorem size_alloc' (w : World) (o : Obj) : (w.alloc o).heap.size = w.heap.size + 1 := by simp
def AVals (b : Nat) (t : TypeId) (vs : List Value) : Asn := ABlk b (.cells vs.toArray t (0, 0))
section
variable {B : Nat} {w0 w : World} {Ps : List Asn} {b : Nat} {t : TypeId} {vs : List Value}
theorem St.cellV (h : St B w0 w Ps) (i : Nat) (hi : Ps[i]? = some (AVals b t vs)) (j : Nat) {v : Value} (hj : vs[j]? = some v) : w.cell? ⟨b, j, none⟩ = some v /\ w.frozen? ⟨b, j, none⟩ = false := by
 have hb := h.block i hi
 exact ⟨cell_of_block hb (by simpa using hj), frozen_of_block hb⟩
theorem St.storeV (h : St B w0 w Ps) (i : Nat) (hi : Ps[i]? = some (AVals b t vs)) (j : Nat) (v : Value) : St B w0 (w.setCell ⟨b, j, none⟩ v) (Ps.set i (AVals b t (vs.set j v))) := by
 obtain ⟨S, hS, _, put⟩ := h.at i hi
 refine put S _ (AVals b t (vs.set j v)) ⟨?_, hS.2⟩ ((Step.refl S w).setCell (a := ⟨b, j, none⟩) (Or.inl ((hS.2 b).2 rfl)) _)
 rw [block_setCell hS.1]
 simp
theorem St.boxV (h : St B w0 w Ps) (t : TypeId) (vs : List Value) : St B w0 (w.alloc (.cells vs.toArray t)) (AVals w.heap.size t vs :: Ps) := h.box _
theorem St.setAll (i : Nat) : ∀ (r : List Value) (o : Nat) (w : World) (Ps : List Asn) (vs : List Value), St B w0 w Ps -> Ps[i]? = some (AVals b t vs) -> o + r.length = vs.length -> St B w0 (w.setCells b o r) (Ps.set i (AVals b t (vs.take o ++ r)))
 | [], o, w, Ps, vs, h, hi, hl => by
  have e : vs.take o ++ [] = vs := by rw [List.append_nil, List.take_of_length_le (by simp at hl; omega)]
  rw [e]
  have : Ps.set i (AVals b t vs) = Ps := by
   apply List.ext_getElem?
   intro j
   by_cases hj : j = i
   · subst hj
     have hlt : j < Ps.length := (List.getElem?_eq_some_iff.1 hi).1
     rw [List.getElem?_set_self hlt, hi]
   · rw [List.getElem?_set_ne (Ne.symm hj)]
  rw [this]
  exact h
 | v :: r, o, w, Ps, vs, h, hi, hl => by
  have hlt : i < Ps.length := (List.getElem?_eq_some_iff.1 hi).1
  have h1 := h.storeV i hi o v
  have h2 := St.setAll i r (o + 1) _ _ (vs.set o v) h1 (by rw [List.getElem?_set_self hlt]) (by simp at hl ⊢; omega)
  rw [List.set_set] at h2
  have e : (vs.set o v).take (o + 1) ++ r = vs.take o ++ v :: r := by
   have ho : o < vs.length := by simp at hl; omega
   have e0 : (vs.set o v).take o = vs.take o := by
    apply List.ext_getElem?
    intro j
    by_cases hj : j < o
    · rw [List.getElem?_take_of_lt hj, List.getElem?_take_of_lt hj, List.getElem?_set_ne (by omega)]
    · rw [List.getElem?_eq_none (by simp; omega), List.getElem?_eq_none (by simp; omega)]
   rw [List.take_succ_eq_append_getElem (by simpa using ho), e0]
   simp
  rw [e] at h2
  exact h2
theorem St.rowV (h : St B w0 w Ps) (i : Nat) (hi : Ps[i]? = some (AVals b t vs)) : w.heap[b]? = some (.cells vs.toArray t (0, 0)) := h.block i hi
theorem St.thereV (h : St B w0 w Ps) (i : Nat) (hi : Ps[i]? = some (AVals b t vs)) {n : Nat} (hn : n <= vs.length) : w.there b 0 n := by
 intro j hj
 obtain ⟨h1, h2⟩ := h.cellV i hi j (v := vs[j]) (by simp [show j < vs.length by omega])
 rw [Nat.zero_add]
 exact ⟨by rw [h1]; rfl, h2⟩
theorem St.later {w' : World} (h : St B w0 w Ps) (hb : Below w.heap.size w w') : St B w0 w' Ps :=
 h.quiet (T := fun _ => False) ⟨hb.os, hb.tape, hb.output, hb.size, fun k hk _ => hb.block k hk, fun _ h => h.elim⟩
theorem St.ltV (h : St B w0 w Ps) (i : Nat) (hi : Ps[i]? = some (AVals b t vs)) : B <= b /\ b < w.heap.size := by
 obtain ⟨S, hS, hB, _⟩ := h.at i hi
 exact ⟨hB b ((hS.2 b).2 rfl), lt_of_block hS.1⟩
end
end Go.Own
end
section
namespace Go.Own
open Go.RowKit
def strB (l : List UInt8) : ByteArray := ⟨l.toArray⟩
theorem strB_nums (l : List UInt8) : strOfNums (l.map fun c => (c.toNat : Int)) = strB l := by
 apply ByteArray.ext
 apply Array.toList_inj.1
 show (strOfNums _).data.toList = (strB l).data.toList
 rw [strOfNums_data, List.map_map]
 show _ = l
 conv => rhs; rw [<- List.map_id l]
 apply List.map_congr_left
 intro x _
 simp
theorem strB_toList (l : List UInt8) : (strB l).toList = l := by
 rw [Lib.toList_data]; rfl
theorem run_str {P : Program} {w : World} {D : Nat -> Prop} {ao : Option Addr} {l : List UInt8} (src e dst : TypeId) (hs : P.underlying src = some (.slice e)) (he : P.underlying e = some (.int .u8)) (hd : P.underlying dst = some .string) (h : View w D ao l) (cap : Nat) :
 (convert src dst (.slice ao l.length cap)).run P w = .ok (.string (strB l)) w := by
 cases ao with
 | none =>
  rcases h with rfl | ⟨b, o, h, _⟩
  · exact run_convert_bytes_nil w src e hs he _ _ dst hd
  · cases h
 | some a =>
  rcases h with rfl | ⟨b, o, h, _, _, hc⟩
  · rw [run_convert_bytes_string w src dst e _ _ _ hs he hd]
    have := run_bytesToString (P := P) w a 0 cap [] (by simp [loadCells, loadCellsFrom])
    exact this
  · cases h
    have := run_convert_bytes_arg (P := P) w src e hs he b o l.length cap (l.map fun c => (c.toNat : Int)) (by simp) (fun i hi => by rw [hc i hi]; simp [List.getD, hi]) dst hd
    rw [this, strB_nums]
end Go.Own
end
section
namespace Go.Own
open Go.RowKit Go.ChangeShapes Go.WideShapes Go.Deep
abbrev InT (α : Type) := α -> Nat -> World -> List Value -> Prop
def inInt (k : IntKind) : InT Int := fun n _ _ cs => cs = [.int k n] /\ (Lit.int k n).wf = true
def inBool : InT Bool := fun b _ _ cs => cs = [.bool b]
def inSlice {α : Type} (size : Nat) (R : InT α) : InT (List α) := fun xs B w cs =>
 ∃ ao cap, cs = [.slice ao xs.length cap] /\ xs.length <= cap /\ cap <= maxLen /\ (ao = none -> cap = 0) /\
  (xs = [] \/ ∃ b o, ao = some ⟨b, o, none⟩ /\ b < B /\ b < w.heap.size /\ ∀ i (hi : i < xs.length), ∃ cs', cs'.length = size /\ (∀ j, j < size -> w.cell? ⟨b, o + (i * size + j), none⟩ = cs'[j]?) /\ R xs[i] B w cs')
def inBytes : InT (List UInt8) := fun l B w cs =>
 ∃ ao cap, cs = [.slice ao l.length cap] /\ l.length <= cap /\ cap <= maxLen /\ (ao = none -> cap = 0) /\ View w (fun k => k < B) ao l
def Opens {α : Type} (P : Program) (t : TypeId) (R : InT α) : Prop :=
 ∀ (H : Type) (enc : TypeId × Value -> H) (w : World) (fuel : Nat) (cs : List Value) (x : DataW H × List MemPlace),
  DataW.trod enc P w 0 (fun _ => true) true fuel t cs = some x -> ∃ a, R a w.heap.size w cs
theorem opens_int {P : Program} {t : TypeId} {k : IntKind} (ht : P.underlying t = some (.int k)) : Opens P t (inInt k) := by
 intro H enc w fuel cs x h
 obtain ⟨n, rfl, _, hw⟩ := DataW.trod_int ht h
 exact ⟨n, rfl, hw⟩
theorem opens_bool {P : Program} {t : TypeId} (ht : P.underlying t = some .bool) : Opens P t inBool := by
 intro H enc w fuel cs x h
 obtain ⟨b, rfl, _⟩ := DataW.trod_bool ht h
 exact ⟨b, rfl⟩
theorem add_of (b o j : Nat) : (⟨b, o, none⟩ : Addr).add j = ⟨b, o + j, none⟩ := by unfold Addr.add; split <;> simp_all
theorem list_of {α : Type} {n : Nat} {p : Nat -> α -> Prop} (h : ∀ i, i < n -> ∃ x, p i x) : ∃ xs : List α, xs.length = n /\ ∀ i (hi : i < xs.length), p i xs[i] := by
 induction n with
 | zero => exact ⟨[], rfl, fun i hi => absurd hi (Nat.not_lt_zero _)⟩
 | succ n ih =>
  obtain ⟨xs, h1, h2⟩ := ih (fun i hi => h i (by omega))
  obtain ⟨x, hx⟩ := h n (by omega)
  refine ⟨xs ++ [x], by simp [h1], fun i hi => ?_⟩
  by_cases hin : i < xs.length
  · rw [List.getElem_append_left hin]; exact h2 i hin
  · have : i = n := by simp at hi; omega
    subst this
    rw [List.getElem_append_right (by omega)]
    simpa [h1] using hx
theorem opens_slice {α : Type} {P : Program} {t e : TypeId} {R : InT α} (size : Nat) (ht : P.underlying t = some (.slice e)) (hc : P.cellsOf e = size) (hpos : 0 < size) (hR : Opens P e R) : Opens P t (inSlice size R) := by
 intro H enc w fuel cs x h
 rcases open_slice ht h with ⟨rfl, _⟩ | ⟨a, len, cap, m, n, D, Pl, rfl, _, h1, h2, hm, _, hel⟩
 · exact ⟨[], none, 0, rfl, Nat.le_refl _, by unfold maxLen; omega, fun _ => rfl, .inl rfl⟩
 · simp only [if_true] at hm
   subst hm
   rw [hc] at hel
   obtain ⟨xs, k1, k2⟩ := list_of (n := len) (p := fun i (y : α) => ∃ cs', cs'.length = size /\ (∀ j, j < size -> w.cell? ((a.add (i * size)).add j) = cs'[j]?) /\ R y w.heap.size w cs') (fun i hi => by
    obtain ⟨cs', hcs, hd⟩ := hel i (by omega)
    obtain ⟨y, hy⟩ := hR H enc w n cs' _ hd
    obtain ⟨_, g1, g2⟩ := World.cells?_some hcs
    exact ⟨y, cs', g1, g2, hy⟩)
   subst k1
   refine ⟨xs, some a, m, rfl, h1, h2, fun h => by (cases h), ?_⟩
   rcases Nat.eq_zero_or_pos xs.length with hz | hz
   · exact .inl (List.eq_nil_of_length_eq_zero hz)
   · right
     obtain ⟨b, o, sp⟩ := a
     obtain ⟨cs', g1, g2, _⟩ := k2 0 hz
     have g3 := g2 0 hpos
     have e0 : ((⟨b, o, sp⟩ : Addr).add (0 * size)).add 0 = ⟨b, o, sp⟩ := by simp [Addr.add]
     rw [e0] at g3
     obtain ⟨u, hu⟩ : ∃ u, cs'[0]? = some u := ⟨cs'[0]'(by omega), by simp [show 0 < cs'.length by omega]⟩
     rw [hu] at g3
     have hsp : sp = none := by
      cases sp with
      | none => rfl
      | some s =>
       unfold World.cell? at g3
       split at g3 <;> simp at g3
     subst hsp
     have hlt := World.block_lt_of_cell? w _ g3
     refine ⟨b, o, rfl, hlt, hlt, fun i hi => ?_⟩
     obtain ⟨cs'', f1, f2, f3⟩ := k2 i hi
     exact ⟨cs'', f1, fun j hj => by rw [<- f2 j hj, add_of, add_of, Nat.add_assoc], f3⟩
theorem opens_bytes {P : Program} {t e : TypeId} (ht : P.underlying t = some (.slice e)) (he : P.underlying e = some (.int .u8)) (hc : P.cellsOf e = 1) : Opens P t inBytes := by
 intro H enc w fuel cs x h
 obtain ⟨zs, ao, cap, h1, h2, h3, h4, h5⟩ := opens_slice 1 ht hc (by decide) (opens_int he) H enc w fuel cs x h
 refine ⟨zs.map fun z => UInt8.ofNat z.toNat, ao, cap, by simpa using h1, by simpa using h2, h3, h4, ?_⟩
 rcases h5 with rfl | ⟨b, o, e, hb, hs, hcell⟩
 · exact .inl rfl
 · refine .inr ⟨b, o, e, hb, hs, fun j hj => ?_⟩
   rw [List.length_map] at hj
   obtain ⟨cs', g1, g2, g3, g4⟩ := hcell j hj
   subst g3
   have := g2 0 (by decide)
   rw [Nat.mul_one, Nat.add_zero] at this
   rw [this]
   have hw : 0 <= zs[j] /\ zs[j] <= 255 := by simpa [Lit.wf, IntKind.min, IntKind.max, IntKind.signed, IntKind.bits] using g4
   have e2 : ((zs.map fun z => UInt8.ofNat z.toNat).getD j 0) = UInt8.ofNat zs[j].toNat := by simp [List.getD, hj]
   rw [e2]
   simp
   omega
theorem opens_fields {P : Program} {t : TypeId} {fs : Array Field} {H : Type} {enc : TypeId × Value -> H} {w : World} {fuel : Nat} {cs : List Value} {x : DataW H × List MemPlace} (ht : P.underlying t = some (.struct fs))
 (h : DataW.trod enc P w 0 (fun _ => true) true fuel t cs = some x) :
 cs.length = P.cellsOf t /\ ∀ (i : Nat) (f : Field), fs[i]? = some f -> ∃ n y, DataW.trod enc P w 0 (fun _ => true) true n f.type ((cs.drop f.offset).take (P.cellsOf f.type)) = some y := by
 obtain ⟨xs, n, _, _, hl, hlen, hf⟩ := DataW.trod_struct ht h
 refine ⟨hl, fun i f hi => ?_⟩
 have := hf i f hi
 have hlt : i < xs.length := by rw [hlen]; exact (Array.getElem?_eq_some_iff.1 hi).1
 rw [List.getElem?_eq_getElem hlt] at this
 exact ⟨n, _, this⟩
end Go.Own
end
section
namespace Go.Proofs.YtahjjcmeocibbaaGreatDoor
open Go.RowKit Go.Own
namespace Byt
theorem infoU8 : (Tryz.prog.info? 5).map (fun i => (i.zero, i.size, i.bytes)) = some (some (.int .u8 0), 1, 1) := by kernel_rfl
theorem vat {w : World} {D : Nat -> Prop} {ao : Option Addr} {l : List UInt8} (hV : View w D ao l) {k : Nat} (hk : k < l.length) :
 ∃ b o, ao = some ⟨b, o, none⟩ /\ D b /\ b < w.heap.size /\ w.cell? ⟨b, o + k, none⟩ = some (.int .u8 ((l.getD k 0).toNat : Int)) := by
 rcases hV with h | ⟨b, o, e, h1, h2, h3⟩
 · rw [h] at hk; simp at hk
 · exact ⟨b, o, e, h1, h2, h3 k hk⟩
theorem vcells {w : World} {D : Nat -> Prop} {ao : Option Addr} {bs : List UInt8} (h : View w D ao bs) : ∀ a, ao = some a -> ∀ j u, (bs.map byteV)[j]? = some u -> w.cell? (a.add j) = some u := by
 intro a ha j u hu
 have hj := (List.getElem?_eq_some_iff.1 hu).1
 rw [List.length_map] at hj
 rcases h with rfl | ⟨b, o, hab, _, _, hc⟩
 · simp at hj
 · rw [ha] at hab
   cases hab
   have e : (⟨b, o, none⟩ : Addr).add j = ⟨b, o + j, none⟩ := by unfold Addr.add; split <;> simp_all
   rw [e, hc j hj]
   rw [<- hu]
   simp [byteV, hj]
theorem vlater {w w' : World} {D : Nat -> Prop} {ao : Option Addr} {l : List UInt8} (h : View w D ao l) (g : Below w.heap.size w w') : View w' D ao l := by
 rcases h with h | ⟨b, o, e, hS, hb, hc⟩
 · exact .inl h
 · exact .inr ⟨b, o, e, hS, Nat.lt_of_lt_of_le hb g.size, fun j hj => (World.cell?_of_block (w := w) (g.block b hb)).trans (hc j hj)⟩
def AB (ao : Option Addr) (n cap : Nat) (l : List UInt8) : Asn := ARow 5 1 (.slice ao n cap) n (l.map byteV)
theorem AB.view {w : World} {S : Nat -> Prop} {ao : Option Addr} {n cap : Nat} {l : List UInt8} (h : (AB ao n cap l).holds S w) : View w S ao l := Row.view h
theorem AB.len {w : World} {S : Nat -> Prop} {ao : Option Addr} {n cap : Nat} {l : List UInt8} (h : (AB ao n cap l).holds S w) : l.length = n /\ n <= cap /\ cap <= maxLen /\ (ao = none -> n = 0 /\ cap = 0) := by
 obtain ⟨ao', cap', hv, h1, h2, h3, _⟩ := Row.form h
 simp only [Value.slice.injEq, true_and] at hv
 obtain ⟨rfl, rfl⟩ := hv
 exact ⟨by have := h.own.1; simpa using this, h1, h2, fun e => ⟨(h3 e).1, (h3 e).2.1⟩⟩
section
variable {B : Nat} {w0 w : World} {Ps : List Asn} {ao : Option Addr} {n cap : Nat} {l : List UInt8}
theorem ab_len (H : St B w0 w Ps) (i : Nat) (hi : Ps[i]? = some (AB ao n cap l)) : l.length = n /\ n <= cap /\ cap <= maxLen /\ (ao = none -> n = 0 /\ cap = 0) := by
 obtain ⟨S, hS, _⟩ := H.at i hi
 exact AB.len hS
theorem ab_view (H : St B w0 w Ps) (i : Nat) (hi : Ps[i]? = some (AB ao n cap l)) : View w (fun k => B <= k) ao l := by
 obtain ⟨S, hS, hB, _⟩ := H.at i hi
 exact (AB.view hS).mono hB
theorem ab_nil (H : St B w0 w Ps) : St B w0 w (AB none 0 0 [] :: Ps) :=
 H.new (S' := fun _ => False) (AB none 0 0 []) (Row.nil _ _ _) ((Step.refl (fun _ => False) w))
theorem ab_byte (H : St B w0 w Ps) (i : Nat) (hi : Ps[i]? = some (AB ao n cap l)) (j : Nat) (hj : j < n) :
 ∃ g, ao = some ⟨g, 0, none⟩ /\ w.cell? ⟨g, j, none⟩ = some (.int .u8 ((l.getD j 0).toNat : Int)) /\ w.frozen? ⟨g, j, none⟩ = false /\
  ∀ c : UInt8, St B w0 (w.setCell ⟨g, j, none⟩ (.int .u8 (c.toNat : Int))) (Ps.set i (AB ao n cap (l.set j c))) := by
 obtain ⟨S, hS, _, put⟩ := H.at i hi
 have hlen := (AB.len hS).1
 obtain ⟨hown, hset⟩ := hS
 rcases hown.2 with ⟨hv, rfl⟩ | ⟨g, cap', cur, hv, h0, hb, hnc, hcm, hcs, htake⟩
 · omega
 · simp only [Value.slice.injEq, true_and] at hv
   obtain ⟨rfl, rfl⟩ := hv
   simp only [Nat.mul_one] at hcs htake
   have hcur : cur[j]? = some (byteV (l.getD j 0)) := by
    have : (cur.toList.take n)[j]? = (l.map byteV)[j]? := by rw [htake]
    rw [List.getElem?_take_of_lt hj] at this
    rw [<- Array.getElem?_toList, this]
    simp [hlen, hj]
   refine ⟨g, rfl, cell_of_block hb hcur, frozen_of_block hb, fun c => ?_⟩
   refine put S _ (AB (some ⟨g, 0, none⟩) n cap (l.set j c)) ?_ ((Step.refl S w).setCell (a := ⟨g, j, none⟩) (Or.inl ((hset g).2 rfl)) _)
   have := (hown.stored j (byteV c)).1
   rw [<- List.map_set] at this
   exact ⟨this, hset⟩
theorem madeBytes (n : Nat) : (madeCells (Value.int .u8 0).cells (n * 1)).toList = (List.replicate n (0 : UInt8)).map byteV := by
 unfold madeCells
 apply List.ext_getElem?
 intro i
 by_cases hi : i < n
 · simp [hi, Value.cells, byteV, Nat.mod_one]
 · simp [hi]
theorem ab_make (H : St B w0 w Ps) (kl kc : IntKind) (n : Nat) (hn : n <= 1000000000) :
 ∃ w', (Instr.makeSlice 37 (.int kl (n : Int)) (.int kc (n : Int))).run Tryz.prog w = .ok (.slice (some ⟨w.heap.size, 0, none⟩) n n) w' /\ St B w0 w' (AB (some ⟨w.heap.size, 0, none⟩) n n (List.replicate n 0) :: Ps) := by
 obtain ⟨i0, hi, hz0, hz1, hz2⟩ := info_parts infoU8
 obtain ⟨w', hr, hown, hg⟩ := run_make_full (P := Tryz.prog) w 0 37 5 i0 (.int .u8 0) 1 Tryz.underlying37 hi hz0 hz1 kl kc n (by rw [hz2]; omega) (by unfold maxLen; omega) (Nat.zero_le _)
 rw [madeBytes] at hown
 refine ⟨w', hr, H.new (S' := fun k => k = w.heap.size) (AB _ n n _) ⟨hown, fun k => by simp [Value.ownBlock, eq_comm]⟩ ?_⟩
 exact ((Step.refl (fun _ => False) w).grown hg (by intro k hk; cases hk)).to (fun k hk => .inr (Nat.le_of_eq hk.symm))
theorem ab_append (H : St B w0 w Ps) (i : Nat) (hi : Ps[i]? = some (AB ao n cap l)) (ty : TypeId) (bo : Option Addr) (m c : Nat) (news : List UInt8) (hno : bo = none -> m = 0 /\ c = 0) (hl : news.length = m)
 (hc : ∀ a, bo = some a -> ∀ j u, (news.map byteV)[j]? = some u -> w.cell? (a.add j) = some u) (b1 : n + m <= 1000000000) :
 ∃ ao' cap' w', (Builtin.append_ #[37, 37] ty #[.slice ao n cap, .slice bo m c]).run Tryz.prog w = .ok (.slice ao' (n + m) cap') w' /\ St B w0 w' (Ps.set i (AB ao' (n + m) cap' (l ++ news))) := by
 obtain ⟨i0, hi0, hz0, hz1, hz2⟩ := info_parts infoU8
 obtain ⟨S, hS, _, put⟩ := H.at i hi
 obtain ⟨v', w', T', hr, hrow, hst⟩ := run_append_row (P := Tryz.prog) w 37 ty 5 i0 (.int .u8 0) 1 1 Tryz.underlying37 hi0 hz0 hz1 hz2 rfl (by decide) (.slice ao n cap) n (l.map byteV) hS bo m c (news.map byteV) hno (by rw [List.length_map, hl, Nat.mul_one]) hc (byteV_one _) (by unfold maxLen; omega) (by omega)
 obtain ⟨ao', cap', rfl, _⟩ := hrow.form
 rw [<- List.map_append] at hrow
 exact ⟨ao', cap', w', hr, put T' w' (AB ao' (n + m) cap' (l ++ news)) hrow hst⟩
theorem wpList_ab_append {ops : Array Oper} {rest : List Oper} {o : Oper} {a : Act} {Q : Exit -> Act -> World -> Prop} (hgd : o.guard = none) (s x : Operand)
 (ho : o.op = .call { callee := .builtin .append, args := #[s, x], argTypes := #[37, 37] }) (H : St B w0 w Ps) (i : Nat) (hi : Ps[i]? = some (AB ao n cap l)) (hs : a.eval s = .slice ao n cap)
 (bo : Option Addr) (m c : Nat) (news : List UInt8) (hx : a.eval x = .slice bo m c) (hno : bo = none -> m = 0 /\ c = 0) (hl : news.length = m)
 (hc : ∀ a, bo = some a -> ∀ j u, (news.map byteV)[j]? = some u -> w.cell? (a.add j) = some u) (b1 : n + m <= 1000000000)
 (h : ∀ ao' cap' w', St B w0 w' (Ps.set i (AB ao' (n + m) cap' (l ++ news))) -> wpList Tryz.prog ops Q rest (a.put o.dst (.slice ao' (n + m) cap')) w') : wpList Tryz.prog ops Q (o :: rest) a w := by
 refine wpList_plain hgd fun K hK => ?_
 obtain ⟨ao', cap', w', hrun, h1⟩ := ab_append H i hi o.type bo m c news hno hl hc b1
 unfold Oper.wp
 simp [execOp, ho, resolve, invoke, builtin, hs, hx, hrun, Result.andThen]
 exact hK _ _ (h ao' cap' w' h1)
theorem one_cells8 (w : World) (c : UInt8) (t : TypeId) : ∀ a, some (⟨w.heap.size, 0, none⟩ : Addr) = some a -> ∀ j u, ([c].map byteV)[j]? = some u -> (w.alloc (.cells #[.int .u8 (c.toNat : Int)] t)).cell? (a.add j) = some u := cell_new_byte w c t
end
def A8 (b : Nat) (t : TypeId) (l : List UInt8) : Asn := AVals b t (l.map byteV)
section
variable {B : Nat} {w0 w : World} {Ps : List Asn} {b : Nat} {t : TypeId} {l : List UInt8}
theorem A8.cell (h : St B w0 w Ps) (i : Nat) (hi : Ps[i]? = some (A8 b t l)) (j : Nat) (hj : j < l.length) : w.cell? ⟨b, j, none⟩ = some (.int .u8 ((l.getD j 0).toNat : Int)) /\ w.frozen? ⟨b, j, none⟩ = false :=
 h.cellV i hi j (by simp [byteV, hj])
theorem A8.store (h : St B w0 w Ps) (i : Nat) (hi : Ps[i]? = some (A8 b t l)) (j : Nat) (c : UInt8) : St B w0 (w.setCell ⟨b, j, none⟩ (.int .u8 (c.toNat : Int))) (Ps.set i (A8 b t (l.set j c))) := by
 have := h.storeV i hi j (byteV c)
 unfold A8
 rw [List.map_set]
 exact this
theorem A8.box (h : St B w0 w Ps) (t : TypeId) (l : List UInt8) : St B w0 (w.alloc (.cells (l.map byteV).toArray t)) (A8 w.heap.size t l :: Ps) := h.boxV t _
theorem A8.row (h : St B w0 w Ps) (i : Nat) (hi : Ps[i]? = some (A8 b t l)) : w.heap[b]? = some (.cells (l.map byteV).toArray t (0, 0)) := h.rowV i hi
theorem A8.there (h : St B w0 w Ps) (i : Nat) (hi : Ps[i]? = some (A8 b t l)) (r : List UInt8) (hl : r.length = l.length) : w.there b 0 (r.map byteV).toArray.size := h.thereV i hi (by simp [hl])
theorem A8.setAll (h : St B w0 w Ps) (i : Nat) (hi : Ps[i]? = some (A8 b t l)) (r : List UInt8) (hl : r.length = l.length) : St B w0 (w.setCells b 0 (r.map byteV).toArray.toList) (Ps.set i (A8 b t r)) := by
 have := Own.St.setAll i (r.map byteV) 0 w Ps (l.map byteV) h hi (by simp [hl])
 simpa [A8] using this
end
theorem one8 (l : List UInt8) : (l.map byteV).toArray.all (·.oneCell') = true := all_oneCell_toArray (fun v hv => byteV_one l v hv)
theorem info_sum (l : List UInt8) (h : l.length = 32) : (Tryz.prog.info? 47).map (·.size) = some (l.map byteV).toArray.size := by
 have e : (l.map byteV).toArray.size = 32 := by simp [h]
 have h0 : (Tryz.prog.info? 47).map (fun i => i.size) = some 32 := by kernel_rfl
 rw [e]
 exact h0
theorem wpList_want {P : Program} {ops : Array Oper} {rest : List Oper} {o : Oper} {a : Act} {w : World} {Q : Exit -> Act -> World -> Prop} (hw : Region.wanted o (yielded ops a.tmps) = true) (h : o.wp P a w (fun a' w' => wpList P ops Q rest a' w') Q) : wpList P ops Q (o :: rest) a w := by
 unfold wpList
 rw [if_pos hw]
 exact .inl h
theorem wpList_str8 {ops : Array Oper} {rest : List Oper} {o : Oper} {a : Act} {w : World} {Q : Exit -> Act -> World -> Prop} (hw : Region.wanted o (yielded ops a.tmps) = true) (x : Operand) (ho : o.op = .convert 37 9 x) (ao : Option Addr) (n cap : Nat) (hx : a.eval x = .slice ao n cap)
 (D : Nat -> Prop) (l : List UInt8) (hV : View w D ao l) (hn : l.length = n) (h : wpList Tryz.prog ops Q rest (a.put o.dst (.string (strB l))) w) : wpList Tryz.prog ops Q (o :: rest) a w := by
 refine wpList_want hw ?_
 subst hn
 have hc := run_str (P := Tryz.prog) 37 5 9 Tryz.underlying37 Tryz.underlying5 Tryz.underlying9 hV cap
 unfold Oper.wp execOp
 simp only [ho, hx, Sem.run_bind, hc, Result.andThen_ok, Sem.run_pure]
 exact h
theorem vtake {w : World} {D : Nat -> Prop} {ao : Option Addr} {l : List UInt8} (h : View w D ao l) (k : Nat) : View w D ao (l.take k) := by
 rcases h with rfl | ⟨b, o, e, hS, hb, hc⟩
 · exact .inl (by simp)
 · refine .inr ⟨b, o, e, hS, hb, fun j hj => ?_⟩
   have hj2 : j < l.length /\ j < k := by rw [List.length_take] at hj; omega
   rw [hc j hj2.1]
   simp [List.getD, hj2.2]
theorem vdrop {w : World} {D : Nat -> Prop} {b o : Nat} {l : List UInt8} (h : View w D (some ⟨b, o, none⟩) l) (k : Nat) : View w D (some ⟨b, o + k, none⟩) (l.drop k) := by
 rcases h with rfl | ⟨b', o', e, hS, hb, hc⟩
 · exact .inl (by simp)
 · cases e
   refine .inr ⟨b, o + k, rfl, hS, hb, fun j hj => ?_⟩
   rw [List.length_drop] at hj
   rw [Nat.add_assoc, hc (k + j) (by omega)]
   simp [List.getD, List.getElem?_drop]
theorem wpList_val {P : Program} {ops : Array Oper} {rest : List Oper} {o : Oper} {a : Act} {w : World} {Q : Exit -> Act -> World -> Prop} (hw : Region.wanted o (yielded ops a.tmps) = true) {v : Value} (hrun : (execOp a.eval o).run P w = .ok (.value v) w) (h : wpList P ops Q rest (a.put o.dst v) w) : wpList P ops Q (o :: rest) a w := by
 refine wpList_want hw ?_
 unfold Oper.wp
 rw [hrun]
 exact h
structure Cut (ao : Option Addr) (l : List UInt8) (a' : Option Addr) (l' : List UInt8) (m' c' : Nat) : Prop where
 view : ∀ w D, View w D ao l -> View w D a' l'
 len : l'.length = m'
 cap : m' <= c' /\ c' <= maxLen
 none : a' = none -> c' = 0
section
variable {ao : Option Addr} {l : List UInt8} {m cap : Nat}
theorem cutTo (k : Nat) (hl : l.length = m) (hk : k <= m) (hm : m <= cap) (hc : cap <= maxLen) (hno : ao = none -> cap = 0) :
 (∀ (o : Oper) (x y : Operand), o.op = .slice 37 x none (some y) none -> ∀ (ρ : Operand -> Value) w, ρ x = .slice ao m cap -> ρ y = .int .i64 (k : Int) -> (execOp ρ o).run Tryz.prog w = .ok (.value (.slice ao k cap)) w) /\ Cut ao l ao (l.take k) k cap := by
 refine ⟨fun o x y ho ρ w h0 h1 => ?_, fun w D h => vtake h k, by rw [List.length_take]; omega, ⟨by omega, hc⟩, hno⟩
 unfold maxLen at hc
 cases ao with
 | none =>
  obtain rfl := hno rfl
  obtain rfl : m = 0 := by omega
  obtain rfl : k = 0 := by omega
  simp [execOp, ho, h0, h1, go_sem]
 | some a =>
  simp [execOp, ho, h0, h1, go_sem]
  omega
theorem cutFrom (k : Nat) (hl : l.length = m) (hk : k <= m) (hm : m <= cap) (hc : cap <= maxLen) (hno : ao = none -> cap = 0) :
 ∃ a' c', (∀ (o : Oper) (x y : Operand), o.op = .slice 37 x (some y) none none -> ∀ (ρ : Operand -> Value) w, ρ x = .slice ao m cap -> ρ y = .int .i64 (k : Int) -> (execOp ρ o).run Tryz.prog w = .ok (.value (.slice a' (m - k) c')) w) /\ Cut ao l a' (l.drop k) (m - k) c' := by
 have hc0 := hc
 unfold maxLen at hc
 cases ao with
 | none =>
  obtain rfl := hno rfl
  obtain rfl : m = 0 := by omega
  obtain rfl : k = 0 := by omega
  exact ⟨none, 0, fun o x y ho ρ w h0 h1 => by simp [execOp, ho, h0, h1, go_sem], fun w D h => by simpa using h, by simp [hl], ⟨Nat.le_refl _, Nat.zero_le _⟩, fun _ => rfl⟩
 | some a =>
  by_cases hck : cap = k
  · refine ⟨some a, 0, fun o x y ho ρ w h0 h1 => ?_, fun w D h => .inl (List.drop_eq_nil_of_le (by omega)), by rw [List.length_drop, hl], ⟨by omega, Nat.zero_le _⟩, fun h => by cases h⟩
    simp [execOp, ho, h0, h1, go_sem]
    rw [if_pos hk, if_pos hck, hck]; simp
  · refine ⟨some (a.add k), cap - k, fun o x y ho ρ w h0 h1 => ?_, fun w D h => ?_, by rw [List.length_drop, hl], ⟨by omega, by omega⟩, fun h => by cases h⟩
    · simp [execOp, ho, h0, h1, go_sem]
      rw [if_pos hk, if_neg hck]
    · rcases h with h | ⟨b, o, e, h1, h2, h3⟩
      · exact .inl (by rw [h, List.drop_nil])
      · obtain rfl : a = ⟨b, o, none⟩ := by simpa using e
        rw [add_of]
        exact vdrop (.inr ⟨b, o, rfl, h1, h2, h3⟩) k
theorem cutMid (j k : Nat) (hl : l.length = m) (hjk : j <= k) (hk : k <= m) (hm : m <= cap) (hc : cap <= maxLen) (hno : ao = none -> cap = 0) :
 ∃ a' c', (∀ (o : Oper) (x y z : Operand), o.op = .slice 37 x (some y) (some z) none -> ∀ (ρ : Operand -> Value) w, ρ x = .slice ao m cap -> ρ y = .int .i64 (j : Int) -> ρ z = .int .i64 (k : Int) -> (execOp ρ o).run Tryz.prog w = .ok (.value (.slice a' (k - j) c')) w) /\ Cut ao l a' ((l.take k).drop j) (k - j) c' := by
 have hc0 := hc
 unfold maxLen at hc
 have hlk : ((l.take k).drop j).length = k - j := by rw [List.length_drop, List.length_take]; omega
 cases ao with
 | none =>
  obtain rfl := hno rfl
  obtain rfl : m = 0 := by omega
  obtain rfl : k = 0 := by omega
  obtain rfl : j = 0 := by omega
  exact ⟨none, 0, fun o x y z ho ρ w h0 h1 h2 => by simp [execOp, ho, h0, h1, h2, go_sem], fun w D h => .inl (by simp), hlk, ⟨Nat.le_refl _, Nat.zero_le _⟩, fun _ => rfl⟩
 | some a =>
  by_cases hck : cap = j
  · refine ⟨some a, 0, fun o x y z ho ρ w h0 h1 h2 => ?_, fun w D h => .inl (List.eq_nil_of_length_eq_zero (by omega)), hlk, ⟨by omega, Nat.zero_le _⟩, fun h => by cases h⟩
    simp [execOp, ho, h0, h1, h2, go_sem]
    rw [if_pos (by omega)]
    subst hck
    simp
    omega
  · refine ⟨some (a.add j), cap - j, fun o x y z ho ρ w h0 h1 h2 => ?_, fun w D h => ?_, hlk, ⟨by omega, by omega⟩, fun h => by cases h⟩
    · simp [execOp, ho, h0, h1, h2, go_sem]
      rw [if_pos (by omega)]
      simp [hck]
      omega
    · rcases vtake h k with h | ⟨b, o, e, h1, h2, h3⟩
      · exact .inl (by rw [h, List.drop_nil])
      · obtain rfl : a = ⟨b, o, none⟩ := by simpa using e
        rw [add_of]
        exact vdrop (.inr ⟨b, o, rfl, h1, h2, h3⟩) j
end
def lenV : Value -> Nat
 | .slice _ n _ => n
 | _ => 0
end Byt
end Go.Proofs.YtahjjcmeocibbaaGreatDoor
end
section
namespace Go.Proofs.YtahjjcmeocibbaaGreatDoor
open Go.RowKit Go.Own
namespace Byt
structure Given (w : World) (ao : Option Addr) (len cap : Nat) (l : List UInt8) : Prop where
 view : View w (fun k => k < w.heap.size) ao l
 size : l.length = len
 room : len <= cap /\ cap <= maxLen
 nil : ao = none -> cap = 0
theorem Given.later {w w' : World} {ao : Option Addr} {len cap : Nat} {l : List UInt8} (h : Given w ao len cap l) (g : Below w.heap.size w w') : Given w' ao len cap l :=
 ⟨(View.below h.view g).mono (fun k hk => by have := g.size; omega), h.size, h.room, h.nil⟩
theorem i64_in {a : Int} (h : (Lit.int .i64 a).wf = true) : -9223372036854775808 <= a /\ a <= 9223372036854775807 := by
 simp [Lit.wf, IntKind.min, IntKind.max, IntKind.signed, IntKind.bits] at h
 omega
def ones (c : UInt8) (N k : Nat) : List UInt8 := List.replicate k c ++ List.replicate (N - k) 0
theorem ones_zero (c : UInt8) (N : Nat) : ones c N 0 = List.replicate N 0 := by simp [ones]
theorem ones_all (c : UInt8) (N : Nat) : ones c N N = List.replicate N c := by simp [ones]
theorem ones_set (c : UInt8) (N k : Nat) (h : k < N) : (ones c N k).set k c = ones c N (k + 1) := by
 unfold ones
 obtain ⟨r, hr⟩ : ∃ r, N - k = r + 1 := ⟨N - k - 1, by omega⟩
 rw [hr, show N - (k + 1) = r by omega, List.replicate_succ, List.replicate_succ']
 simp
theorem u8_byte {a : Int} (h : (Lit.int .u8 a).wf = true) : ∃ c : UInt8, a = (c.toNat : Int) := by
 have h' : 0 <= a /\ a <= 255 := by simpa [Lit.wf, IntKind.min, IntKind.max, IntKind.signed, IntKind.bits] using h
 exact ⟨UInt8.ofNat a.toNat, by simp; omega⟩
theorem given_own {B : Nat} {w0 w : World} {Ps : List Asn} {ao : Option Addr} {n cap : Nat} {l : List UInt8} (H : St B w0 w Ps) (i : Nat) (hi : Ps[i]? = some (AB ao n cap l)) : Given w ao n cap l := by
 obtain ⟨h1, h2, h3, h4⟩ := ab_len H i hi
 exact ⟨(ab_view H i hi).live.mono (fun k hk => hk.2), h1, ⟨h2, h3⟩, fun h => (h4 h).2⟩
theorem given_nil {w : World} {ao : Option Addr} {n cap : Nat} {l : List UInt8} (h : Given w ao n cap l) : ao = none -> n = 0 /\ cap = 0 := fun e => ⟨by have := h.room.1; rw [h.nil e] at this; omega, h.nil e⟩
theorem two_cells (w : World) (c d : UInt8) (t : TypeId) : ∀ a, some (⟨w.heap.size, 0, none⟩ : Addr) = some a -> ∀ j u, ([c, d].map byteV)[j]? = some u -> (w.alloc (.cells #[.int .u8 (c.toNat : Int), .int .u8 (d.toNat : Int)] t)).cell? (a.add j) = some u := by
 intro a ha j u hj
 cases ha
 match j, hj with
 | 0, hj => simp at hj; subst hj; simp [Addr.add, byteV]
 | 1, hj => simp at hj; subst hj; simp [Addr.add, byteV]
theorem ab_one {B : Nat} {w0 w : World} {Ps : List Asn} (H : St B w0 w Ps) (c : UInt8) : St B w0 (w.alloc (.cells #[.int .u8 (c.toNat : Int)] 5)) (AB (some ⟨w.heap.size, 0, none⟩) 1 1 [c] :: Ps) :=
 H.new (S' := fun k => k = w.heap.size) (AB _ 1 1 [c]) (Row.made w #[.int .u8 (c.toNat : Int)] 5 1 1 (by unfold maxLen; omega) rfl) (((Step.refl (fun _ => False) w).alloc _).to (fun k hk => Or.inr (Nat.le_of_eq hk.symm)))
theorem vcell {w : World} {D : Nat -> Prop} {b o : Nat} {l : List UInt8} (h : View w D (some ⟨b, o, none⟩) l) {k : Nat} (hk : k < l.length) : w.cell? ⟨b, o + k, none⟩ = some (.int .u8 ((l.getD k 0).toNat : Int)) := by
 obtain ⟨b', o', e, _, _, hc⟩ := vat h hk
 cases e
 exact hc
theorem given_take {w : World} {ao : Option Addr} {n cap : Nat} {l : List UInt8} (h : Given w ao n cap l) (m : Nat) (hm : m <= n) : Given w ao m cap (l.take m) :=
 ⟨vtake h.view m, by rw [List.length_take, h.size]; omega, ⟨Nat.le_trans hm h.room.1, h.room.2⟩, h.nil⟩
theorem cellLater {W w : World} {a : Addr} {v : Value} (h : W.cell? a = some v) (hb : Below W.heap.size W w) : w.cell? a = some v := by
 rw [hb.cell (World.block_lt_of_cell? W a h)]; exact h
end Byt
end Go.Proofs.YtahjjcmeocibbaaGreatDoor
end
section
namespace Go.Own
open Go.RowKit
theorem Apart.iff {w : World} : ∀ {Ps : List Asn} {S T : Nat -> Prop}, Apart w Ps S -> (∀ k, S k ↔ T k) -> Apart w Ps T
 | [], _, _, h, e => fun k hk => h k ((e k).2 hk)
 | _ :: _, _, _, ⟨S1, S2, h1, h2, h3, h4⟩, e => ⟨S1, S2, h1, h2, h3, fun k => (e k).symm.trans (h4 k)⟩
theorem Apart.append {w : World} : ∀ {Ps Qs : List Asn} {S T : Nat -> Prop}, Apart w Ps S -> Apart w Qs T -> Dis S T -> Apart w (Ps ++ Qs) (fun k => S k \/ T k)
 | [], Qs, S, T, h, g, _ => g.iff fun k => ⟨.inr, fun x => x.elim (fun y => (h k y).elim) id⟩
 | P :: Ps, Qs, S, T, ⟨S1, S2, h1, h2, h3, h4⟩, g, hd => ⟨S1, fun k => S2 k \/ T k, h1, Apart.append h2 g (fun k hk => hd k ((h4 k).2 (.inr hk))), fun k hk hk' => hk'.elim (h3 k hk) (hd k ((h4 k).2 (.inl hk))), fun k => by show (S k \/ T k) ↔ (S1 k \/ S2 k \/ T k); rw [h4 k, or_assoc]⟩
theorem Apart.split {w : World} : ∀ {Ps Qs : List Asn} {S : Nat -> Prop}, Apart w (Ps ++ Qs) S -> ∃ S1 S2, Apart w Ps S1 /\ Apart w Qs S2 /\ Dis S1 S2 /\ ∀ k, S k ↔ (S1 k \/ S2 k)
 | [], Qs, S, h => ⟨fun _ => False, S, fun _ h => h, h, fun _ h => h.elim, fun k => ⟨.inr, fun x => x.elim (fun y => y.elim) id⟩⟩
 | P :: Ps, Qs, S, ⟨S1, S2, h1, h2, h3, h4⟩ => by
  obtain ⟨T1, T2, g1, g2, g3, g4⟩ := Apart.split h2
  exact ⟨fun k => S1 k \/ T1 k, T2, ⟨S1, T1, h1, g1, fun k hk hk' => h3 k hk ((g4 k).2 (.inl hk')), fun k => Iff.rfl⟩, g2, fun k hk hk' => hk.elim (fun x => h3 k x ((g4 k).2 (.inr hk'))) (fun x => g3 k x hk'), fun k => by rw [h4 k, g4 k, or_assoc]⟩
theorem erase_perm {α : Type _} : ∀ (l : List α) (i : Nat) (h : i < l.length), (l[i] :: l.eraseIdx i).Perm l
 | [], i, h => by simp at h
 | x :: l, 0, _ => List.Perm.refl _
 | x :: l, i + 1, h => by
  have h' : i < l.length := by simpa using h
  exact ((List.Perm.swap x l[i] (l.eraseIdx i))).trans ((erase_perm l i h').cons x)
theorem Apart.perm {w : World} {Ps Qs : List Asn} (h : Ps.Perm Qs) : ∀ {S : Nat -> Prop}, Apart w Ps S -> Apart w Qs S := by
 induction h with
 | nil => exact fun h => h
 | cons x _ ih => rintro S ⟨S1, S2, h1, h2, h3, h4⟩; exact ⟨S1, S2, h1, ih h2, h3, h4⟩
 | swap x y l =>
  rintro S ⟨S1, S2, h1, ⟨T1, T2, g1, g2, g3, g4⟩, h3, h4⟩
  refine ⟨T1, fun k => S1 k \/ T2 k, g1, ⟨S1, T2, h1, g2, fun k a b => h3 k a ((g4 k).2 (.inr b)), fun k => Iff.rfl⟩, fun k a b => b.elim (fun c => h3 k c ((g4 k).2 (.inl a))) (g3 k a), fun k => ?_⟩
  rw [h4 k, g4 k]
  constructor
  · rintro (a | a | a)
    · exact .inr (.inl a)
    · exact .inl a
    · exact .inr (.inr a)
  · rintro (a | a | a)
    · exact .inr (.inl a)
    · exact .inl a
    · exact .inr (.inr a)
 | trans _ _ ih1 ih2 => exact fun h => ih2 (ih1 h)
def AJoin (Qs : List Asn) : Asn := ⟨fun S w => Apart w Qs S, fun h g hd => h.keep g hd, fun h => h.lt⟩
section
variable {B : Nat} {w0 w w' : World} {Ps Qs : List Asn}
theorem St.perm (h : St B w0 w Ps) (e : Ps.Perm Qs) : St B w0 w Qs := by
 obtain ⟨hb, hs, S, ha, hB⟩ := h
 exact ⟨hb, hs, S, ha.perm e, hB⟩
theorem St.openJ (h : St B w0 w (AJoin Qs :: Ps)) : St B w0 w (Qs ++ Ps) := by
 obtain ⟨hb, hs, S, ⟨S1, S2, h1, h2, h3, h4⟩, hB⟩ := h
 exact ⟨hb, hs, _, Apart.append h1 h2 h3, fun k hk => hB k ((h4 k).2 hk)⟩
theorem St.closeJ (h : St B w0 w (Qs ++ Ps)) : St B w0 w (AJoin Qs :: Ps) := by
 obtain ⟨hb, hs, S, ha, hB⟩ := h
 obtain ⟨S1, S2, h1, h2, h3, h4⟩ := ha.split
 exact ⟨hb, hs, S, ⟨S1, S2, h1, h2, h3, h4⟩, hB⟩
theorem St.front (h : St B w0 w Ps) (i : Nat) {P : Asn} (hi : Ps[i]? = some P) : St B w0 w (P :: Ps.eraseIdx i) := by
 obtain ⟨hl, rfl⟩ := List.getElem?_eq_some_iff.1 hi
 exact h.perm (erase_perm Ps i hl).symm
theorem St.back {Q : Asn} (i : Nat) (hi : i < Ps.length) (h : St B w0 w (Q :: Ps.eraseIdx i)) : St B w0 w (Ps.set i Q) := by
 have hl : i < (Ps.set i Q).length := by simpa using hi
 have e := erase_perm (Ps.set i Q) i hl
 rw [List.getElem_set_self, List.eraseIdx_set_eq] at e
 exact h.perm e
end
end Go.Own
end
section
namespace Go.Own
open Go.RowKit
structure Ty where
 holds : Value -> World -> Prop
 keep : ∀ {v : Value} {w w' : World}, holds v w -> Below w.heap.size w w' -> holds v w'
def Ty.is (c : Value) : Ty := ⟨fun v _ => v = c, fun h _ => h⟩
abbrev Lx := List (Tmp × Ty)
def slotIs (I : Lx) (a : Act) (t : Tmp) (v : Value) (w : World) : Prop :=
 match I.lookup t with
 | some R => R.holds v w
 | none => v = a.tmps.getD t undef
section
variable {P : Program} {ops : Array Oper} {C : World -> Prop}
theorem slotIs.keep {I : Lx} {a : Act} {t : Tmp} {v : Value} {w w' : World} (h : slotIs I a t v w) (g : Below w.heap.size w w') : slotIs I a t v w' := by
 unfold slotIs at *
 split at h
 · rename_i R e; exact R.keep h g
 · exact h
def Gives (P : Program) (ops : Array Oper) (C : World -> Prop) (o : Oper) (I : Lx) (a : Act) (R : Ty) : Prop :=
 ∀ a1 w, C w -> (∀ t ∈ o.looksAt ops, slotIs I a t (a1.tmps.getD t undef) w) -> ∀ (K : Act -> World -> Prop) (Q : Exit -> Act -> World -> Prop),
  (∀ v w', R.holds v w' -> Below w.heap.size w w' -> K (a1.put o.dst v) w') -> o.wp P a1 w K Q
def guardKnown (ops : Array Oper) (o : Oper) (I : Lx) : Bool :=
 match o.guard with
 | none => true
 | some (g, _) => match (ops[g]?).bind (·.dst) with
  | some d => (I.lookup d).isNone
  | none => true
inductive StepT (P : Program) (ops : Array Oper) (C : World -> Prop) (o : Oper) : Lx -> Act -> Lx -> Act -> Prop
 | skip {I a} (hg : guardKnown ops o I = true) (hw : Region.wanted o (yielded ops a.tmps) = false) : StepT P ops C o I a I (a.put o.dst undef)
 | val {I a} (v : Value) (hg : guardKnown ops o I = true) (hw : Region.wanted o (yielded ops a.tmps) = true) (h : Gives P ops C o I a (Ty.is v)) : StepT P ops C o I a I (a.put o.dst v)
 | ty {I a} (d : Tmp) (R : Ty) (hd : o.dst = some d) (hg : guardKnown ops o I = true) (hw : Region.wanted o (yielded ops a.tmps) = true) (h : Gives P ops C o I a R) : StepT P ops C o I a ((d, R) :: I) a
structure Rep (C : World -> Prop) (I : Lx) (a a1 : Act) (w1 : World) : Prop where
 world : C w1
 defers : a1.defers = a.defers
 size : a1.tmps.size = a.tmps.size
 slot : ∀ t, slotIs I a t (a1.tmps.getD t undef) w1
def wpT (P : Program) (ops : Array Oper) (C : World -> Prop) (Q : Act -> World -> Prop) : List Oper -> Lx -> Act -> Prop
 | [], I, a => ∀ a1 w1, Rep C I a a1 w1 -> Q a1 w1
 | o :: rest, I, a => ∃ I' a', StepT P ops C o I a I' a' /\ wpT P ops C Q rest I' a'
theorem wpT_path {Q : Act -> World -> Prop} : ∀ (l : List Oper) (I : Lx) (a : Act), wpT P ops C Q l I a ->
 ∃ S : Nat -> Lx × Act, S 0 = (I, a) /\ (∀ k o, l[k]? = some o -> StepT P ops C o (S k).1 (S k).2 (S (k + 1)).1 (S (k + 1)).2) /\ ∀ a1 w1, Rep C (S l.length).1 (S l.length).2 a1 w1 -> Q a1 w1
 | [], I, a, h => ⟨fun _ => (I, a), rfl, fun k o hk => by simp at hk, h⟩
 | o :: rest, I, a, ⟨I', a', h1, h2⟩ => by
  obtain ⟨S, g0, g1, g2⟩ := wpT_path rest I' a' h2
  refine ⟨fun k => match k with | 0 => (I, a) | k + 1 => S k, rfl, fun k o' hk => ?_, fun a1 w1 hr => g2 a1 w1 (by simpa using hr)⟩
  cases k with
  | zero =>
   obtain rfl : o = o' := by simpa using hk
   show StepT P ops C o I a (S 0).1 (S 0).2
   rw [g0]; exact h1
  | succ k => exact g1 k o' (by simpa using hk)
theorem put_getD (a : Act) (d t : Tmp) (v : Value) (hd : d < a.tmps.size) : (a.put (some d) v).tmps.getD t undef = if t = d then v else a.tmps.getD t undef := by
 show (a.tmps.setIfInBounds d v).getD t undef = _
 by_cases h : t = d
 · subst h; simp [hd]
 · simp [h, Array.getElem?_setIfInBounds_ne (Ne.symm h)]
theorem put_size (a : Act) (d : Option Tmp) (v : Value) : (a.put d v).tmps.size = a.tmps.size := by cases d <;> simp [Act.put]
theorem put_defers (a : Act) (d : Option Tmp) (v : Value) : (a.put d v).defers = a.defers := by cases d <;> rfl
theorem StepT.size {o : Oper} {I I' : Lx} {a a' : Act} (h : StepT P ops C o I a I' a') : a'.tmps.size = a.tmps.size /\ a'.defers = a.defers := by
 cases h
 · exact ⟨put_size _ _ _, put_defers _ _ _⟩
 · exact ⟨put_size _ _ _, put_defers _ _ _⟩
 · exact ⟨rfl, rfl⟩
theorem StepT.other {o : Oper} {I I' : Lx} {a a' : Act} (h : StepT P ops C o I a I' a') {t : Tmp} (hin : ∀ d, o.dst = some d -> d < a.tmps.size) (ht : o.dst ≠ some t) (v : Value) (w : World) : slotIs I' a' t v w ↔ slotIs I a t v w := by
 have hput : ∀ u, (a.put o.dst u).tmps.getD t undef = a.tmps.getD t undef := by
  intro u
  cases hd : o.dst with
  | none => rfl
  | some d => rw [put_getD a d t u (hin d hd), if_neg (fun e => ht (by rw [hd, e]))]
 cases h
 · unfold slotIs; rw [hput]
 · unfold slotIs; rw [hput]
 · rename_i d R hd hg hw h
   unfold slotIs
   rw [List.lookup_cons]
   have : (t == d) = false := by simp; intro e; exact ht (by rw [hd, e])
   simp only [this]
def dstsB (l : List Oper) (n : Nat) : Bool := (l.filterMap (·.dst)).Nodup && (l.filterMap (·.dst)).all (· < n)
theorem dsts_lt {l : List Oper} {n : Nat} (h : dstsB l n = true) {k : Nat} {o : Oper} {d : Tmp} (hk : l[k]? = some o) (hd : o.dst = some d) : d < n := by
 simp only [dstsB, Bool.and_eq_true, List.all_eq_true, decide_eq_true_eq] at h
 exact h.2 d (List.mem_filterMap.2 ⟨o, List.mem_of_getElem? hk, hd⟩)
theorem dsts_one {n : Nat} : ∀ {l : List Oper}, dstsB l n = true -> ∀ {j k : Nat} {x y : Oper} {d : Tmp}, l[j]? = some x -> l[k]? = some y -> x.dst = some d -> y.dst = some d -> j = k
 | [], _, j, _, _, _, _, hj, _, _, _ => by simp at hj
 | o :: l, h, j, k, x, y, d, hj, hk, hx, hy => by
  have hrest : dstsB l n = true := by
   simp only [dstsB, Bool.and_eq_true, decide_eq_true_eq] at h ⊢
   cases ho : o.dst <;> simp_all
  have hnot : ∀ (i : Nat) (z : Oper), l[i]? = some z -> o.dst = some d -> z.dst ≠ some d := by
   intro i z hi hod hz
   simp only [dstsB, Bool.and_eq_true, decide_eq_true_eq, List.filterMap_cons, hod, List.nodup_cons] at h
   exact h.1.1 (List.mem_filterMap.2 ⟨z, List.mem_of_getElem? hi, hz⟩)
  cases j with
  | zero =>
   cases k with
   | zero => rfl
   | succ k =>
    obtain rfl : o = x := by simpa using hj
    exact absurd hy (hnot k y (by simpa using hk) hx)
  | succ j =>
   cases k with
   | zero =>
    obtain rfl : o = y := by simpa using hk
    exact absurd hx (hnot j x (by simpa using hj) hy)
   | succ k => rw [dsts_one hrest (j := j) (k := k) (by simpa using hj) (by simpa using hk) hx hy]
theorem eval_looks {o : Oper} {a a1 : Act} (h : ∀ t ∈ o.looksAt ops, a1.tmps.getD t undef = a.tmps.getD t undef) : ∀ x ∈ o.op.operands, a1.eval x = a.eval x := by
 intro x hx
 cases x with
 | tmp t => exact h t (List.mem_append_left _ (List.mem_filterMap.2 ⟨.tmp t, by simpa using hx, rfl⟩))
 | _ => rfl
theorem wanted_looks {o : Oper} {I : Lx} {a a1 : Act} {w : World} (hg : guardKnown ops o I = true) (hs : a1.tmps.size = a.tmps.size) (h : ∀ t ∈ o.looksAt ops, slotIs I a t (a1.tmps.getD t undef) w) :
 Region.wanted o (yielded ops a1.tmps) = Region.wanted o (yielded ops a.tmps) := by
 unfold Region.wanted
 cases hgd : o.guard with
 | none => rfl
 | some gw =>
  obtain ⟨g, want⟩ := gw
  have : yielded ops a1.tmps g = yielded ops a.tmps g := by
   unfold yielded
   cases hd : (ops[g]?).bind (·.dst) with
   | none => rfl
   | some d =>
    have hm : d ∈ o.looksAt ops := by
     unfold Oper.looksAt
     refine List.mem_append_right _ ?_
     rw [hgd]
     simp [hd]
    have h1 := h d hm
    unfold slotIs at h1
    have hn : I.lookup d = none := by simpa [guardKnown, hgd, hd] using hg
    rw [hn] at h1
    simp only at h1
    simp only [Option.bind_some]
    have : a1.tmps[d]? = a.tmps[d]? := by
     by_cases hlt : d < a.tmps.size
     · have hlt1 : d < a1.tmps.size := hs ▸ hlt
       simp only [Array.getD, hlt, hlt1, dif_pos] at h1
       rw [Array.getElem?_eq_getElem hlt, Array.getElem?_eq_getElem hlt1]
       exact congrArg some h1
     · rw [Array.getElem?_eq_none (Nat.le_of_not_lt hlt), Array.getElem?_eq_none (Nat.le_of_not_lt (hs ▸ hlt))]
    rw [this]
  simp only [this]
theorem lexFrom_free {md : Region.Mode} : ∀ (fuel k : Nat) (listed : Array Bool), Region.lexFrom md ops fuel k listed = true -> k + fuel = ops.size -> (∀ i, listed.getD i true = decide (i < k \/ ops.size <= i)) -> listed.size = ops.size ->
 ∀ i oi, k <= i -> ops[i]? = some oi -> (∀ e ∈ oi.after, Region.binds md e = true -> e.on < i) /\ ∀ j oj, i < j -> ops[j]? = some oj -> (∃ e ∈ oj.after, Region.binds md e = true /\ e.on = i) \/ oi.apart ops oj = true
 | 0, k, listed, _, hk, _, _, i, oi, hi, ho => by
  have := (Array.getElem?_eq_some_iff.1 ho).1
  omega
 | fuel + 1, k, listed, h, hk, hl, hsz, i, oi, hi, ho => by
  simp only [Region.lexFrom, Bool.and_eq_true] at h
  obtain ⟨⟨hr, hf⟩, hB⟩ := h
  by_cases hik : i = k
  · subst hik
    refine ⟨fun e he hb => ?_, fun j oj hj hoj => ?_⟩
    · have hr' : i ∈ Region.ready md ops listed := by simpa using hr
      obtain ⟨_, o', ho', hall⟩ := mem_ready.1 hr'
      obtain rfl : oi = o' := by rw [ho] at ho'; simpa using ho'
      have h1 := hall e he hb
      rcases Nat.lt_or_ge e.on i with h2 | h2
      · exact h2
      · exfalso
        rcases Nat.lt_or_ge e.on ops.size with h3 | h3
        · have h4 := hl e.on
          have h5 : e.on < listed.size := by omega
          simp [h5] at h4 h1
          rw [h1] at h4
          simp at h4
          omega
        · simp [Array.getElem?_eq_none (show listed.size <= e.on by omega)] at h1
    · by_cases hw : ∃ e ∈ oj.after, Region.binds md e = true /\ e.on = i
      · exact .inl hw
      · refine .inr (Region.free_spec ho hf j oj hoj (by omega) ?_ (fun e he hb heq => hw ⟨e, he, hb, heq⟩))
        rw [hl]
        have := (Array.getElem?_eq_some_iff.1 hoj).1
        simp; omega
  · refine lexFrom_free fuel (k + 1) _ hB (by omega) (fun j => ?_) (by simpa using hsz) i oi (by omega) ho
    by_cases hjk : j = k
    · subst hjk
      have : j < listed.size := by omega
      simp [this]
    · rw [getD_set_ne true (Ne.symm hjk), hl]
      exact decide_eq_decide.2 (by omega)
structure RunInv (md : Region.Mode) (n : Nat) (ops : Array Oper) (C : World -> Prop) (a0 : Act) (S : Nat -> Lx × Act) (listed : Array Bool) (a1 : Act) (w1 : World) : Prop where
 world : C w1
 defers : a1.defers = a0.defers
 size : a1.tmps.size = a0.tmps.size
 lsize : listed.size = ops.size
 closed : ∀ (j : Nat) (oj : Oper), ops[j]? = some oj -> listed.getD j false = true -> ∀ e ∈ oj.after, Region.binds md e = true -> listed.getD e.on false = true
 tail : ∀ j, n <= j -> j < ops.size -> listed.getD j true = false
 done : ∀ (j : Nat) (oj : Oper) (d : Tmp), ops[j]? = some oj -> listed.getD j false = true -> oj.dst = some d -> slotIs (S (j + 1)).1 (S (j + 1)).2 d (a1.tmps.getD d undef) w1
 rest : ∀ t, (∀ (j : Nat) (oj : Oper), ops[j]? = some oj -> listed.getD j false = true -> oj.dst ≠ some t) -> a1.tmps.getD t undef = a0.tmps.getD t undef
theorem path_sizes {a0 : Act} {S : Nat -> Lx × Act} (hS0 : S 0 = ([], a0)) {n : Nat} (hn : n <= ops.size) (hst : ∀ (k : Nat) (o : Oper), k < n -> ops[k]? = some o -> StepT P ops C o (S k).1 (S k).2 (S (k + 1)).1 (S (k + 1)).2) :
 ∀ k, k <= n -> (S k).2.tmps.size = a0.tmps.size /\ (S k).2.defers = a0.defers
 | 0, _ => by rw [hS0]; exact ⟨rfl, rfl⟩
 | k + 1, hk => by
  have h := path_sizes hS0 hn hst k (by omega)
  have g := (hst k ops[k] (by omega) (Array.getElem?_eq_getElem (by omega))).size
  exact ⟨g.1.trans h.1, g.2.trans h.2⟩
theorem path_other {a0 : Act} {S : Nat -> Lx × Act} (hS0 : S 0 = ([], a0)) {n : Nat} (hn : n <= ops.size) (hst : ∀ (k : Nat) (o : Oper), k < n -> ops[k]? = some o -> StepT P ops C o (S k).1 (S k).2 (S (k + 1)).1 (S (k + 1)).2)
 (hin : ∀ (k : Nat) (o : Oper) (d : Tmp), ops[k]? = some o -> o.dst = some d -> d < a0.tmps.size) {t : Tmp} (v : Value) (w : World) (m : Nat) :
 ∀ q, m + q <= n -> (∀ j oj, m <= j -> j < m + q -> ops[j]? = some oj -> oj.dst ≠ some t) -> (slotIs (S (m + q)).1 (S (m + q)).2 t v w ↔ slotIs (S m).1 (S m).2 t v w)
 | 0, _, _ => Iff.rfl
 | q + 1, hq, hno => by
  have ih := path_other hS0 hn hst hin (t := t) v w m q (by omega) (fun j oj h1 h2 => hno j oj h1 (by omega))
  have hk : ops[m + q]? = some ops[m + q] := Array.getElem?_eq_getElem (by omega)
  have hs := path_sizes hS0 hn hst (m + q) (by omega)
  exact ((hst (m + q) _ (by omega) hk).other (fun d hd => by rw [hs.1]; exact hin _ _ d hk hd) (hno (m + q) _ (by omega) (by omega) hk) v w).trans ih
theorem slot0 {a0 : Act} {S : Nat -> Lx × Act} (hS0 : S 0 = ([], a0)) (t : Tmp) (v : Value) (w : World) : slotIs (S 0).1 (S 0).2 t v w ↔ v = a0.tmps.getD t undef := by
 rw [hS0]; exact Iff.rfl
theorem path_keys {a0 : Act} {S : Nat -> Lx × Act} (hS0 : S 0 = ([], a0)) {n : Nat} (hn : n <= ops.size) (hst : ∀ (k : Nat) (o : Oper), k < n -> ops[k]? = some o -> StepT P ops C o (S k).1 (S k).2 (S (k + 1)).1 (S (k + 1)).2) {t : Tmp} :
 ∀ k, k <= n -> (∀ (j : Nat) (oj : Oper), j < k -> ops[j]? = some oj -> oj.dst ≠ some t) -> (S k).1.lookup t = none
 | 0, _, _ => by rw [hS0]; rfl
 | k + 1, hk, hno => by
  have ih := path_keys hS0 hn hst k (by omega) (fun j oj h1 h2 => hno j oj (by omega) h2)
  have hs := hst k ops[k] (by omega) (Array.getElem?_eq_getElem (by omega))
  have hd := hno k ops[k] (by omega) (Array.getElem?_eq_getElem (by omega))
  generalize S k = si at *
  generalize S (k + 1) = sj at *
  obtain ⟨Ii, ai⟩ := si
  obtain ⟨Ij, aj⟩ := sj
  cases hs with
  | skip => exact ih
  | val => exact ih
  | ty d R hdd =>
   show List.lookup t ((d, R) :: Ii) = none
   rw [List.lookup_cons]
   have : (t == d) = false := by simp; intro e; exact hd (by rw [hdd, e])
   simp only [this]
   exact ih
theorem wpAny_lax {md : Region.Mode} {Q' : Exit -> Act -> World -> Prop} (hC : ∀ w w', C w -> Below w.heap.size w w' -> C w') {a0 : Act} {S : Nat -> Lx × Act} (hS0 : S 0 = ([], a0))
 {n : Nat} (hn : n <= ops.size) (hst : ∀ (k : Nat) (o : Oper), k < n -> ops[k]? = some o -> StepT P ops C o (S k).1 (S k).2 (S (k + 1)).1 (S (k + 1)).2)
 (hin : ∀ (k : Nat) (o : Oper) (d : Tmp), ops[k]? = some o -> o.dst = some d -> d < a0.tmps.size)
 (hone : ∀ (j k : Nat) (x y : Oper) (d : Tmp), ops[j]? = some x -> ops[k]? = some y -> x.dst = some d -> y.dst = some d -> j = k)
 (hlex : ∀ (i : Nat) (oi : Oper), ops[i]? = some oi -> (∀ e ∈ oi.after, Region.binds md e = true -> e.on < i) /\ ∀ j oj, i < j -> ops[j]? = some oj -> (∃ e ∈ oj.after, Region.binds md e = true /\ e.on = i) \/ oi.apart ops oj = true)
 (hwait : ∀ (i : Nat) (oi : Oper), n <= i -> ops[i]? = some oi -> ∀ j, j < n -> ∃ e ∈ oi.after, Region.binds md e = true /\ e.on = j)
 (hfin : ∀ (fuel : Nat) (listed : Array Bool) (a1 : Act) (w1 : World), (∃ s, (List.range ops.size).filter (fun i => !listed.getD i true) = s /\ s.length = fuel) -> listed.size = ops.size -> (∀ i, i < n -> listed.getD i true = true) -> (∀ j, n <= j -> j < ops.size -> listed.getD j true = false) -> Rep C (S n).1 (S n).2 a1 w1 -> wpAny P md ops Q' fuel listed a1 w1) :
 ∀ (fuel : Nat) (listed : Array Bool) (a1 : Act) (w1 : World), (∃ s, (List.range ops.size).filter (fun i => !listed.getD i true) = s /\ s.length = fuel) -> RunInv md n ops C a0 S listed a1 w1 -> wpAny P md ops Q' fuel listed a1 w1 := by
 have hready : ∀ listed : Array Bool, listed.size = ops.size -> Region.ready md ops listed = [] -> ∀ i, i < ops.size -> listed.getD i true = true := by
  intro listed hls hr i
  induction i using Nat.strongRecOn with
  | _ i ih =>
   intro hi
   rcases hb : listed.getD i true with _ | _
   · exfalso
     have : i ∈ Region.ready md ops listed := by
      refine mem_ready.2 ⟨hb, ops[i], Array.getElem?_eq_getElem hi, fun e he hbd => ?_⟩
      have h1 := (hlex i _ (Array.getElem?_eq_getElem hi)).1 e he hbd
      have h2 := ih e.on h1 (by omega)
      have h3 : e.on < listed.size := by omega
      simpa [h3] using h2
     rw [hr] at this
     cases this
   · rfl
 have hend : ∀ (fuel : Nat) (listed : Array Bool) (a1 : Act) (w1 : World), (∃ s, (List.range ops.size).filter (fun i => !listed.getD i true) = s /\ s.length = fuel) -> RunInv md n ops C a0 S listed a1 w1 -> (∀ i, i < n -> listed.getD i true = true) -> wpAny P md ops Q' fuel listed a1 w1 := by
  intro fuel listed a1 w1 hcnt hI hall
  have hsz := path_sizes hS0 hn hst n (Nat.le_refl _)
  refine hfin fuel listed a1 w1 hcnt hI.lsize hall hI.tail ⟨hI.world, hI.defers.trans hsz.2.symm, hI.size.trans hsz.1.symm, fun t => ?_⟩
  by_cases hw : ∃ (j : Nat) (oj : Oper), j < n /\ ops[j]? = some oj /\ oj.dst = some t
  · obtain ⟨j, oj, hjn, hj, hd⟩ := hw
    have hjl := (Array.getElem?_eq_some_iff.1 hj).1
    have hl : listed.getD j false = true := by
     have h1 := hall j hjn
     have h2 : j < listed.size := by rw [hI.lsize]; exact hjl
     simpa [h2] using h1
    have h1 := hI.done j oj t hj hl hd
    have h2 := path_other hS0 hn hst hin (t := t) (a1.tmps.getD t undef) w1 (j + 1) (n - (j + 1)) (by omega) (fun i oi h1 h2 hi hdi => by
     have := hone i j oi oj t hi hj hdi hd; omega)
    rw [show j + 1 + (n - (j + 1)) = n by omega] at h2
    exact h2.2 h1
  · have h1 := hI.rest t (fun j oj hj hl hd => by
     by_cases hjn : j < n
     · exact hw ⟨j, oj, hjn, hj, hd⟩
     · have hjl := (Array.getElem?_eq_some_iff.1 hj).1
       have := hI.tail j (by omega) hjl
       have h2 : j < listed.size := by rw [hI.lsize]; exact hjl
       simp [h2] at this hl
       rw [this] at hl; cases hl)
    have h2 := path_other hS0 hn hst hin (t := t) (a1.tmps.getD t undef) w1 0 n (by omega) (fun j oj _ h2 hj hd => hw ⟨j, oj, by omega, hj, hd⟩)
    rw [Nat.zero_add] at h2
    exact h2.2 ((slot0 hS0 t _ w1).2 h1)
 intro fuel
 induction fuel with
 | zero =>
  rintro listed a1 w1 ⟨s, hs, hlen⟩ hI
  refine hend 0 listed a1 w1 ⟨s, hs, hlen⟩ hI (fun i hi => ?_)
  have hnil : s = [] := List.eq_nil_of_length_eq_zero hlen
  subst hnil
  have := List.filter_eq_nil_iff.1 hs i (List.mem_range.2 (by omega))
  simpa using this
 | succ fuel ih =>
  rintro listed a1 w1 ⟨s, hs, hlen⟩ hI
  by_cases hdone : ∀ i, i < n -> listed.getD i true = true
  · exact hend (fuel + 1) listed a1 w1 ⟨s, hs, hlen⟩ hI hdone
  refine ⟨fun h0 => absurd (fun i hi => hready listed hI.lsize h0 i (by omega)) hdone, fun i hi => ?_⟩
  obtain ⟨hun, oi, hoi, hall⟩ := mem_ready.1 hi
  have hin' : i < n := by
   rcases Nat.lt_or_ge i n with h | h
   · exact h
   · exfalso
     refine hdone (fun j hj => ?_)
     obtain ⟨e, he, hb, heq⟩ := hwait i oi h hoi j hj
     have h1 := hall e he hb
     rw [heq] at h1
     have h2 : j < listed.size := by rw [hI.lsize]; omega
     simpa [h2] using h1
  have hil := (Array.getElem?_eq_some_iff.1 hoi).1
  have hill : i < listed.size := by rw [hI.lsize]; exact hil
  have hunf : listed.getD i false = false := by simpa [hill] using hun
  have hcount : ∃ s', (List.range ops.size).filter (fun j => !(listed.setIfInBounds i true).getD j true) = s' /\ s'.length = fuel := by
   refine ⟨_, rfl, ?_⟩
   have hn : (List.range ops.size).Nodup := List.nodup_range
   have e : (List.range ops.size).filter (fun j => !(listed.setIfInBounds i true).getD j true) = ((List.range ops.size).filter fun j => !listed.getD j true).erase i := by
    rw [List.Nodup.erase_eq_filter (List.Pairwise.filter _ hn), List.filter_filter]
    apply List.filter_congr
    intro j hj
    by_cases hji : j = i
    · subst hji; simp [hill]
    · rw [getD_set_ne true (Ne.symm hji)]; simp [hji]
   rw [e, List.length_erase_of_mem (List.mem_filter.2 ⟨List.mem_range.2 hil, by simp only [hun]; rfl⟩), hs, hlen]
   rfl
  have hlook : ∀ t ∈ oi.looksAt ops, slotIs (S i).1 (S i).2 t (a1.tmps.getD t undef) w1 := by
   intro t ht
   have hback : (∀ (j : Nat) (oj : Oper), ops[j]? = some oj -> oj.dst = some t -> i <= j) -> (∀ (j : Nat) (oj : Oper), ops[j]? = some oj -> oj.dst = some t -> listed.getD j false = false) -> slotIs (S i).1 (S i).2 t (a1.tmps.getD t undef) w1 := by
    intro h1 h2
    have h3 := path_other hS0 hn hst hin (t := t) (a1.tmps.getD t undef) w1 0 i (by omega) (fun j oj _ hj ho hd => by have := h1 j oj ho hd; omega)
    rw [Nat.zero_add] at h3
    refine h3.2 ((slot0 hS0 t _ w1).2 (hI.rest t (fun j oj hj hl hd => ?_)))
    rw [h2 j oj hj hd] at hl; cases hl
   by_cases hw : ∃ (j : Nat) (oj : Oper), ops[j]? = some oj /\ oj.dst = some t
   · obtain ⟨j, oj, hj, hd⟩ := hw
     have huniq : ∀ (j' : Nat) (oj' : Oper), ops[j']? = some oj' -> oj'.dst = some t -> j' = j := fun j' oj' h1 h2 => hone j' j oj' oj t h1 hj h2 hd
     rcases Nat.lt_trichotomy j i with hji | hji | hji
     · rcases (hlex j oj hj).2 i oi hji hoi with ⟨e, he, hb, heq⟩ | hap
       · have hl : listed.getD j false = true := by rw [<- heq]; exact hall e he hb
         have h1 := hI.done j oj t hj hl hd
         have h2 := path_other hS0 hn hst hin (t := t) (a1.tmps.getD t undef) w1 (j + 1) (i - (j + 1)) (by omega) (fun j' oj' h1 _ h3 h4 => by have := huniq j' oj' h3 h4; omega)
         rw [show j + 1 + (i - (j + 1)) = i by omega] at h2
         exact h2.2 h1
       · exact absurd ht ((Oper.apart_spec hap).1 t hd)
     · subst hji
       refine hback (fun j' oj' h1 h2 => by have := huniq j' oj' h1 h2; omega) (fun j' oj' h1 h2 => by rw [huniq j' oj' h1 h2]; exact hunf)
     · rcases (hlex i oi hoi).2 j oj hji hj with ⟨e, he, hb, heq⟩ | hap
       · refine hback (fun j' oj' h1 h2 => by have := huniq j' oj' h1 h2; omega) (fun j' oj' h1 h2 => ?_)
         rw [huniq j' oj' h1 h2]
         rcases hlj : listed.getD j false with _ | _
         · rfl
         · have := hI.closed j oj hj hlj e he hb
           rw [heq, hunf] at this; cases this
       · exact absurd ht ((Oper.apart_spec hap).2.2 t hd)
   · exact hback (fun j oj h1 h2 => absurd ⟨j, oj, h1, h2⟩ hw) (fun j oj h1 h2 => absurd ⟨j, oj, h1, h2⟩ hw)
  have hsz := path_sizes hS0 hn hst i (by omega)
  have hsame : a1.tmps.size = (S i).2.tmps.size := hI.size.trans hsz.1.symm
  have hnext : ∀ (v : Value) (w' : World), (∀ d, oi.dst = some d -> slotIs (S (i + 1)).1 (S (i + 1)).2 d v w') -> Below w1.heap.size w1 w' -> RunInv md n ops C a0 S (listed.setIfInBounds i true) (a1.put oi.dst v) w' := by
   intro v w' hv hb
   have hget : ∀ t, oi.dst ≠ some t -> (a1.put oi.dst v).tmps.getD t undef = a1.tmps.getD t undef := by
    intro t ht
    cases hd : oi.dst with
    | none => rfl
    | some d => rw [put_getD a1 d t v (by rw [hI.size]; exact hin i oi d hoi hd), if_neg (fun e => ht (by rw [hd, e]))]
   have hlist : ∀ j, (listed.setIfInBounds i true).getD j false = true -> j = i \/ listed.getD j false = true := by
    intro j hj
    by_cases hji : j = i
    · exact .inl hji
    · rw [getD_set_ne false (Ne.symm hji)] at hj; exact .inr hj
   refine ⟨hC _ _ hI.world hb, (put_defers _ _ _).trans hI.defers, (put_size _ _ _).trans hI.size, by simpa using hI.lsize, fun j oj hj hl e he hbd => ?_, fun j hnj hjl => ?_, fun j oj d hj hl hd => ?_, fun t ht => ?_⟩
   · rcases hlist j hl with rfl | hl
     · obtain rfl : oj = oi := by rw [hoi] at hj; simpa using hj.symm
       exact getD_set_true (hall e he hbd)
     · exact getD_set_true (hI.closed j oj hj hl e he hbd)
   · rw [getD_set_ne true (by omega)]; exact hI.tail _ hnj hjl
   · rcases hlist j hl with rfl | hl
     · obtain rfl : oj = oi := by rw [hoi] at hj; simpa using hj.symm
       rw [hd, put_getD a1 d d v (by rw [hI.size]; exact hin j oj d hj hd), if_pos rfl]
       exact hv d hd
     · have hne : oi.dst ≠ some d := by
        intro h
        have := hone i j oi oj d hoi hj h hd
        subst this
        rw [hunf] at hl; cases hl
       rw [hget d hne]
       exact (hI.done j oj d hj hl hd).keep hb
   · have hne : oi.dst ≠ some t := ht i oi hoi (by simp [hill])
     rw [hget t hne]
     exact hI.rest t (fun j oj hj hl => ht j oj hj (getD_set_true hl))
  have hkey : ∀ d, oi.dst = some d -> (S i).1.lookup d = none := fun d hd => path_keys hS0 hn hst i (by omega) (fun j oj h1 h2 h3 => by have := hone j i oj oi d h2 hoi h3 hd; omega)
  have hstep := hst i oi hin' hoi
  unfold wpOp
  simp only [hoi]
  generalize hSi : S i = si at *
  generalize hSj : S (i + 1) = sj at *
  obtain ⟨Ii, ai⟩ := si
  obtain ⟨Ij, aj⟩ := sj
  simp only at hstep hlook hnext hsame hkey
  cases hstep with
  | skip hg hw =>
   rw [wanted_looks hg hsame hlook, hw]
   simp only [Bool.false_eq_true, if_false]
   refine ih _ _ _ hcount (hnext undef w1 (fun d hd => ?_) (Below.refl _ _))
   unfold slotIs
   rw [hkey d hd, hd]
   simp only
   rw [put_getD ai d d undef (by rw [<- hsame, hI.size]; exact hin i oi d hoi hd), if_pos rfl]
  | val v hg hw h =>
   rw [wanted_looks hg hsame hlook, hw]
   simp only [if_true]
   refine .inl (h a1 w1 hI.world hlook _ _ (fun u w' hu hb => ih _ _ _ hcount (hnext u w' (fun d hd => ?_) hb)))
   unfold slotIs
   rw [hkey d hd, hd]
   simp only
   rw [put_getD ai d d v (by rw [<- hsame, hI.size]; exact hin i oi d hoi hd), if_pos rfl]
   exact hu
  | ty d R hd hg hw h =>
   rw [wanted_looks hg hsame hlook, hw]
   simp only [if_true]
   refine .inl (h a1 w1 hI.world hlook _ _ (fun u w' hu hb => ih _ _ _ hcount (hnext u w' (fun d' hd' => ?_) hb)))
   obtain rfl : d = d' := by rw [hd] at hd'; simpa using hd'
   unfold slotIs
   rw [List.lookup_cons]
   simp only [BEq.rfl]
   exact hu
theorem count_none (n : Nat) : (List.range n).filter (fun i => !(Array.replicate n false).getD i true) = List.range n := by
 apply List.filter_eq_self.2
 intro i hi
 have := List.mem_range.1 hi
 simp [this]
theorem start_inv {md : Region.Mode} {n : Nat} {a : Act} {w : World} {S : Nat -> Lx × Act} (hC : C { w with drawn := w.drawn + 1 }) : RunInv md n ops C a S (Array.replicate ops.size false) a { w with drawn := w.drawn + 1 } := by
 have hf : ∀ j, (Array.replicate ops.size false).getD j false = true -> False := by
  intro j hl
  by_cases hi : j < ops.size <;> simp [hi] at hl
 exact ⟨hC, rfl, rfl, by simp, fun j oj hj hl => (hf j hl).elim, fun j _ hj => by simp [hj], fun j oj d hj hl => (hf j hl).elim, fun t _ => rfl⟩
theorem wp_region_lax {id : Nat} {Q : Exit -> Act -> World -> Prop} {a : Act} {w : World} {l : List Oper} (hm : P.follows .mixedOrders = true) (hB : Region.lexB .any l.toArray = true) (hD : dstsB l a.tmps.size = true)
 (h : wpT P l.toArray (Below w.heap.size w) (fun a' w' => Q .normal a' w') l [] a) : (Code.region id l.toArray true).wp P Q a w := by
 obtain ⟨S, hS0, hst, hfin⟩ := wpT_path l [] a h
 have hB' : Region.lexFrom .any l.toArray l.toArray.size 0 (Array.replicate l.toArray.size false) = true := by
  simp only [Region.lexB, Bool.and_eq_true] at hB; exact hB.2
 refine wp_region_any hm ?_
 refine wpAny_lax (P := P) (ops := l.toArray) (C := Below w.heap.size w) (md := .any) (a0 := a) (S := S) (fun w1 w2 h1 h2 => h1.trans (h2.mono h1.size)) hS0 (n := l.toArray.size) (Nat.le_refl _) (fun k o _ hk => hst k o (by simpa using hk))
  (fun k o d hk hd => dsts_lt hD (k := k) (by simpa using hk) hd) (fun j k x y d hj hk hx hy => dsts_one hD (j := j) (k := k) (by simpa using hj) (by simpa using hk) hx hy)
  (fun i oi hi => lexFrom_free _ 0 _ hB' (by simp) (fun i => ?_) (by simp) i oi (Nat.zero_le _) hi) (fun i oi hi ho => absurd (Array.getElem?_eq_some_iff.1 ho).1 (by omega))
  (fun fuel listed a1 w1 ⟨s, hs, hlen⟩ hls hall _ hr => ?_) _ _ _ _ ⟨_, rfl, ?_⟩ (start_inv ⟨rfl, rfl, rfl, Nat.le_refl _, fun _ _ => rfl⟩)
 · by_cases hi : i < l.length
   · simp [hi]
   · simp [hi]; omega
 · have hq : Q .normal a1 w1 := hfin a1 w1 (by simpa using hr)
   have hnr : Region.ready .any l.toArray listed = [] := by
    apply List.eq_nil_iff_forall_not_mem.2
    intro i hi
    obtain ⟨h0, o, ho, _⟩ := mem_ready.1 hi
    have := hall i (Array.getElem?_eq_some_iff.1 ho).1
    rw [this] at h0; cases h0
   exact wpAny_done hnr hq fuel
 · rw [count_none]; simp
def waitsB (l : List Oper) : Bool := match l.getLast? with
 | some o => (List.range (l.length - 1)).all fun j => o.after.any fun e => Region.binds .any e && e.on == j
 | none => false
theorem wp_region_laxT {id : Nat} {Q : Exit -> Act -> World -> Prop} {a : Act} {w : World} {l : List Oper} (n : Nat) (hn : l.length = n + 1) (hm : P.follows .mixedOrders = true) (hB : Region.lexB .any l.toArray = true) (hD : dstsB l a.tmps.size = true) (hW : waitsB l = true)
 (h : wpT P l.toArray (Below w.heap.size w) (fun a' w' => wpList P l.toArray Q (l.drop n) a' w') (l.take n) [] a) : (Code.region id l.toArray true).wp P Q a w := by
 obtain ⟨S, hS0, hst, hfin⟩ := wpT_path (l.take n) [] a h
 have hB' : Region.lexFrom .any l.toArray l.toArray.size 0 (Array.replicate l.toArray.size false) = true := by
  simp only [Region.lexB, Bool.and_eq_true] at hB; exact hB.2
 have hsz : l.toArray.size = n + 1 := by simpa using hn
 obtain ⟨o, ho⟩ : ∃ o, l[n]? = some o := ⟨l[n], by simp [hn]⟩
 have hlast : l.getLast? = some o := by rw [List.getLast?_eq_getElem?, hn]; exact ho
 have hdrop : l.drop n = [o] := by
  have h1 : n < l.length := by omega
  rw [List.drop_eq_getElem_cons h1, List.drop_eq_nil_of_le (by omega)]
  rw [List.getElem?_eq_getElem h1] at ho
  rw [Option.some.inj ho]
 have hlen : (l.take n).length = n := by rw [List.length_take]; omega
 refine wp_region_any hm ?_
 refine wpAny_lax (P := P) (ops := l.toArray) (C := Below w.heap.size w) (md := .any) (a0 := a) (S := S) (fun w1 w2 h1 h2 => h1.trans (h2.mono h1.size)) hS0 (n := n) (by omega) (fun k o' hk ho' => hst k o' (by rw [List.getElem?_take_of_lt hk]; simpa using ho'))
  (fun k o d hk hd => dsts_lt hD (k := k) (by simpa using hk) hd) (fun j k x y d hj hk hx hy => dsts_one hD (j := j) (k := k) (by simpa using hj) (by simpa using hk) hx hy)
  (fun i oi hi => lexFrom_free _ 0 _ hB' (by simp) (fun i => ?_) (by simp) i oi (Nat.zero_le _) hi) (fun i oi hi hoi j hj => ?_)
  (fun fuel listed a1 w1 ⟨s, hs, hcnt⟩ hls hall htail hr => ?_) _ _ _ _ ⟨_, rfl, ?_⟩ (start_inv ⟨rfl, rfl, rfl, Nat.le_refl _, fun _ _ => rfl⟩)
 · by_cases hi : i < l.length
   · simp [hi]
   · simp [hi]; omega
 · have hil := (Array.getElem?_eq_some_iff.1 hoi).1
   obtain rfl : i = n := by omega
   obtain rfl : o = oi := by
    have : l[i]? = some oi := by simpa using hoi
    rw [ho] at this; exact Option.some.inj this
   unfold waitsB at hW
   rw [hlast] at hW
   simp only [List.all_eq_true, List.mem_range] at hW
   obtain ⟨e, he, hb⟩ := Array.any_eq_true'.1 (hW j (by omega))
   simp only [Bool.and_eq_true, beq_iff_eq] at hb
   exact ⟨e, he, hb.1, hb.2⟩
 · -- only the last one is left
   have hq : wpList P l.toArray Q [o] a1 w1 := by
    have := hfin a1 w1 (by rw [hlen]; exact hr)
    rwa [hdrop] at this
   have hnl : listed.getD n true = false := htail n (Nat.le_refl _) (by omega)
   have hfuel : fuel = 1 := by
    rw [<- hcnt, <- hs, hsz, List.range_succ, List.filter_append]
    have : (List.range n).filter (fun i => !listed.getD i true) = [] := by
     apply List.filter_eq_nil_iff.2
     intro i hi
     rw [hall i (List.mem_range.1 hi)]
     simp
    rw [this]
    simp only [List.nil_append, List.filter_cons, hnl]
    rfl
   subst hfuel
   have hon : l.toArray[n]? = some o := by simpa using ho
   refine ⟨fun h0 => ?_, fun i hi => ?_⟩
   · exfalso
     have : n ∈ Region.ready .any l.toArray listed := by
      refine mem_ready.2 ⟨hnl, o, hon, fun e he hb => ?_⟩
      have h1 := (lexFrom_free _ 0 _ hB' (by simp) (fun i => by by_cases hi : i < l.length <;> simp [hi]; omega) (by simp) n o (Nat.zero_le _) hon).1 e he hb
      have h2 := hall e.on h1
      have h3 : e.on < listed.size := by omega
      simpa [h3] using h2
     rw [h0] at this; cases this
   · obtain ⟨hun, oi, hoi, _⟩ := mem_ready.1 hi
     have hil := (Array.getElem?_eq_some_iff.1 hoi).1
     obtain rfl : i = n := by
      rcases Nat.lt_or_ge i n with h1 | h1
      · rw [hall i h1] at hun; cases hun
      · omega
     have hnr : Region.ready .any l.toArray (listed.setIfInBounds i true) = [] := by
      apply List.eq_nil_iff_forall_not_mem.2
      intro j hj
      obtain ⟨h0, oj, hoj, _⟩ := mem_ready.1 hj
      have hjl := (Array.getElem?_eq_some_iff.1 hoj).1
      by_cases hji : j = i
      · subst hji
        have h3 : j < listed.size := by omega
        simp [h3] at h0
      · rw [getD_set_ne true (Ne.symm hji), hall j (by omega)] at h0; cases h0
     have hmono : ∀ a2 w2, wpList P l.toArray Q [] a2 w2 -> wpAny P .any l.toArray Q 0 (listed.setIfInBounds i true) a2 w2 := fun a2 w2 h2 => wpAny_done hnr h2 0
     unfold wpOp
     simp only [hon]
     unfold wpList at hq
     split
     · rename_i hw
       rw [if_pos hw] at hq
       exact hq.imp (Oper.wp_mono hmono) (fun h => h)
     · rename_i hw
       rw [if_neg hw] at hq
       exact hmono _ _ hq
 · rw [count_none]; simp
section steps
variable {Q : Act -> World -> Prop} {o : Oper} {rest : List Oper} {I : Lx} {a : Act}
theorem wpT_skip (hg : guardKnown ops o I = true) (hw : Region.wanted o (yielded ops a.tmps) = false) (k : wpT P ops C Q rest I (a.put o.dst undef)) : wpT P ops C Q (o :: rest) I a :=
 ⟨_, _, .skip hg hw, k⟩
def known (I : Lx) : Operand -> Bool
 | .tmp t => (I.lookup t).isNone
 | _ => true
theorem looks_of_operand {x : Operand} {t : Tmp} (h : x ∈ o.op.operands) (hx : x = .tmp t) : t ∈ o.looksAt ops :=
 List.mem_append_left _ (List.mem_filterMap.2 ⟨x, by simpa using h, by rw [hx]⟩)
theorem known_eval {x : Operand} {a1 : Act} {w : World} (hx : known I x = true) (hm : x ∈ o.op.operands) (ht : ∀ t ∈ o.looksAt ops, slotIs I a t (a1.tmps.getD t undef) w) : a1.eval x = a.eval x := by
 cases x with
 | tmp t =>
  have h := ht t (looks_of_operand hm rfl)
  unfold slotIs at h
  have : I.lookup t = none := by simpa [known] using hx
  rw [this] at h
  exact h
 | _ => rfl
theorem wpT_move {x : Operand} (v : Value) (ho : o.op = .move x) (hv : a.eval x = v) (hx : known I x = true) (hg : guardKnown ops o I = true) (hw : Region.wanted o (yielded ops a.tmps) = true) (k : wpT P ops C Q rest I (a.put o.dst v)) : wpT P ops C Q (o :: rest) I a :=
 ⟨_, _, .val v hg hw (fun a1 w _ ht K Q' hK => by
  have e := known_eval hx (by rw [ho]; simp [Op.operands]) ht
  unfold Oper.wp
  simp only [ho, execOp]
  rw [e, hv]
  exact hK _ _ rfl (Below.refl _ _)), k⟩
theorem wpT_assign {x : Operand} (v : Value) (ho : o.op = .assign x) (hv : a.eval x = v) (hx : known I x = true) (hg : guardKnown ops o I = true) (hw : Region.wanted o (yielded ops a.tmps) = true) (k : wpT P ops C Q rest I (a.put o.dst v)) : wpT P ops C Q (o :: rest) I a :=
 ⟨_, _, .val v hg hw (fun a1 w _ ht K Q' hK => by
  have e := known_eval hx (by rw [ho]; simp [Op.operands]) ht
  unfold Oper.wp
  simp only [ho, execOp]
  rw [e, hv]
  exact hK _ _ rfl (Below.refl _ _)), k⟩
def notSelect (o : Oper) : Bool := match o.op with | .select .. => false | _ => true
theorem wpT_run (v : Value) (hs : notSelect o = true) (hl : (o.op.operands.toList.all (known I)) = true) (hg : guardKnown ops o I = true) (hw : Region.wanted o (yielded ops a.tmps) = true)
 (hrun : ∀ w, C w -> (execOp a.eval o).run P w = .ok (.value v) w) (k : wpT P ops C Q rest I (a.put o.dst v)) : wpT P ops C Q (o :: rest) I a :=
 ⟨_, _, .val v hg hw (fun a1 w hC ht K Q' hK => by
  have e : execOp a1.eval o = execOp a.eval o := execOp_congr o (fun cs b h => by simp [notSelect, h] at hs) fun x hx => known_eval (by
   simp only [List.all_eq_true] at hl
   exact hl x (by simpa using hx)) hx ht
  unfold Oper.wp
  rw [e, hrun w hC]
  exact hK _ _ rfl (Below.refl _ _)), k⟩
theorem wpT_runT {d : Tmp} (R : Ty) (hd : o.dst = some d) (hs : notSelect o = true) (hl : (o.op.operands.toList.all (known I)) = true) (hg : guardKnown ops o I = true) (hw : Region.wanted o (yielded ops a.tmps) = true)
 (hrun : ∀ w, C w -> ∃ v w', (execOp a.eval o).run P w = .ok (.value v) w' /\ R.holds v w' /\ Below w.heap.size w w') (k : wpT P ops C Q rest ((d, R) :: I) a) : wpT P ops C Q (o :: rest) I a :=
 ⟨_, _, .ty d R hd hg hw (fun a1 w hC ht K Q' hK => by
  have e : execOp a1.eval o = execOp a.eval o := execOp_congr o (fun cs b h => by simp [notSelect, h] at hs) fun x hx => known_eval (by
   simp only [List.all_eq_true] at hl
   exact hl x (by simpa using hx)) hx ht
  obtain ⟨v, w', h1, h3, h2⟩ := hrun w hC
  unfold Oper.wp
  rw [e, h1]
  exact hK _ _ h3 h2), k⟩
def isTmp (t : Tmp) : Operand -> Bool
 | .tmp s => s == t
 | _ => false
theorem isTmp_eq {t : Tmp} {x : Operand} (h : isTmp t x = true) : x = .tmp t := by
 cases x with
 | tmp s =>
  have : s = t := by simpa [isTmp] using h
  rw [this]
 | _ => simp [isTmp] at h
theorem isTmp_self (t : Tmp) : isTmp t (.tmp t) = true := by simp [isTmp]
theorem wpT_see {t : Tmp} {R : Ty} (v : Value) (hx : I.lookup t = some R) (hm : (Operand.tmp t) ∈ o.op.operands) (hs : notSelect o = true) (hl : (o.op.operands.toList.all fun x => known I x || isTmp t x) = true) (hg : guardKnown ops o I = true) (hw : Region.wanted o (yielded ops a.tmps) = true)
 (hrun : ∀ (u : Value) w, C w -> R.holds u w -> ∀ ρ : Operand -> Value, ρ (.tmp t) = u -> (∀ x, known I x = true -> ρ x = a.eval x) -> ∃ w', (execOp ρ o).run P w = .ok (.value v) w' /\ Below w.heap.size w w') (k : wpT P ops C Q rest I (a.put o.dst v)) : wpT P ops C Q (o :: rest) I a :=
 ⟨_, _, .val v hg hw (fun a1 w hC ht K Q' hK => by
  have h : slotIs I a t (a1.tmps.getD t undef) w := ht t (looks_of_operand hm rfl)
  unfold slotIs at h
  rw [hx] at h
  have e : execOp a1.eval o = execOp (fun x => if isTmp t x = true then a1.tmps.getD t undef else a.eval x) o := execOp_congr o (fun cs b h => by simp [notSelect, h] at hs) fun x hxm => by
   by_cases hxt : isTmp t x = true
   · rw [if_pos hxt, isTmp_eq hxt]; rfl
   · rw [if_neg hxt]
     simp only [List.all_eq_true] at hl
     have h1 := hl x (by simpa using hxm)
     have h2 : known I x = true := by simpa [hxt] using h1
     exact known_eval h2 hxm ht
  obtain ⟨w', h1, h2⟩ := hrun _ w hC h (fun x => if isTmp t x = true then a1.tmps.getD t undef else a.eval x) (by rw [if_pos (isTmp_self t)]) (fun x hk => by
   by_cases hxt : isTmp t x = true
   · rw [isTmp_eq hxt] at hk; simp [known, hx] at hk
   · rw [if_neg hxt])
  unfold Oper.wp
  rw [e, h1]
  exact hK _ _ rfl h2), k⟩
theorem wpT_convK {x : Operand} {src dst : TypeId} (v : Value) (ho : o.op = .convert src dst x) (hx : known I x = true) (hg : guardKnown ops o I = true) (hw : Region.wanted o (yielded ops a.tmps) = true)
 (hc : ∀ w, C w -> (convert src dst (a.eval x)).run P w = .ok v w) (k : wpT P ops C Q rest I (a.put o.dst v)) : wpT P ops C Q (o :: rest) I a :=
 wpT_run v (by simp [notSelect, ho]) (by rw [ho]; simp [Op.operands, hx]) hg hw (fun w hC => by
  have h := hc w hC
  simp only [ho, execOp]
  generalize a.eval x = u at h
  simp [h, go_sem]) k
theorem wpT_call (v : Value) {f : FuncId} (args : Array Value) (hs : notSelect o = true) (hl : (o.op.operands.toList.all (known I)) = true) (hg : guardKnown ops o I = true) (hw : Region.wanted o (yielded ops a.tmps) = true)
 (hent : ∀ w, (execOp a.eval o).run P w = .ok (.enter f args) w) (hc : ∀ w, C w -> Calls P f args w fun e w' => e = .returned v /\ Below w.heap.size w w') (k : wpT P ops C Q rest I (a.put o.dst v)) : wpT P ops C Q (o :: rest) I a :=
 ⟨_, _, .val v hg hw (fun a1 w hC ht K Q' hK => by
  have e : execOp a1.eval o = execOp a.eval o := execOp_congr o (fun cs b h => by simp [notSelect, h] at hs) fun x hx => known_eval (by
   simp only [List.all_eq_true] at hl
   exact hl x (by simpa using hx)) hx ht
  unfold Oper.wp
  rw [e, hent w]
  exact (hc w hC).mono fun e w' ⟨he, hb⟩ => by subst he; exact hK _ _ rfl hb), k⟩
theorem wpT_callT {d : Tmp} (R : Ty) {f : FuncId} (args : Array Value) (hd : o.dst = some d) (hs : notSelect o = true) (hl : (o.op.operands.toList.all (known I)) = true) (hg : guardKnown ops o I = true) (hw : Region.wanted o (yielded ops a.tmps) = true)
 (hent : ∀ w, (execOp a.eval o).run P w = .ok (.enter f args) w) (hc : ∀ w, C w -> Calls P f args w fun e w' => ∃ v, e = .returned v /\ R.holds v w' /\ Below w.heap.size w w') (k : wpT P ops C Q rest ((d, R) :: I) a) : wpT P ops C Q (o :: rest) I a :=
 ⟨_, _, .ty d R hd hg hw (fun a1 w hC ht K Q' hK => by
  have e : execOp a1.eval o = execOp a.eval o := execOp_congr o (fun cs b h => by simp [notSelect, h] at hs) fun x hx => known_eval (by
   simp only [List.all_eq_true] at hl
   exact hl x (by simpa using hx)) hx ht
  unfold Oper.wp
  rw [e, hent w]
  exact (hc w hC).mono fun e w' ⟨v, he, hv, hb⟩ => by subst he; exact hK _ _ hv hb), k⟩
theorem gives_callU {t : Tmp} {R R' : Ty} {f : FuncId} (args : Value -> Array Value) (hx : I.lookup t = some R) (hm : (Operand.tmp t) ∈ o.op.operands) (hs : notSelect o = true) (hl : (o.op.operands.toList.all fun x => known I x || isTmp t x) = true)
 (hent : ∀ (u : Value) w (ρ : Operand -> Value), ρ (.tmp t) = u -> (∀ x, known I x = true -> ρ x = a.eval x) -> (execOp ρ o).run P w = .ok (.enter f (args u)) w)
 (hc : ∀ (u : Value) w, C w -> R.holds u w -> Calls P f (args u) w fun e w' => ∃ v, e = .returned v /\ R'.holds v w' /\ Below w.heap.size w w') : Gives P ops C o I a R' := fun a1 w hC ht K Q' hK => by
 have h : slotIs I a t (a1.tmps.getD t undef) w := ht t (looks_of_operand hm rfl)
 unfold slotIs at h
 rw [hx] at h
 have e : execOp a1.eval o = execOp (fun x => if isTmp t x = true then a1.tmps.getD t undef else a.eval x) o := execOp_congr o (fun cs b h => by simp [notSelect, h] at hs) fun x hxm => by
  by_cases hxt : isTmp t x = true
  · rw [if_pos hxt, isTmp_eq hxt]; rfl
  · rw [if_neg hxt]
    simp only [List.all_eq_true] at hl
    have h1 := hl x (by simpa using hxm)
    have h2 : known I x = true := by simpa [hxt] using h1
    exact known_eval h2 hxm ht
 have h1 := hent (a1.tmps.getD t undef) w (fun x => if isTmp t x = true then a1.tmps.getD t undef else a.eval x) (by rw [if_pos (isTmp_self t)]) (fun x hk => by
  by_cases hxt : isTmp t x = true
  · rw [isTmp_eq hxt] at hk; simp [known, hx] at hk
  · rw [if_neg hxt])
 unfold Oper.wp
 rw [e, h1]
 exact (hc _ w hC h).mono fun e w' ⟨v, he, hv, hb⟩ => by subst he; exact hK _ _ hv hb
theorem wpT_callUV {t : Tmp} {R : Ty} (v : Value) {f : FuncId} (args : Value -> Array Value) (hx : I.lookup t = some R) (hm : (Operand.tmp t) ∈ o.op.operands) (hs : notSelect o = true) (hl : (o.op.operands.toList.all fun x => known I x || isTmp t x) = true) (hg : guardKnown ops o I = true) (hw : Region.wanted o (yielded ops a.tmps) = true)
 (hent : ∀ (u : Value) w (ρ : Operand -> Value), ρ (.tmp t) = u -> (∀ x, known I x = true -> ρ x = a.eval x) -> (execOp ρ o).run P w = .ok (.enter f (args u)) w)
 (hc : ∀ (u : Value) w, C w -> R.holds u w -> Calls P f (args u) w fun e w' => e = .returned v /\ Below w.heap.size w w') (k : wpT P ops C Q rest I (a.put o.dst v)) : wpT P ops C Q (o :: rest) I a :=
 ⟨_, _, .val v hg hw (gives_callU (R' := Ty.is v) args hx hm hs hl hent (fun u w h1 h2 => (hc u w h1 h2).mono fun _ _ h => ⟨v, h.1, rfl, h.2⟩)), k⟩
def FinQ (Q : Act -> World -> Prop) : Lx -> Act -> World -> Prop
 | [], a, w => Q a w
 | (d, R) :: I, a, w => ∀ v, R.holds v w -> FinQ Q I (a.put (some d) v) w
theorem rep_fin {n : Nat} : ∀ (I : Lx) (a a1 : Act) (w1 : World), a.tmps.size = n -> (I.map (·.1)).Nodup -> (∀ d ∈ I.map (·.1), d < n) -> Rep C I a a1 w1 -> FinQ Q I a w1 -> Q a1 w1
 | [], a, a1, w1, hn, _, _, h, hq => by
  have : a1 = a := by
   obtain ⟨t1, d1⟩ := a1
   obtain ⟨t0, d0⟩ := a
   have e1 : t1 = t0 := by
    have hs : t1.size = t0.size := h.size
    apply Array.ext hs
    intro i h1 h2
    have := h.slot i
    have e : t1.getD i undef = t0.getD i undef := this
    simpa [h1, h2] using e
   have e2 : d1 = d0 := h.defers
   rw [e1, e2]
  rw [this]; exact hq
 | (d, R) :: I, a, a1, w1, hn, hk, hr, h, hq => by
  have hd : R.holds (a1.tmps.getD d undef) w1 := by
   have := h.slot d
   unfold slotIs at this
   rw [List.lookup_cons] at this
   simpa using this
  simp only [List.map_cons, List.nodup_cons] at hk
  have hdn : d < a.tmps.size := by rw [hn]; exact hr d (by simp)
  refine rep_fin I (a.put (some d) (a1.tmps.getD d undef)) a1 w1 (by rw [put_size]; exact hn) hk.2 (fun d' hd' => hr d' (by simp only [List.map_cons, List.mem_cons]; exact .inr hd')) ⟨h.world, by rw [put_defers]; exact h.defers, by rw [put_size]; exact h.size, fun t => ?_⟩ (hq _ hd)
  by_cases ht : t = d
  · subst ht
    have hno : I.lookup t = none := by
     cases hl : I.lookup t with
     | none => rfl
     | some R' =>
      exfalso
      have := List.lookup_eq_some_iff.1 hl
      obtain ⟨l1, l2, e, _⟩ := this
      exact hk.1 (by rw [e]; simp)
    unfold slotIs
    rw [hno]
    simp only
    rw [put_getD a t t _ hdn, if_pos rfl]
  · have := h.slot t
    unfold slotIs at this ⊢
    rw [List.lookup_cons] at this
    have hb : (t == d) = false := by simpa using ht
    simp only [hb] at this
    rw [put_getD a d t _ hdn, if_neg ht]
    exact this
theorem wpT_end (hk : ((I.map (·.1)).Nodup && (I.map (·.1)).all (· < a.tmps.size)) = true) (h : ∀ w, C w -> FinQ Q I a w) : wpT P ops C Q [] I a := fun a1 w1 hr => by
 simp only [Bool.and_eq_true, decide_eq_true_eq, List.all_eq_true] at hk
 exact rep_fin I a a1 w1 rfl hk.1 hk.2 hr (h w1 hr.world)
end steps
section lists
variable {Q : Act -> World -> Prop} {o : Oper} {rest : List Oper} {I : Lx} {fs : List Value} {ds : List Deferred}
def mkA (fs : List Value) (ds : List Deferred) : Act := ⟨fs.toArray, ds⟩
def setL (fs : List Value) (d : Option Tmp) (v : Value) : List Value := match d with | some d => fs.set d v | none => fs
theorem mkA_put (d : Option Tmp) (v : Value) : (mkA fs ds).put d v = mkA (setL fs d v) ds := by
 cases d with
 | none => rfl
 | some d => simp [mkA, setL, Act.put]
def ev (fs : List Value) : Operand -> Value
 | .tmp t => fs.getD t undef
 | .const v => v
 | .global g => .pointer (some ⟨g, 0, none⟩)
 | .func f => .func (.func f) #[] #[]
theorem mkA_eval (x : Operand) : (mkA fs ds).eval x = ev fs x := by
 cases x with
 | tmp t => simp [mkA, ev, Act.eval]
 | _ => rfl
theorem mkA_evalF : (mkA fs ds).eval = ev fs := funext mkA_eval
def wantedL (ops : Array Oper) (fs : List Value) (o : Oper) : Bool :=
 match o.guard with
 | none => true
 | some (g, want) => match (ops.toList[g]?).bind (·.dst) with
  | none => Region.wanted o (fun _ => none)
  | some d => match fs[d]? with
   | some (.bool b) => Region.wanted o (fun _ => some b)
   | _ => Region.wanted o (fun _ => none)
theorem wantedL_eq : Region.wanted o (yielded ops (mkA fs ds).tmps) = wantedL ops fs o := by
 unfold wantedL Region.wanted
 cases hg : o.guard with
 | none => rfl
 | some gw =>
  obtain ⟨g, want⟩ := gw
  have e : ops.toList[g]? = ops[g]? := by simp
  simp only [e]
  have hy : yielded ops (mkA fs ds).tmps g = match (ops[g]?).bind (·.dst) with | none => none | some d => match fs[d]? with | some (.bool b) => some b | _ => none := by
   unfold yielded
   cases hd : (ops[g]?).bind (·.dst) with
   | none => rfl
   | some d =>
    simp only [mkA, Option.bind_some, List.getElem?_toArray]
    cases fs[d]? with
    | none => rfl
    | some v => cases v <;> rfl
  simp only [hy]
  cases hd : (ops[g]?).bind (·.dst) with
  | none => rfl
  | some d =>
   simp only
   cases fs[d]? with
   | none => rfl
   | some v => cases v <;> rfl
def wpL (P : Program) (ops : Array Oper) (C : World -> Prop) (Q : Act -> World -> Prop) (ds : List Deferred) (l : List Oper) (I : Lx) (fs : List Value) : Prop := wpT P ops C Q l I (mkA fs ds)
theorem wp_lax_list {id : Nat} {Q : Exit -> Act -> World -> Prop} {w : World} {l : List Oper} (hm : P.follows .mixedOrders = true) (hB : Region.lexB .any l.toArray = true) (hD : dstsB l fs.length = true)
 (h : wpL P l.toArray (Below w.heap.size w) (fun a' w' => Q .normal a' w') ds l [] fs) : (Code.region id l.toArray true).wp P Q ⟨fs.toArray, ds⟩ w :=
 wp_region_lax hm hB (by simpa using hD) h
theorem wp_laxT_list {id : Nat} {Q : Exit -> Act -> World -> Prop} {w : World} {l : List Oper} (n : Nat) (hn : l.length = n + 1) (hm : P.follows .mixedOrders = true) (hB : Region.lexB .any l.toArray = true) (hD : dstsB l fs.length = true) (hW : waitsB l = true)
 (h : wpL P l.toArray (Below w.heap.size w) (fun a' w' => wpList P l.toArray Q (l.drop n) a' w') ds (l.take n) [] fs) : (Code.region id l.toArray true).wp P Q ⟨fs.toArray, ds⟩ w :=
 wp_region_laxT n hn hm hB (by simpa using hD) hW h
theorem wpL_skip (hg : guardKnown ops o I = true) (hw : wantedL ops fs o = false) (k : wpL P ops C Q ds rest I (setL fs o.dst undef)) : wpL P ops C Q ds (o :: rest) I fs :=
 wpT_skip hg (wantedL_eq.trans hw) (by rw [mkA_put]; exact k)
theorem wpL_move {x : Operand} (v : Value) (ho : o.op = .move x) (hv : ev fs x = v) (hx : known I x = true) (hg : guardKnown ops o I = true) (hw : wantedL ops fs o = true) (k : wpL P ops C Q ds rest I (setL fs o.dst v)) : wpL P ops C Q ds (o :: rest) I fs :=
 wpT_move v ho ((mkA_eval x).trans hv) hx hg (wantedL_eq.trans hw) (by rw [mkA_put]; exact k)
theorem wpL_assign {x : Operand} (v : Value) (ho : o.op = .assign x) (hv : ev fs x = v) (hx : known I x = true) (hg : guardKnown ops o I = true) (hw : wantedL ops fs o = true) (k : wpL P ops C Q ds rest I (setL fs o.dst v)) : wpL P ops C Q ds (o :: rest) I fs :=
 wpT_assign v ho ((mkA_eval x).trans hv) hx hg (wantedL_eq.trans hw) (by rw [mkA_put]; exact k)
theorem wpL_run (v : Value) (hs : notSelect o = true) (hl : (o.op.operands.toList.all (known I)) = true) (hg : guardKnown ops o I = true) (hw : wantedL ops fs o = true)
 (hrun : ∀ w, C w -> (execOp (ev fs) o).run P w = .ok (.value v) w) (k : wpL P ops C Q ds rest I (setL fs o.dst v)) : wpL P ops C Q ds (o :: rest) I fs :=
 wpT_run v hs hl hg (wantedL_eq.trans hw) (by rw [mkA_evalF]; exact hrun) (by rw [mkA_put]; exact k)
theorem wpL_runT {d : Tmp} (R : Ty) (hd : o.dst = some d) (hs : notSelect o = true) (hl : (o.op.operands.toList.all (known I)) = true) (hg : guardKnown ops o I = true) (hw : wantedL ops fs o = true)
 (hrun : ∀ w, C w -> ∃ v w', (execOp (ev fs) o).run P w = .ok (.value v) w' /\ R.holds v w' /\ Below w.heap.size w w') (k : wpL P ops C Q ds rest ((d, R) :: I) fs) : wpL P ops C Q ds (o :: rest) I fs :=
 wpT_runT R hd hs hl hg (wantedL_eq.trans hw) (by rw [mkA_evalF]; exact hrun) k
theorem wpL_see {t : Tmp} {R : Ty} (v : Value) (hx : I.lookup t = some R) (hm : (Operand.tmp t) ∈ o.op.operands) (hs : notSelect o = true) (hl : (o.op.operands.toList.all fun x => known I x || isTmp t x) = true) (hg : guardKnown ops o I = true) (hw : wantedL ops fs o = true)
 (hrun : ∀ (u : Value) w, C w -> R.holds u w -> ∀ ρ : Operand -> Value, ρ (.tmp t) = u -> (∀ x, known I x = true -> ρ x = ev fs x) -> ∃ w', (execOp ρ o).run P w = .ok (.value v) w' /\ Below w.heap.size w w') (k : wpL P ops C Q ds rest I (setL fs o.dst v)) : wpL P ops C Q ds (o :: rest) I fs :=
 wpT_see v hx hm hs hl hg (wantedL_eq.trans hw) (fun u w h1 h2 ρ h3 h4 => hrun u w h1 h2 ρ h3 (fun x hx => (h4 x hx).trans (mkA_eval x))) (by rw [mkA_put]; exact k)
theorem wpL_convK {x : Operand} {src dst : TypeId} (u v : Value) (ho : o.op = .convert src dst x) (hu : ev fs x = u) (hx : known I x = true) (hg : guardKnown ops o I = true) (hw : wantedL ops fs o = true)
 (hc : ∀ w, C w -> (convert src dst u).run P w = .ok v w) (k : wpL P ops C Q ds rest I (setL fs o.dst v)) : wpL P ops C Q ds (o :: rest) I fs :=
 wpT_convK v ho hx hg (wantedL_eq.trans hw) (fun w h => by rw [mkA_eval, hu]; exact hc w h) (by rw [mkA_put]; exact k)
theorem wpL_call (v : Value) {f : FuncId} (args : Array Value) (hs : notSelect o = true) (hl : (o.op.operands.toList.all (known I)) = true) (hg : guardKnown ops o I = true) (hw : wantedL ops fs o = true)
 (hent : ∀ w, (execOp (ev fs) o).run P w = .ok (.enter f args) w) (hc : ∀ w, C w -> Calls P f args w fun e w' => e = .returned v /\ Below w.heap.size w w') (k : wpL P ops C Q ds rest I (setL fs o.dst v)) : wpL P ops C Q ds (o :: rest) I fs :=
 wpT_call v args hs hl hg (wantedL_eq.trans hw) (by rw [mkA_evalF]; exact hent) hc (by rw [mkA_put]; exact k)
theorem wpL_callT {d : Tmp} (R : Ty) {f : FuncId} (args : Array Value) (hd : o.dst = some d) (hs : notSelect o = true) (hl : (o.op.operands.toList.all (known I)) = true) (hg : guardKnown ops o I = true) (hw : wantedL ops fs o = true)
 (hent : ∀ w, (execOp (ev fs) o).run P w = .ok (.enter f args) w) (hc : ∀ w, C w -> Calls P f args w fun e w' => ∃ v, e = .returned v /\ R.holds v w' /\ Below w.heap.size w w') (k : wpL P ops C Q ds rest ((d, R) :: I) fs) : wpL P ops C Q ds (o :: rest) I fs :=
 wpT_callT R args hd hs hl hg (wantedL_eq.trans hw) (by rw [mkA_evalF]; exact hent) hc k
theorem wpL_callUV {t : Tmp} {R : Ty} (v : Value) {f : FuncId} (args : Value -> Array Value) (hx : I.lookup t = some R) (hm : (Operand.tmp t) ∈ o.op.operands) (hs : notSelect o = true) (hl : (o.op.operands.toList.all fun x => known I x || isTmp t x) = true) (hg : guardKnown ops o I = true) (hw : wantedL ops fs o = true)
 (hent : ∀ (u : Value) w (ρ : Operand -> Value), ρ (.tmp t) = u -> (∀ x, known I x = true -> ρ x = ev fs x) -> (execOp ρ o).run P w = .ok (.enter f (args u)) w)
 (hc : ∀ (u : Value) w, C w -> R.holds u w -> Calls P f (args u) w fun e w' => e = .returned v /\ Below w.heap.size w w') (k : wpL P ops C Q ds rest I (setL fs o.dst v)) : wpL P ops C Q ds (o :: rest) I fs :=
 wpT_callUV v args hx hm hs hl hg (wantedL_eq.trans hw) (fun u w ρ h1 h2 => hent u w ρ h1 (fun x hx => (h2 x hx).trans (mkA_eval x))) hc (by rw [mkA_put]; exact k)
theorem wpL_run1 {x : Operand} (vx v : Value) (hx : ev fs x = vx) (hs : notSelect o = true) (hl : (o.op.operands.toList.all (known I)) = true) (hg : guardKnown ops o I = true) (hw : wantedL ops fs o = true)
 (hrun : ∀ w (ρ : Operand -> Value), C w -> ρ x = vx -> (∀ c, ρ (.const c) = c) -> (execOp ρ o).run P w = .ok (.value v) w) (k : wpL P ops C Q ds rest I (setL fs o.dst v)) : wpL P ops C Q ds (o :: rest) I fs :=
 wpL_run v hs hl hg hw (fun w hC => hrun w _ hC hx fun _ => rfl) k
theorem wpL_run2 {x y : Operand} (vx vy v : Value) (hx : ev fs x = vx) (hy : ev fs y = vy) (hs : notSelect o = true) (hl : (o.op.operands.toList.all (known I)) = true) (hg : guardKnown ops o I = true) (hw : wantedL ops fs o = true)
 (hrun : ∀ w (ρ : Operand -> Value), C w -> ρ x = vx -> ρ y = vy -> (∀ c, ρ (.const c) = c) -> (execOp ρ o).run P w = .ok (.value v) w) (k : wpL P ops C Q ds rest I (setL fs o.dst v)) : wpL P ops C Q ds (o :: rest) I fs :=
 wpL_run v hs hl hg hw (fun w hC => hrun w _ hC hx hy fun _ => rfl) k
theorem enter_of {P : Program} {f : FuncId} {xs : List Operand} {ts : Array TypeId} {o : Oper} {w : World} (ho : o.op = .call { callee := .value (.func f), args := xs.toArray, argTypes := ts }) (ρ : Operand -> Value) (hρ : ρ (.func f) = .func (.func f) #[] #[])
 (hfn : ∀ (args : Array Value) w, (callFunc f args).run P w = .ok (.enter f args) w) : (execOp ρ o).run P w = .ok (.enter f (xs.map ρ).toArray) w := by
 simp [execOp, ho, resolve, hρ, Deferred.ofValue, invoke, go_sem, hfn]
theorem all_known {f : FuncId} {xs : List Operand} {ts : Array TypeId} (ho : o.op = .call { callee := .value (.func f), args := xs.toArray, argTypes := ts }) (hk : xs.all (known I) = true) : o.op.operands.toList.all (known I) = true := by
 rw [ho]
 simp [Op.operands, Call.operands, known] at *
 exact hk
theorem wpL_fn (v : Value) {f : FuncId} {xs : List Operand} {ts : Array TypeId} (args : List Value) (ho : o.op = .call { callee := .value (.func f), args := xs.toArray, argTypes := ts }) (ha : xs.map (ev fs) = args) (hk : xs.all (known I) = true) (hg : guardKnown ops o I = true) (hw : wantedL ops fs o = true)
 (hfn : ∀ (args : Array Value) w, (callFunc f args).run P w = .ok (.enter f args) w) (hc : ∀ w, C w -> Calls P f args.toArray w fun e w' => e = .returned v /\ Below w.heap.size w w') (k : wpL P ops C Q ds rest I (setL fs o.dst v)) : wpL P ops C Q ds (o :: rest) I fs :=
 wpL_call v args.toArray (by simp [notSelect, ho]) (all_known ho hk) hg hw (fun w => by rw [enter_of ho _ rfl hfn, ha]) hc k
theorem wpL_fnT {d : Tmp} (R : Ty) {f : FuncId} {xs : List Operand} {ts : Array TypeId} (args : List Value) (hd : o.dst = some d) (ho : o.op = .call { callee := .value (.func f), args := xs.toArray, argTypes := ts }) (ha : xs.map (ev fs) = args) (hk : xs.all (known I) = true) (hg : guardKnown ops o I = true) (hw : wantedL ops fs o = true)
 (hfn : ∀ (args : Array Value) w, (callFunc f args).run P w = .ok (.enter f args) w) (hc : ∀ w, C w -> Calls P f args.toArray w fun e w' => ∃ v, e = .returned v /\ R.holds v w' /\ Below w.heap.size w w') (k : wpL P ops C Q ds rest ((d, R) :: I) fs) : wpL P ops C Q ds (o :: rest) I fs :=
 wpL_callT R args.toArray hd (by simp [notSelect, ho]) (all_known ho hk) hg hw (fun w => by rw [enter_of ho _ rfl hfn, ha]) hc k
theorem wpL_fnUV {t : Tmp} {R : Ty} (v : Value) {f : FuncId} {ts : Array TypeId} (ho : o.op = .call { callee := .value (.func f), args := #[.tmp t], argTypes := ts }) (hx : I.lookup t = some R) (hg : guardKnown ops o I = true) (hw : wantedL ops fs o = true)
 (hfn : ∀ (args : Array Value) w, (callFunc f args).run P w = .ok (.enter f args) w) (hc : ∀ (u : Value) w, C w -> R.holds u w -> Calls P f #[u] w fun e w' => e = .returned v /\ Below w.heap.size w w') (k : wpL P ops C Q ds rest I (setL fs o.dst v)) : wpL P ops C Q ds (o :: rest) I fs :=
 wpL_callUV v (fun u => #[u]) hx (by rw [ho]; simp [Op.operands, Call.operands]) (by simp [notSelect, ho]) (by rw [ho]; simp [Op.operands, Call.operands, known, isTmp]) hg hw
  (fun u w ρ h1 h2 => by rw [enter_of (xs := [.tmp t]) ho ρ (h2 (.func f) rfl) hfn]; simp [h1]) hc k
def FinL (Q : Act -> World -> Prop) (ds : List Deferred) : Lx -> List Value -> World -> Prop
 | [], fs, w => Q ⟨fs.toArray, ds⟩ w
 | (d, R) :: I, fs, w => ∀ v, R.holds v w -> FinL Q ds I (fs.set d v) w
theorem finL_finQ : ∀ (I : Lx) (fs : List Value) (w : World), FinL Q ds I fs w -> FinQ Q I (mkA fs ds) w
 | [], _, _, h => h
 | (d, R) :: I, fs, w, h => fun v hv => by rw [mkA_put]; exact finL_finQ I _ w (h v hv)
theorem wpL_end (hk : ((I.map (·.1)).Nodup && (I.map (·.1)).all (· < fs.length)) = true) (h : ∀ w, C w -> FinL Q ds I fs w) : wpL P ops C Q ds [] I fs :=
 wpT_end (by simpa [mkA] using hk) (fun w hw => finL_finQ I fs w (h w hw))
theorem lxS (k : wpL P ops C Q ds rest I (setL fs o.dst undef)) (hg : guardKnown ops o I = true := by kernel_rfl) (hw : wantedL ops fs o = false := by kernel_rfl) : wpL P ops C Q ds (o :: rest) I fs := wpL_skip hg hw k
theorem lxM {x : Operand} (v : Value) (ho : o.op = .move x) (k : wpL P ops C Q ds rest I (setL fs o.dst v)) (hv : ev fs x = v := by kernel_rfl) (hx : known I x = true := by kernel_rfl) (hg : guardKnown ops o I = true := by kernel_rfl) (hw : wantedL ops fs o = true := by kernel_rfl) : wpL P ops C Q ds (o :: rest) I fs := wpL_move v ho hv hx hg hw k
theorem lxR (x : Operand) (vx v : Value) (hrun : ∀ w (ρ : Operand -> Value), C w -> ρ x = vx -> (∀ c, ρ (.const c) = c) -> (execOp ρ o).run P w = .ok (.value v) w) (k : wpL P ops C Q ds rest I (setL fs o.dst v)) (hx : ev fs x = vx := by kernel_rfl) (hs : notSelect o = true := by kernel_rfl) (hl : (o.op.operands.toList.all (known I)) = true := by kernel_rfl) (hg : guardKnown ops o I = true := by kernel_rfl) (hw : wantedL ops fs o = true := by kernel_rfl) : wpL P ops C Q ds (o :: rest) I fs := wpL_run1 vx v hx hs hl hg hw hrun k
theorem lxA (x : Operand) (vx v : Value) (k : wpL P ops C Q ds rest I (setL fs o.dst v)) (hrun : ∀ w (ρ : Operand -> Value), C w -> ρ x = vx -> (∀ c, ρ (.const c) = c) -> (execOp ρ o).run P w = .ok (.value v) w := by intro wx ρ hwx h0 hc; simp [go_sem, h0]) (hx : ev fs x = vx := by kernel_rfl) (hs : notSelect o = true := by kernel_rfl) (hl : (o.op.operands.toList.all (known I)) = true := by kernel_rfl) (hg : guardKnown ops o I = true := by kernel_rfl) (hw : wantedL ops fs o = true := by kernel_rfl) : wpL P ops C Q ds (o :: rest) I fs := wpL_run1 vx v hx hs hl hg hw hrun k
theorem lxT (x y : Operand) (vx vy v : Value) (hrun : ∀ w (ρ : Operand -> Value), C w -> ρ x = vx -> ρ y = vy -> (∀ c, ρ (.const c) = c) -> (execOp ρ o).run P w = .ok (.value v) w) (k : wpL P ops C Q ds rest I (setL fs o.dst v)) (hx : ev fs x = vx := by kernel_rfl) (hy : ev fs y = vy := by kernel_rfl) (hs : notSelect o = true := by kernel_rfl) (hl : (o.op.operands.toList.all (known I)) = true := by kernel_rfl) (hg : guardKnown ops o I = true := by kernel_rfl) (hw : wantedL ops fs o = true := by kernel_rfl) : wpL P ops C Q ds (o :: rest) I fs := wpL_run2 vx vy v hx hy hs hl hg hw hrun k
theorem lxB (x y : Operand) (vx vy v : Value) (k : wpL P ops C Q ds rest I (setL fs o.dst v)) (hrun : ∀ w (ρ : Operand -> Value), C w -> ρ x = vx -> ρ y = vy -> (∀ c, ρ (.const c) = c) -> (execOp ρ o).run P w = .ok (.value v) w := by intro wx ρ hwx h0 h1 hc; simp [go_sem, h0, h1]) (hx : ev fs x = vx := by kernel_rfl) (hy : ev fs y = vy := by kernel_rfl) (hs : notSelect o = true := by kernel_rfl) (hl : (o.op.operands.toList.all (known I)) = true := by kernel_rfl) (hg : guardKnown ops o I = true := by kernel_rfl) (hw : wantedL ops fs o = true := by kernel_rfl) : wpL P ops C Q ds (o :: rest) I fs := wpL_run2 vx vy v hx hy hs hl hg hw hrun k
theorem lxX {id : Nat} {Q : Exit -> Act -> World -> Prop} {w : World} {l : List Oper} (h : wpL P l.toArray (Below w.heap.size w) (fun a' w' => Q .normal a' w') ds l [] fs) (hm : P.follows .mixedOrders = true := by kernel_rfl) (hB : Region.lexB .any l.toArray = true := by kernel_rfl) (hD : dstsB l fs.length = true := by kernel_rfl) : (Code.region id l.toArray true).wp P Q ⟨fs.toArray, ds⟩ w := wp_lax_list hm hB hD h
end lists
end
end Go.Own
end
section
namespace Go.Own
open Go.RowKit
section
variable {B : Nat} {w0 w w1 w2 : World} {Ps : List Asn}
theorem St.adopt (H : St B w0 w1 Ps) (g : Below w1.heap.size w1 w2) {T : Nat -> Prop} (Q : Asn) (hQ : Q.holds T w2) (hT : ∀ k, T k -> w1.heap.size <= k) : St B w0 w2 (Q :: Ps) := by
 obtain ⟨hb, hs, S, ha, hB⟩ := H
 have hst : Step (fun _ => False) (fun _ => False) w1 w2 := ⟨g.os, g.tape, g.output, g.size, fun k hk _ => g.block k hk, fun _ h => h.elim⟩
 refine ⟨hb.trans (g.mono hs), Nat.le_trans hs g.size, fun k => T k \/ S k, ⟨T, S, hQ, ha.keep hst (fun _ _ h => h), fun k h1 h2 => ?_, fun k => Iff.rfl⟩, fun k hk => hk.elim (fun h => Nat.le_trans hs (hT k h)) (hB k)⟩
 have := hT k h1
 have := ha.lt k h2
 omega
theorem St.drop2 {P Q : Asn} (H : St B w0 w (P :: Q :: Ps)) : St B w0 w (P :: Ps) := (H.perm (List.Perm.swap Q P Ps)).drop 1
theorem St.swap2 {P Q : Asn} (H : St B w0 w (P :: Q :: Ps)) : St B w0 w (Q :: P :: Ps) := H.perm (List.Perm.swap Q P Ps)
end
end Go.Own
namespace Go.Proofs.YtahjjcmeocibbaaGreatDoor
open Go.RowKit Go.Own
namespace Byt
section
variable {B : Nat} {w0 : World}
theorem ab_setCells {g n cap : Nat} (i : Nat) : ∀ (r : List UInt8) (o : Nat) (w : World) (Ps : List Asn) (l : List UInt8), Own.St B w0 w Ps -> Ps[i]? = some (AB (some ⟨g, 0, none⟩) n cap l) -> o + r.length <= n ->
 Own.St B w0 (w.setCells g o (r.map byteV)) (Ps.set i (AB (some ⟨g, 0, none⟩) n cap (l.take o ++ r ++ l.drop (o + r.length))))
 | [], o, w, Ps, l, h, hi, hl => by
  have e : l.take o ++ [] ++ l.drop (o + ([] : List UInt8).length) = l := by simp
  rw [e]
  have hs : Ps.set i (AB (some ⟨g, 0, none⟩) n cap l) = Ps := by
   apply List.ext_getElem?
   intro j
   by_cases hj : j = i
   · subst hj
     rw [List.getElem?_set_self (List.getElem?_eq_some_iff.1 hi).1, hi]
   · rw [List.getElem?_set_ne (Ne.symm hj)]
  rw [hs]
  exact h
 | c :: r, o, w, Ps, l, h, hi, hl => by
  have hlen := (ab_len h i hi).1
  have hon : o < n := by simp at hl; omega
  obtain ⟨g', hg', _, _, put⟩ := ab_byte h i hi o hon
  cases hg'
  have hlt : i < Ps.length := (List.getElem?_eq_some_iff.1 hi).1
  have h2 := ab_setCells i r (o + 1) _ _ (l.set o c) (put c) (by rw [List.getElem?_set_self hlt]) (by simp at hl ⊢; omega)
  rw [List.set_set] at h2
  have e : (l.set o c).take (o + 1) ++ r ++ (l.set o c).drop (o + 1 + r.length) = l.take o ++ (c :: r) ++ l.drop (o + (c :: r).length) := by
   have ho : o < l.length := by omega
   have e0 : (l.set o c).take o = l.take o := by
    apply List.ext_getElem?
    intro j
    by_cases hj : j < o
    · rw [List.getElem?_take_of_lt hj, List.getElem?_take_of_lt hj, List.getElem?_set_ne (by omega)]
    · rw [List.getElem?_eq_none (by simp; omega), List.getElem?_eq_none (by simp; omega)]
   have e1 : (l.set o c).drop (o + 1 + r.length) = l.drop (o + (c :: r).length) := by
    apply List.ext_getElem?
    intro j
    rw [List.getElem?_drop, List.getElem?_drop, List.getElem?_set_ne (by omega)]
    congr 1
    simp
    omega
   rw [List.take_succ_eq_append_getElem (by simpa using ho), e0, e1]
   simp
  rw [e] at h2
  exact h2
theorem info8 : (Tryz.prog.info? 5).map (·.size) = some 1 := by kernel_rfl
end
def tyG (l : List UInt8) : Ty := ⟨fun v w => ∃ ao c, v = .slice ao l.length c /\ Given w ao l.length c l, fun ⟨ao, c, h1, h2⟩ g => ⟨ao, c, h1, h2.later g⟩⟩
theorem tyG_str {l : List UInt8} {v : Value} {w : World} (h : (tyG l).holds v w) : (convert 37 9 v).run Tryz.prog w = .ok (.string (strB l)) w := by
 obtain ⟨ao, c, rfl, g⟩ := h
 exact run_str (P := Tryz.prog) 37 5 9 Tryz.underlying37 Tryz.underlying5 Tryz.underlying9 g.view c
end Byt
end Go.Proofs.YtahjjcmeocibbaaGreatDoor
end
