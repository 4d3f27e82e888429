/- The landed disk: rows of blocks; apply, begin, has; clones. -/
import Derived.Test.YtkddeccgoamopaaRoc
import Derived.Test.YtkddeccgoamopaaBkaM
import Derived.Test.YtkddeccgoamopaaBakQ
import Derived.Great.Walk
namespace Go.Proofs.Ytkddeccgoamopaa
open Go.RowKit Go.Own
namespace Bak
open Go.BakM Byt

def bRow (v : Value) (n : Nat) (row : List Bs) : Asn := ARow 65 256 v n (row.flatten.map byteV)
def wrCells (a : Put) : List Value := .int .i64 (a.pos : Int) :: a.b.map byteV
theorem wrCells_len {n : Nat} {a : Put} (h : PutOk n a) : (wrCells a).length = 257 := by
  unfold wrCells
  rw [List.length_cons, List.length_map, h.2]
theorem info_blk (l : Bs) (h : l.length = 256) : (Try.prog.info? 65).map (·.size) = some (l.map byteV).toArray.size := by
  have e : (l.map byteV).toArray.size = 256 := by simp [h]
  have h0 : (Try.prog.info? 65).map (fun i => i.size) = some 256 := by kernel_rfl
  rw [e]
  exact h0
theorem info_blkL (l : Bs) (h : l.length = 256) : (Try.prog.info? 65).map (·.size) = some (l.map byteV).length := by
  have h0 : (Try.prog.info? 65).map (fun i => i.size) = some 256 := by kernel_rfl
  rw [List.length_map, h]
  exact h0
theorem flat_cells {row : List Bs} (h : Wide row) (k : Nat) (hk : k < row.length) (b : Bs) (hb : b.length = 256) :
    ((row.set k b).flatten.map byteV) = (row.flatten.map byteV).take (k * 256) ++ b.map byteV ++ (row.flatten.map byteV).drop (k * 256 + (b.map byteV).length) := by
  rw [flat_set k _ h hk, List.map_append, List.map_append, List.map_take, List.map_drop, List.length_map, hb]

set_option maxRecDepth 10000 in
set_option maxHeartbeats 1600000 in
theorem apply_st {B : Nat} {w0 w : World} {Ps : List Asn} {ao : Option Addr} {n cap : Nat} {G : List Bs} (H : Own.St B w0 w (bRow (.slice ao n cap) n G :: Ps)) (hs : Shape G n) (hn : n ≤ 4096) (a : Put) (ha : PutOk n a) :
    Calls Try.prog 31 #[.agg (wrCells a).toArray, .slice ao n cap] w fun e w' => e = .returned (.tuple #[]) ∧ Own.St B w0 w' (bRow (.slice ao n cap) n (G.set a.pos a.b) :: Ps) := by
  obtain ⟨pos, b⟩ := a
  obtain ⟨hp, hb⟩ := ha
  dsimp only at hp hb ⊢
  have hW := wide_of hs
  have hgl := hs.len
  obtain ⟨cs, hcs⟩ : ∃ c, c = wrCells ⟨pos, b⟩ := ⟨_, rfl⟩
  rw [← hcs]
  have hbox := H.boxV 68 cs
  have c0 := (hbox.cellV 0 rfl 0 (by rw [hcs]; rfl)).1
  have RG : Hid ((w.alloc (.cells cs.toArray 68)).rangeAt w.heap.size 1 (b.map byteV)) := fun j v hv => (hbox.cellV 0 rfl (1 + j) (by rw [hcs, Nat.add_comm]; exact hv)).1
  have hb2 := hbox.swap2
  have hlen := hb2.rowLen 0 rfl
  obtain ⟨g, rfl, _, _, _⟩ := hb2.rowAt 0 rfl (pos * 256) (by omega)
  have hcap : n ≤ cap := hlen.2.1
  have hcapM : cap ≤ maxLen := hlen.2.2.1
  have hfl := flat_len hW
  rw [hgl] at hfl
  have THERE : Hid ((w.alloc (.cells cs.toArray 68)).there g (pos * 256) (b.map byteV).toArray.size) := by
    intro j hj
    have hj2 : j < 256 := by simpa [hb] using hj
    obtain ⟨c1, c2⟩ := hb2.rowRange 0 rfl (pos * 256 + j) (by omega)
    refine ⟨?_, c2⟩
    rw [c1, List.getElem?_eq_getElem (by rw [List.length_map]; omega)]
    rfl
  have PUT : Hid (Own.St B w0 ((w.alloc (.cells cs.toArray 68)).setCells g (pos * 256) (b.map byteV).toArray.toList) (bRow (.slice (some ⟨g, 0, none⟩) n cap) n (G.set pos b) :: Ps)) := by
    have h := St.rowCells 0 (b.map byteV) (pos * 256) _ _ _ hb2 rfl (by rw [List.length_map, hb]; omega)
    simp only [List.set_cons_zero] at h
    rw [← flat_cells hW pos (by omega) b hb] at h
    exact h.drop2
  have IB := Lib.hid (info_blk b hb)
  have IL := Lib.hid (info_blkL b hb)
  have OB := Lib.hid (one8 b)
  unfold maxLen at hcapM
  clear hbox hb2 hlen hfl hW hgl hs hcs H hb
  go_enter Try.func31, Try.ntmps31
  go_wp2_with (first
    | (refine wpList_load_mid rfl 65 (.tmp 7) rfl w.heap.size 1 rfl (b.map byteV) _ RG.out Try.underlying65 rfl IL.out ?_)
    | (refine wpList_store_mid rfl 65 (.tmp 9) (.tmp 8) rfl g (pos * 256) (b.map byteV).toArray rfl rfl THERE.out IB.out OB.out ?_))
  go_end0
  exact ⟨rfl, PUT.out⟩

abbrev dkCells (vN vS vP : Value) (n : Nat) (off armed : Bool) (lf : Int) : List Value := [vN, vS, vP, .int .i64 (n : Int), .bool off, .bool armed, .int .i64 lf]
set_option maxHeartbeats 1600000 in
theorem begin_st {B : Nat} {w0 w : World} {Ps : List Asn} {p : Nat} {vN vS vP : Value} {n : Nat} {off armed : Bool} {lf : Int} (H : Own.St B w0 w (AVals p 62 (dkCells vN vS vP n off armed lf) :: Ps)) (hn : n ≤ 1000000) (hl : i64A lf) (hle : armed = true → 0 ≤ lf) :
    Calls Try.prog 30 #[qtr p] w fun e w' => if (off || (armed && decide (lf = 0))) = true then e = .returned (errW 6) ∧ Own.St B w0 w' (AVals p 62 (dkCells vN vS vP n true armed lf) :: Ps)
      else e = .returned (errW 0) ∧ Own.St B w0 w' (AVals p 62 (dkCells vN vS vP (n + 1) false armed (if armed then lf - 1 else lf)) :: Ps) := by
  obtain ⟨l1, l2⟩ := hl
  have c6 := (H.cellV 0 rfl 4 rfl)
  have c7 := (H.cellV 0 rfl 5 rfl)
  have c8 := (H.cellV 0 rfl 6 rfl)
  have c5 := (H.cellV 0 rfl 3 rfl)
  have H0 := Lib.hid H
  clear H
  go_enter Try.func30, Try.ntmps30
  cases off <;> cases armed
  · have H1 := Lib.hid (H0.out.storeV 0 rfl 3 (.int .i64 ((n : Int) + 1)))
    clear hle
    go_wp2
    go_ret
    simp only [Bool.false_or, Bool.false_and, Bool.false_eq_true, if_false]
    exact ⟨rfl, H1.out⟩
  · have hle2 := hle rfl
    clear hle
    by_cases hz : lf = 0
    · have H1 := Lib.hid (H0.out.storeV 0 rfl 4 (.bool true))
      go_wp2
      go_ret
      subst hz
      simp only [Bool.false_or, Bool.true_and, decide_true, if_true]
      exact ⟨rfl, H1.out⟩
    · have h1 := (H0.out.storeV 0 rfl 6 (.int .i64 (lf - 1)))
      have H1 := Lib.hid (h1.storeV 0 rfl 3 (.int .i64 ((n : Int) + 1)))
      have c5 := (h1.cellV 0 rfl 3 rfl)
      clear h1
      go_wp2
      go_ret
      simp only [Bool.false_or, Bool.true_and, hz, decide_false, Bool.false_eq_true, if_false, if_true]
      exact ⟨rfl, H1.out⟩
  · clear hle
    go_wp2
    go_ret
    simp only [Bool.true_or, if_true]
    exact ⟨rfl, H0.out⟩
  · have hle2 := hle rfl
    clear hle
    by_cases hz : lf = 0
    · have H1 := Lib.hid (H0.out.storeV 0 rfl 4 (.bool true))
      go_wp2
      go_ret
      simp only [Bool.true_or, if_true]
      subst hz
      exact ⟨rfl, H1.out⟩
    · go_wp2
      go_ret
      simp only [Bool.true_or, if_true]
      exact ⟨rfl, H0.out⟩

theorem retB {a b : Bool} (h : a = b) : Ending.returned (.bool a) = .returned (.bool b) := by rw [h]
theorem has_st {B : Nat} {w0 w : World} {Ps : List Asn} {p nS cN : Nat} {aN : Option Addr} {vS vP : Value} {n : Nat} {off armed : Bool} {lf : Int} (H : Own.St B w0 w (AVals p 62 (dkCells (.slice aN nS cN) vS vP n off armed lf) :: Ps)) (pos : Int) :
    Calls Try.prog 29 #[qtr p, .int .i64 pos] w fun e w' => e = .returned (.bool (decide (0 ≤ pos ∧ pos < (nS : Int)))) ∧ w' = w := by
  have c1 := (H.cellV 0 rfl 0 rfl).1
  clear H
  go_enter Try.func29, Try.ntmps29
  by_cases h0 : 0 ≤ pos
  · by_cases h1 : pos < (nS : Int)
    · go_wp2
      go_ret
      exact ⟨retB (by first | (simp; done) | (simp; omega) | (rw [Bool.eq_iff_iff]; simp; omega)), rfl⟩
    · go_wp2
      go_ret
      exact ⟨retB (by first | (simp; done) | (simp; omega) | (rw [Bool.eq_iff_iff]; simp; omega)), rfl⟩
  · go_wp2
    go_ret
    exact ⟨retB (by first | (simp; done) | (simp; omega) | (rw [Bool.eq_iff_iff]; simp; omega)), rfl⟩

theorem manyBlk : Many Try.prog 59 65 256 256 := ⟨Try.underlying59, by kernel_rfl, by decide⟩
theorem manyWr : Many Try.prog 60 68 257 264 := ⟨Try.underlying60, by kernel_rfl, by decide⟩
theorem manyByte : Many Try.prog 38 5 1 1 := ⟨Try.underlying38, by kernel_rfl, by decide⟩
set_option maxHeartbeats 800000 in
theorem cloneBlk {B : Nat} {w0 w : World} {Ps : List Asn} {ao : Option Addr} {n cap : Nat} {xs : List Value} (H : Own.St B w0 w (ARow 65 256 (.slice ao n cap) n xs :: Ps)) (h1 : ∀ u ∈ xs, u.oneCell' = true) (hb : n ≤ 100000) :
    Calls Try.prog 25 #[.slice ao n cap] w fun e w' => ∃ a' c', e = .returned (.slice a' n c') ∧ Own.St B w0 w' (ARow 65 256 (.slice a' n c') n xs :: ARow 65 256 (.slice ao n cap) n xs :: Ps) := by
  have hl := H.rowLen 0 rfl
  have H0 := Lib.hid H
  have HO := Lib.hid h1
  have H1 := Lib.hid (H.emptyRow 65 256)
  have HN := Lib.hid (H1.out.rowNews 1 rfl)
  have HL := Lib.hid hl
  clear H h1 hl
  go_enter Try.func25, Try.ntmps25
  rcases ao with _ | a
  · obtain ⟨rfl, rfl⟩ := HL.out.2.2.2 rfl
    have hx : xs = [] := List.eq_nil_of_length_eq_zero (by have := HL.out.1; omega)
    subst hx
    clear HN H1 HO HL
    have hq := eqlNil (P := Try.prog) w 59 _ none 0 0 Try.underlying59
    simp only [Option.isNone_none] at hq
    go_wp2
    go_ret
    exact ⟨none, 0, rfl, H0.out.rowFresh⟩
  · have hq := eqlNil (P := Try.prog) w 59 _ (some a) n cap Try.underlying59
    simp only [Option.isNone_some] at hq
    go_wp2_with (refine wpList_many_append manyBlk rfl (.tmp 5) (.tmp 6) rfl H1.out 0 rfl rfl (some a) n cap xs rfl (by intro h; cases h) HL.out.1 HN.out HO.out (by omega) (by decide) ?_; intro a2 c2 w2 h2; simp only [List.set_cons_zero, Nat.zero_add, List.nil_append] at h2 ⊢; have H2 := Lib.hid h2; clear h2)
    go_ret
    exact ⟨_, _, rfl, H2.out⟩
set_option maxHeartbeats 800000 in
theorem cloneWr {B : Nat} {w0 w : World} {Ps : List Asn} {ao : Option Addr} {n cap : Nat} {xs : List Value} (H : Own.St B w0 w (ARow 68 257 (.slice ao n cap) n xs :: Ps)) (h1 : ∀ u ∈ xs, u.oneCell' = true) (hb : n ≤ 100000) :
    Calls Try.prog 26 #[.slice ao n cap] w fun e w' => ∃ a' c', e = .returned (.slice a' n c') ∧ Own.St B w0 w' (ARow 68 257 (.slice a' n c') n xs :: ARow 68 257 (.slice ao n cap) n xs :: Ps) := by
  have hl := H.rowLen 0 rfl
  have H0 := Lib.hid H
  have HO := Lib.hid h1
  have H1 := Lib.hid (H.emptyRow 68 257)
  have HN := Lib.hid (H1.out.rowNews 1 rfl)
  have HL := Lib.hid hl
  clear H h1 hl
  go_enter Try.func26, Try.ntmps26
  rcases ao with _ | a
  · obtain ⟨rfl, rfl⟩ := HL.out.2.2.2 rfl
    have hx : xs = [] := List.eq_nil_of_length_eq_zero (by have := HL.out.1; omega)
    subst hx
    clear HN H1 HO HL
    have hq := eqlNil (P := Try.prog) w 60 _ none 0 0 Try.underlying60
    simp only [Option.isNone_none] at hq
    go_wp2
    go_ret
    exact ⟨none, 0, rfl, H0.out.rowFresh⟩
  · have hq := eqlNil (P := Try.prog) w 60 _ (some a) n cap Try.underlying60
    simp only [Option.isNone_some] at hq
    go_wp2_with (refine wpList_many_append manyWr rfl (.tmp 5) (.tmp 6) rfl H1.out 0 rfl rfl (some a) n cap xs rfl (by intro h; cases h) HL.out.1 HN.out HO.out (by omega) (by decide) ?_; intro a2 c2 w2 h2; simp only [List.set_cons_zero, Nat.zero_add, List.nil_append] at h2 ⊢; have H2 := Lib.hid h2; clear h2)
    go_ret
    exact ⟨_, _, rfl, H2.out⟩
set_option maxHeartbeats 800000 in
/-- bytes.Clone of cells that lie anywhere -/
theorem cloneBytes {B : Nat} {w0 w : World} {Ps : List Asn} (H : Own.St B w0 w Ps) (a : Addr) (n cap : Nat) (l : Bs) (hl : l.length = n) (hc : ∀ j u, (l.map byteV)[j]? = some u → w.cell? (a.add j) = some u) (hlt : n = 0 ∨ a.block < w.heap.size) (hb : n ≤ 100000) :
    Calls Try.prog 37 #[.slice (some a) n cap] w fun e w' => ∃ a' c', e = .returned (.slice a' n c') ∧ Own.St B w0 w' (AB a' n c' l :: Ps) := by
  have H1 := Lib.hid (H.emptyRow 5 1)
  have HL : Hid ((l.map byteV).length = n * 1) := by show (l.map byteV).length = n * 1; simp [hl]
  have HN : Hid (∀ a', some a = some a' → ∀ j u, (l.map byteV)[j]? = some u → (w.alloc (.cells #[] 5)).cell? (a'.add j) = some u) := by
    intro a' ha j u hu
    cases ha
    exact cell_alloc (hc j u hu) _
  clear H hc hlt
  have hq := eqlNil (P := Try.prog) w 38 _ (some a) n cap Try.underlying38
  simp only [Option.isNone_some] at hq
  go_enter Try.func37, Try.ntmps37
  go_wp2_with (refine wpList_many_append manyByte rfl (.tmp 5) (.tmp 6) rfl H1.out 0 rfl rfl (some a) n cap (l.map byteV) rfl (by intro h; cases h) HL.out HN.out (byteV_one _) (by omega) (by decide) ?_; intro a2 c2 w2 h2; simp only [List.set_cons_zero, Nat.zero_add, List.nil_append] at h2 ⊢; have H2 := Lib.hid h2; clear h2)
  go_ret
  exact ⟨_, _, rfl, H2.out⟩
end Bak
end Go.Proofs.Ytkddeccgoamopaa
