/- A state that came in as numbers, as words. -/
import Derived.Test.YtjegjegofnehoaaDoorIn
import Derived.Test.YtjegjegofnehoaaDoorKecQ
import Derived.LaidMore
import Derived.Lib.LaidTab
namespace Go.Proofs.YtjegjegofnehoaaDoor
open Go.RowKit Go.Own
namespace Kec
open Go.KecM

theorem words_of {l : List Int} {B : Nat} {w : World} {cs : List Value} (h : inInts .u64 25 l B w cs) : ∃ s : KecM.St, s.length = 25 ∧ cs = s.map u64V := by
  obtain ⟨h1, h2, h3⟩ := h
  refine ⟨l.map (fun a => BitVec.ofNat 64 a.toNat), by simp [h2], ?_⟩
  rw [h1, List.map_map]
  apply List.map_congr_left
  intro a ha
  obtain ⟨i, hi, rfl⟩ := List.mem_iff_getElem.1 ha
  have hw : 0 ≤ l[i] ∧ l[i] ≤ 18446744073709551615 := by simpa [Lit.wf, IntKind.min, IntKind.max, IntKind.signed, IntKind.bits] using h3 i hi
  simp only [Function.comp, u64V, BitVec.toNat_ofNat]
  rw [Nat.mod_eq_of_lt (by omega)]
  congr 1
  omega

/-- the row's condition gives the table -/
def turnZs : List Int := [0, 1, 62, 28, 27, 36, 44, 6, 55, 20, 3, 10, 43, 25, 39, 41, 45, 15, 21, 8, 18, 2, 61, 56, 14]
theorem turnZs_eq : ∀ i : Fin 25, turnZs.getD i.val 0 = ((KecM.turns.getD i.val 0 : Nat) : Int) := by decide
theorem gTurns : Tryd.prog.globalNamed "pumice/keccak.turns" = some 0 := by kernel_rfl
theorem gTurnsT : (Tryd.prog.globals[0]?).map (·.type) = some 37 := by kernel_rfl
theorem tab_of_laid {W : World} (h : laidMetH Tryd.prog [("pumice/keccak.turns", Rows.laid_pumice_keccak_turns)] W) : Tab W := by
  rw [MakeChecks.laidMetH_plain _ _ _ (by kernel_rfl)] at h
  have h' : laidMet Tryd.prog (("pumice/keccak.turns", Lib.tabData .i64 turnZs) :: []) W := h
  have T := Lib.tabIs_of_head gTurns gTurnsT Tryd.underlying37 Tryd.underlying3 (by kernel_rfl) (by kernel_rfl) h'
  intro i hi
  rw [T.cell gTurns i hi, turnZs_eq ⟨i, hi⟩]

end Kec
end Go.Proofs.YtjegjegofnehoaaDoor
