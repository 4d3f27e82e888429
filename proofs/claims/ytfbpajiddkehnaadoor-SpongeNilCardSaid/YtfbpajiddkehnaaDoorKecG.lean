/- The table keccak.turns, out of a tied row's condition. -/
import Derived.Test.YtfbpajiddkehnaaDoorKecS
import Derived.Test.YtfbpajiddkehnaaDoorRows
import Derived.LaidMore
import Derived.Lib.LaidTab
namespace Go.Proofs.YtfbpajiddkehnaaDoor
open Go.RowKit Go.Own
namespace Kec
open Go.KecM

/-- the row's condition gives the table -/
def turnZs : List Int := [0, 1, 62, 28, 27, 36, 44, 6, 55, 20, 3, 10, 43, 25, 39, 41, 45, 15, 21, 8, 18, 2, 61, 56, 14]
theorem turnZs_eq : ∀ i : Fin 25, turnZs.getD i.val 0 = ((KecM.turns.getD i.val 0 : Nat) : Int) := by decide
theorem gTurns : Tryd.prog.globalNamed "pumice/keccak.turns" = some 0 := by kernel_rfl
theorem gTurnsT : (Tryd.prog.globals[0]?).map (·.type) = some 54 := by kernel_rfl
theorem tab_of_laid {W : World} (h : laidMetH Tryd.prog [("pumice/keccak.turns", Rows.laid_pumice_keccak_turns)] W) : Tab W := by
  rw [MakeChecks.laidMetH_plain _ _ _ (by kernel_rfl)] at h
  have h' : laidMet Tryd.prog (("pumice/keccak.turns", Lib.tabData .i64 turnZs) :: []) W := h
  have T := Lib.tabIs_of_head gTurns gTurnsT Tryd.underlying54 Tryd.underlying3 (by kernel_rfl) (by kernel_rfl) h'
  intro i hi
  rw [T.cell gTurns i hi, turnZs_eq ⟨i, hi⟩]

end Kec
end Go.Proofs.YtfbpajiddkehnaaDoor
