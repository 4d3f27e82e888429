/- The landed flash keeps what the walks ask. -/
import Derived.Test.YtepllhfofhehaaaFlbN
namespace Go.Proofs.Ytepllhfofhehaaa
open Go.RowKit Go.Own
namespace Fla
open Go.FlaM Byt
noncomputable def kept (W : World) : Kept W where
  A := AFl
  new segs pages _ H h1 h2 := new_any segs pages H h1 h2
  program seg page ao n cap x _ H ok hN h1 h2 hl hn := program_any H ok hN seg page h1 h2 ao n cap x hl hn
  erase seg _ H ok hN h := erase_any H ok hN seg h
  barrier _ H ok hN := barrier_any H ok hN
  read seg page _ H ok hN h1 h2 := read_any H ok hN seg page h1 h2
  cut after _ H _ _ h := cut_any H after h
  crash ao n cap l _ H ok hN hl := crash_any H ok hN ao n cap l hl
  copy _ H ok hN := copy_any H ok hN
  segs _ H ok _ := segs_any H ok
  pages _ H _ _ := pages_any H
  wear seg _ H ok hN h := wear_any H ok hN seg h
  dead _ H _ _ := dead_any H
  done _ H _ _ := doneB_any H
  nilProgram := nilProgram_any
  nilErase := nilErase_any
  nilBarrier := nilBarrier_any
  nilRead := nilRead_any
  nilCut := nilCut_any
  nilCrash := nilCrash_any
  nilCopy := nilCopy_any
  nilSegs := nilSegs_any
  nilPages := nilPages_any
  nilWear := nilWear_any
  nilDead := nilDead_any
  nilDone := nilDone_any
end Fla
end Go.Proofs.Ytepllhfofhehaaa
