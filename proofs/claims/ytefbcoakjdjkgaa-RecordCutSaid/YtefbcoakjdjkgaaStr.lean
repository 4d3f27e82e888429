/- Bytes as strings: the conversion of a slice that reads as bytes. -/
import Derived.Test.YtefbcoakjdjkgaaOwn
import Derived.Lib.SlBytesRow
import Derived.Lib.Strings
namespace Go.Own
open Go.RowKit

def strB (l : List UInt8) : ByteArray := ⟨l.toArray⟩

theorem strB_nums (l : List UInt8) : strOfNums (l.map fun c => (c.toNat : Int)) = strB l := by
  apply ByteArray.ext
  apply Array.toList_inj.1
  show (strOfNums _).data.toList = (strB l).data.toList
  rw [strOfNums_data, List.map_map]
  show _ = l
  conv => rhs; rw [← List.map_id l]
  apply List.map_congr_left
  intro x _
  simp

theorem strB_toList (l : List UInt8) : (strB l).toList = l := by
  rw [Lib.toList_data]; rfl

theorem run_str {P : Program} {w : World} {D : Nat → Prop} {ao : Option Addr} {l : List UInt8} (src e dst : TypeId) (hs : P.underlying src = some (.slice e)) (he : P.underlying e = some (.int .u8)) (hd : P.underlying dst = some .string) (h : View w D ao l) (cap : Nat) :
    (convert src dst (.slice ao l.length cap)).run P w = .ok (.string (strB l)) w := by
  cases ao with
  | none =>
    rcases h with rfl | ⟨b, o, h, _⟩
    · exact run_convert_bytes_nil w src e hs he _ _ dst hd
    · cases h
  | some a =>
    rcases h with rfl | ⟨b, o, h, _, _, hc⟩
    · rw [run_convert_bytes_string w src dst e _ _ _ hs he hd]
      have := run_bytesToString (P := P) w a 0 cap [] (by simp [loadCells, loadCellsFrom])
      exact this
    · cases h
      have := run_convert_bytes_arg (P := P) w src e hs he b o l.length cap (l.map fun c => (c.toNat : Int)) (by simp) (fun i hi => by rw [hc i hi]; simp [List.getD, hi]) dst hd
      rw [this, strB_nums]

end Go.Own
