/- What is laid, item by item, and taken again: plain facts. -/
import Derived.Test.YtjnldgijnpgckaaPuts
import Derived.Test.YtjnldgijnpgckaaCodS
import Derived.Test.YtjnldgijnpgckaaLawNums
import Derived.Test.YtjnldgijnpgckaaStr
namespace Go.Proofs.Ytjnldgijnpgckaa
open Go.RowKit Go.Own
namespace Cod

def lenSum (ps : List PutD) : Nat := (ps.map fun p => p.b.length).sum
theorem lenSum_cons (p : PutD) (ps : List PutD) : lenSum (p :: ps) = p.b.length + lenSum ps := by simp [lenSum]

theorem few_sum : ∀ (ps : List PutD) (left i : Nat), lenSum (ps.take (fewN left i ps)) ≤ left
  | [], left, i => by simp [fewN, lenSum]
  | p :: r, left, i => by
    unfold fewN
    split
    · simp [lenSum]
    · have := few_sum r (left - p.b.length) (i + 1)
      rw [Nat.add_comm 1, List.take_succ_cons, lenSum_cons]
      omega
theorem few_cnt : ∀ (ps : List PutD) (left i : Nat), fewN left i ps ≤ 200 - i
  | [], left, i => by simp [fewN]
  | p :: r, left, i => by
    unfold fewN
    split
    · simp
    · have := few_cnt r (left - p.b.length) (i + 1)
      omega

theorem lenSum_take (ps : List PutD) (k m : Nat) (h : k ≤ m) : lenSum (ps.take k) ≤ lenSum (ps.take m) := by
  have e : ps.take m = ps.take k ++ (ps.drop k).take (m - k) := by
    have := List.take_add (l := ps) (i := k) (j := m - k)
    rw [show k + (m - k) = m by omega] at this
    exact this
  rw [e]
  simp [lenSum]

theorem take_get {α : Type} (ps : List α) (k : Nat) (h : k < ps.length) : ps.take (k + 1) = ps.take k ++ [ps[k]] := by
  rw [List.take_succ_eq_append_getElem h]

/-- the sum of the first ones, with one more -/
theorem lenSum_one (ps : List PutD) (k m : Nat) (hk : k < ps.length) (h : k < m) : lenSum (ps.take k) + ps[k].b.length ≤ lenSum (ps.take m) := by
  have := lenSum_take ps (k + 1) m (by omega)
  rw [take_get ps k hk] at this
  unfold lenSum at this ⊢
  rw [List.map_append, List.sum_append] at this
  simp only [List.map_cons, List.map_nil, List.sum_cons, List.sum_nil, Nat.add_zero] at this
  exact this

def item (p : PutD) : List UInt8 := if p.kind % 3 = 0 then le p.n.toNat 8 else if p.kind % 3 = 1 then p.b else le p.b.length 2 ++ p.b
def encs (ps : List PutD) : List UInt8 := ps.flatMap item
theorem item_len (p : PutD) : (item p).length ≤ 8 + p.b.length := by
  unfold item
  split
  · rw [le_len]; omega
  · split
    · omega
    · rw [List.length_append, le_len]; omega
theorem encs_len (ps : List PutD) : (encs ps).length ≤ 8 * ps.length + lenSum ps := by
  induction ps with
  | nil => simp [encs]
  | cons p r ih =>
    have := item_len p
    rw [lenSum_cons, List.length_cons]
    simp only [encs, List.flatMap_cons, List.length_append] at ih ⊢
    omega
theorem encs_step (ps : List PutD) (k : Nat) (hk : k < ps.length) : encs (ps.take (k + 1)) = encs (ps.take k) ++ item ps[k] := by
  rw [take_get ps k hk]
  unfold encs
  rw [List.flatMap_append]
  simp only [List.flatMap_cons, List.flatMap_nil, List.append_nil]
theorem encs_drop (ps : List PutD) (k : Nat) (hk : k < ps.length) : encs (ps.drop k) = item ps[k] ++ encs (ps.drop (k + 1)) := by
  rw [List.drop_eq_getElem_cons hk]
  unfold encs
  rw [List.flatMap_cons]

theorem lay_fits (s : WS) (bs : List UInt8) (he : s.err = 0) (h : (bs.length : Int) ≤ s.room - s.xs.length) : s.lay bs = ⟨s.room, s.xs ++ bs, 0⟩ := by
  unfold WS.lay
  rw [if_neg (by simpa using he), if_neg (by omega), he]
theorem num_fits (s : WS) (n k : Nat) (he : s.err = 0) (hk : k ≤ 8) (h : (k : Int) ≤ s.room - s.xs.length) : s.num n k = ⟨s.room, s.xs ++ le n k, 0⟩ := by
  unfold WS.num
  rw [if_neg (by simpa using he), if_neg (by omega), Int.toNat_natCast, lay_fits s _ he (by rw [le_len]; exact h)]
theorem blob_fits (s : WS) (bs : List UInt8) (he : s.err = 0) (hb : bs.length ≤ 65535) (h : ((2 + bs.length : Nat) : Int) ≤ s.room - s.xs.length) : s.blob bs = ⟨s.room, s.xs ++ (le bs.length 2 ++ bs), 0⟩ := by
  unfold WS.blob
  rw [if_neg (by simpa using he), if_neg (by omega), lay_fits s _ he (by rw [List.length_append, le_len]; exact h)]

theorem rnum_back (n : Nat) (rest : List UInt8) (hn : n < 2 ^ 64) : RS.num ⟨le n 8 ++ rest, 0⟩ 8 = (n, ⟨rest, 0⟩) := by
  have hl : (le n 8).length = 8 := le_len n 8
  unfold RS.num
  rw [if_neg (by simp), if_neg (by omega), if_neg (by simp [hl]; omega)]
  have e1 : (le n 8 ++ rest).take (Int.toNat 8) = le n 8 := by
    show (le n 8 ++ rest).take 8 = _
    rw [List.take_append_of_le_length (by omega), List.take_of_length_le (by omega)]
  have e2 : (le n 8 ++ rest).drop (Int.toNat 8) = rest := by
    show (le n 8 ++ rest).drop 8 = _
    rw [List.drop_append_of_le_length (by omega), List.drop_eq_nil_of_le (by omega), List.nil_append]
  simp only [e1, e2, num_le]
  rw [Nat.mod_eq_of_lt hn]

theorem rraw_back (b rest : List UInt8) : RS.raw ⟨b ++ rest, 0⟩ b.length = (b, ⟨rest, 0⟩) := by
  unfold RS.raw
  rw [if_neg (by simp), if_neg (by omega), if_neg (by simp; omega)]
  simp

theorem rblob_back (b rest : List UInt8) (hb : b.length ≤ 65535) : RS.blob ⟨le b.length 2 ++ b ++ rest, 0⟩ b.length = (b, ⟨rest, 0⟩) := by
  have hl : (le b.length 2).length = 2 := le_len _ 2
  have e1 : (le b.length 2 ++ b ++ rest).take 2 = le b.length 2 := by
    rw [List.append_assoc, List.take_append_of_le_length (by omega), List.take_of_length_le (by omega)]
  have e2 : (le b.length 2 ++ b ++ rest).drop 2 = b ++ rest := by
    rw [List.append_assoc, List.drop_append_of_le_length (by omega), List.drop_eq_nil_of_le (by omega), List.nil_append]
  have e3 : blobSz (le b.length 2 ++ b ++ rest) b.length = (b.length, 0) := by
    unfold blobSz
    have hn : num (le b.length 2) = b.length := by rw [num_le]; exact Nat.mod_eq_of_lt (by omega)
    rw [if_neg (by simp [hl]), e1, hn, if_neg (by omega), if_neg (by simp [hl])]
  unfold RS.blob
  rw [if_neg (by simp)]
  simp only [e3]
  rw [if_neg (by simp), e2]
  simp

theorem conv_own {B : Nat} {w0 w : World} {Ps : List Asn} (H : St B w0 w Ps) (i : Nat) {ao : Option Addr} {l : List UInt8} {n cap : Nat} (hi : Ps[i]? = some (AB ao n cap l)) :
    (convert 27 9 (.slice ao n cap)).run Try.prog w = .ok (.string (strB l)) w := by
  obtain ⟨S, hS, _⟩ := H.at i hi
  obtain ⟨rfl, _⟩ := AB.len hS
  exact run_str (P := Try.prog) 27 5 9 Try.underlying27 Try.underlying5 Try.underlying9 (AB.view hS) cap

end Cod
end Go.Proofs.Ytjnldgijnpgckaa
