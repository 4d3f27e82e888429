/- Package codec: what fits, what comes back; bytes of one's own as a string. -/
import Derived.Test.YtefbcoakjdjkgaaCodS
import Derived.Test.YtefbcoakjdjkgaaStr
namespace Go.Proofs.Ytefbcoakjdjkgaa
open Go.RowKit Go.Own
namespace Cod

theorem num_le (n k : Nat) : num (le n k) = n % 2 ^ (8 * k) := by
  induction k with
  | zero => simp [le, num, Nat.mod_one]
  | succ k ih =>
    rw [le, num_snoc, ih, le_len]
    have e : 2 ^ (8 * (k + 1)) = 2 ^ (8 * k) * 256 := by rw [Nat.mul_add, Nat.pow_add]
    rw [e, Nat.mod_mul]
    simp

theorem lay_fits (s : WS) (bs : List UInt8) (he : s.err = 0) (h : (bs.length : Int) ≤ s.room - s.xs.length) : s.lay bs = ⟨s.room, s.xs ++ bs, 0⟩ := by
  unfold WS.lay
  rw [if_neg (by simpa using he), if_neg (by omega), he]
theorem num_fits (s : WS) (n k : Nat) (he : s.err = 0) (hk : k ≤ 8) (h : (k : Int) ≤ s.room - s.xs.length) : s.num n k = ⟨s.room, s.xs ++ le n k, 0⟩ := by
  unfold WS.num
  rw [if_neg (by simpa using he), if_neg (by omega), Int.toNat_natCast, lay_fits s _ he (by rw [le_len]; exact h)]
theorem blob_fits (s : WS) (bs : List UInt8) (he : s.err = 0) (hb : bs.length ≤ 65535) (h : ((2 + bs.length : Nat) : Int) ≤ s.room - s.xs.length) : s.blob bs = ⟨s.room, s.xs ++ (le bs.length 2 ++ bs), 0⟩ := by
  unfold WS.blob
  rw [if_neg (by simpa using he), if_neg (by omega), lay_fits s _ he (by rw [List.length_append, le_len]; exact h)]

theorem rnum_back (n : Nat) (rest : List UInt8) (hn : n < 2 ^ 64) : RS.num ⟨le n 8 ++ rest, 0⟩ 8 = (n, ⟨rest, 0⟩) := by
  have hl : (le n 8).length = 8 := le_len n 8
  unfold RS.num
  rw [if_neg (by simp), if_neg (by omega), if_neg (by simp [hl]; omega)]
  have e1 : (le n 8 ++ rest).take (Int.toNat 8) = le n 8 := by
    show (le n 8 ++ rest).take 8 = _
    rw [List.take_append_of_le_length (by omega), List.take_of_length_le (by omega)]
  have e2 : (le n 8 ++ rest).drop (Int.toNat 8) = rest := by
    show (le n 8 ++ rest).drop 8 = _
    rw [List.drop_append_of_le_length (by omega), List.drop_eq_nil_of_le (by omega), List.nil_append]
  simp only [e1, e2, num_le]
  rw [Nat.mod_eq_of_lt hn]

theorem rraw_back (b rest : List UInt8) : RS.raw ⟨b ++ rest, 0⟩ b.length = (b, ⟨rest, 0⟩) := by
  unfold RS.raw
  rw [if_neg (by simp), if_neg (by omega), if_neg (by simp; omega)]
  simp

theorem rblob_back (b rest : List UInt8) (hb : b.length ≤ 65535) : RS.blob ⟨le b.length 2 ++ b ++ rest, 0⟩ b.length = (b, ⟨rest, 0⟩) := by
  have hl : (le b.length 2).length = 2 := le_len _ 2
  have e1 : (le b.length 2 ++ b ++ rest).take 2 = le b.length 2 := by
    rw [List.append_assoc, List.take_append_of_le_length (by omega), List.take_of_length_le (by omega)]
  have e2 : (le b.length 2 ++ b ++ rest).drop 2 = b ++ rest := by
    rw [List.append_assoc, List.drop_append_of_le_length (by omega), List.drop_eq_nil_of_le (by omega), List.nil_append]
  have e3 : blobSz (le b.length 2 ++ b ++ rest) b.length = (b.length, 0) := by
    unfold blobSz
    have hn : num (le b.length 2) = b.length := by rw [num_le]; exact Nat.mod_eq_of_lt (by omega)
    rw [if_neg (by simp [hl]), e1, hn, if_neg (by omega), if_neg (by simp [hl])]
  unfold RS.blob
  rw [if_neg (by simp)]
  simp only [e3]
  rw [if_neg (by simp), e2]
  simp

theorem conv_own {B : Nat} {w0 w : World} {Ps : List Asn} (H : St B w0 w Ps) (i : Nat) {ao : Option Addr} {l : List UInt8} {n cap : Nat} (hi : Ps[i]? = some (AB ao n cap l)) :
    (convert 28 9 (.slice ao n cap)).run Try.prog w = .ok (.string (strB l)) w := by
  obtain ⟨S, hS, _⟩ := H.at i hi
  obtain ⟨rfl, _⟩ := AB.len hS
  exact run_str (P := Try.prog) 28 5 9 Try.underlying28 Try.underlying5 Try.underlying9 (AB.view hS) cap

/-- one byte of a slice of one's own -/
theorem own_byte {B : Nat} {w0 w : World} {Ps : List Asn} {ao : Option Addr} {n cap : Nat} {l : List UInt8} (H : St B w0 w Ps) (i : Nat) (hi : Ps[i]? = some (AB ao n cap l)) (j : Nat) (hj : j < n) :
    ∃ g, ao = some ⟨g, 0, none⟩ ∧ w.cell? ⟨g, j, none⟩ = some (.int .u8 ((l.getD j 0).toNat : Int)) ∧ w.frozen? ⟨g, j, none⟩ = false ∧
      ∀ c : UInt8, St B w0 (w.setCell ⟨g, j, none⟩ (.int .u8 (c.toNat : Int))) (Ps.set i (AB ao n cap (l.set j c))) := by
  obtain ⟨S, hS, _, put⟩ := H.at i hi
  have hlen := (AB.len hS).1
  obtain ⟨hown, hset⟩ := hS
  rcases hown.2 with ⟨hv, rfl⟩ | ⟨g, cap', cur, hv, h0, hb, hnc, hcm, hcs, htake⟩
  · omega
  · simp only [Value.slice.injEq, true_and] at hv
    obtain ⟨rfl, rfl⟩ := hv
    simp only [Nat.mul_one] at hcs htake
    have hcur : cur[j]? = some (byteV (l.getD j 0)) := by
      have : (cur.toList.take n)[j]? = (l.map byteV)[j]? := by rw [htake]
      rw [List.getElem?_take_of_lt hj] at this
      rw [← Array.getElem?_toList, this]
      simp [hlen, hj]
    refine ⟨g, rfl, cell_of_block hb hcur, frozen_of_block hb, fun c => ?_⟩
    refine put S _ (AB (some ⟨g, 0, none⟩) n cap (l.set j c)) ?_ ((Step.refl S w).setCell (a := ⟨g, j, none⟩) (Or.inl ((hset g).2 rfl)) _)
    have := (hown.stored j (byteV c)).1
    rw [← List.map_set] at this
    exact ⟨this, hset⟩

theorem madeCells_bytes (n : Nat) : (madeCells (Value.int .u8 0).cells (n * 1)).toList = (List.replicate n (0 : UInt8)).map byteV := by
  unfold madeCells
  apply List.ext_getElem?
  intro i
  by_cases hi : i < n
  · simp [hi, Value.cells, byteV, Nat.mod_one]
  · simp [hi]

/-- make([]byte, n) -/
theorem make_bytes {B : Nat} {w0 w : World} {Ps : List Asn} (H : St B w0 w Ps) (kl kc : IntKind) (n : Nat) (hn : n ≤ 1000000000) :
    ∃ w', (Instr.makeSlice 28 (.int kl (n : Int)) (.int kc (n : Int))).run Try.prog w = .ok (.slice (some ⟨w.heap.size, 0, none⟩) n n) w' ∧ St B w0 w' (AB (some ⟨w.heap.size, 0, none⟩) n n (List.replicate n 0) :: Ps) := by
  obtain ⟨i0, hi, hz0, hz1, hz2⟩ := info_parts Try.infoU8
  obtain ⟨w', hr, hown, hg⟩ := run_make_full (P := Try.prog) w 0 28 5 i0 (.int .u8 0) 1 Try.underlying28 hi hz0 hz1 kl kc n (by rw [hz2]; omega) (by unfold maxLen; omega) (Nat.zero_le _)
  rw [madeCells_bytes] at hown
  refine ⟨w', hr, H.new (S' := fun k => k = w.heap.size) (AB _ n n _) ⟨hown, fun k => by simp [Value.ownBlock, eq_comm]⟩ ?_⟩
  exact ((Step.refl (fun _ => False) w).grown hg (by intro k hk; cases hk)).to (fun k hk => .inr (Nat.le_of_eq hk.symm))

end Cod
end Go.Proofs.Ytefbcoakjdjkgaa
