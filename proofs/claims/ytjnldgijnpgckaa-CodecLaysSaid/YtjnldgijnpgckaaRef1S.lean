/- Contracts of the reference's writer over the state of a call; turning bytes of one's own. -/
import Derived.Test.YtjnldgijnpgckaaRef1A
import Derived.Test.YtjnldgijnpgckaaBackP
namespace Go.Proofs.Ytjnldgijnpgckaa
open Go.RowKit Go.Own
namespace Cod

section
variable {B : Nat} {w0 w : World} {Ps : List Asn} {p : Nat} {s : WS}

theorem refnum_st (H : St B w0 w Ps) (i : Nat) (hi : Ps[i]? = some (ARW p s)) (n : Nat) (many : Int) (hn : n < 18446744073709551616) (hxs : s.xs.length ≤ 90000000) :
    Calls Try.prog 13 #[.pointer (some ⟨p, 0, none⟩), .int .u64 n, .int .i64 many] w fun e w' => e = .returned (.tuple #[]) ∧ St B w0 w' (Ps.set i (ARW p (s.num n many))) := by
  obtain ⟨S, hS, _, put⟩ := H.at i hi
  refine (refW_num S p s n many w hS hn hxs).mono ?_
  rintro e w' ⟨he, S', hW, hs⟩
  exact ⟨he, put S' w' (ARW p _) hW hs⟩

theorem refraw_st (H : St B w0 w Ps) (i : Nat) (hi : Ps[i]? = some (ARW p s)) {ao : Option Addr} {bs : List UInt8} (cap : Nat) (hV : View w (fun k => k < B) ao bs) (hcap : ao = none → cap = 0) (hbs : bs.length ≤ 100000000) (hxs : s.xs.length ≤ 100000000) :
    Calls Try.prog 15 #[.pointer (some ⟨p, 0, none⟩), .slice ao bs.length cap] w fun e w' => e = .returned (.tuple #[]) ∧ St B w0 w' (Ps.set i (ARW p (s.lay bs))) := by
  obtain ⟨S, hS, _, put⟩ := H.at i hi
  refine (refW_raw S _ p s ao bs cap w hS hV hcap hbs hxs).mono ?_
  rintro e w' ⟨he, S', hW, hs⟩
  exact ⟨he, put S' w' (ARW p _) hW hs⟩

theorem refblob_st (H : St B w0 w Ps) (i : Nat) (hi : Ps[i]? = some (ARW p s)) {ao : Option Addr} {bs : List UInt8} (cap : Nat) (hV : View w (fun k => k < B) ao bs) (hcap : ao = none → cap = 0) (hbs : bs.length ≤ 90000000) (hxs : s.xs.length ≤ 90000000) :
    Calls Try.prog 17 #[.pointer (some ⟨p, 0, none⟩), .slice ao bs.length cap] w fun e w' => e = .returned (.tuple #[]) ∧ St B w0 w' (Ps.set i (ARW p (s.blob bs))) := by
  obtain ⟨S, hS, hB, put⟩ := H.at i hi
  refine (refW_blob S _ p s ao bs cap w hS hV (fun k hk h => by have := hB k h; omega) hcap hbs hxs).mono ?_
  rintro e w' ⟨he, S', hW, hs⟩
  exact ⟨he, put S' w' (ARW p _) hW hs⟩

/-- what the statement looks into: the reference's two cells -/
theorem ref_look (H : St B w0 w Ps) (i : Nat) (hi : Ps[i]? = some (ARW p s)) :
    ∃ ao cap, w.cell? ⟨p, 0, none⟩ = some (.slice ao s.xs.length cap) ∧ w.cell? ⟨p, 2, none⟩ = some (.int .i64 s.err) ∧ ∀ nq, (convert 27 9 (.slice ao s.xs.length cap)).run Try.prog (w.drewN nq) = .ok (.string (strB s.xs)) (w.drewN nq) := by
  obtain ⟨S, hS, _⟩ := H.at i hi
  obtain ⟨v, room, T, hb, hr, _⟩ := hS
  obtain ⟨ao, cap, rfl, _⟩ := hr.form
  exact ⟨ao, cap, cell_of_block (i := 0) hb rfl, cell_of_block (i := 2) hb rfl, fun nq =>
    run_str (P := Try.prog) 27 5 9 Try.underlying27 Try.underlying5 Try.underlying9 (Row.view (w := w.drewN nq) (T := T) ⟨hr.own, hr.set⟩) cap⟩

/-- one byte of a slice of one's own -/
theorem own_byte {ao : Option Addr} {n cap : Nat} {l : List UInt8} (H : St B w0 w Ps) (i : Nat) (hi : Ps[i]? = some (AB ao n cap l)) (j : Nat) (hj : j < n) :
    ∃ g, ao = some ⟨g, 0, none⟩ ∧ w.cell? ⟨g, j, none⟩ = some (.int .u8 ((l.getD j 0).toNat : Int)) ∧ w.frozen? ⟨g, j, none⟩ = false ∧
      ∀ c : UInt8, St B w0 (w.setCell ⟨g, j, none⟩ (.int .u8 (c.toNat : Int))) (Ps.set i (AB ao n cap (l.set j c))) := by
  obtain ⟨S, hS, _, put⟩ := H.at i hi
  have hlen := (AB.len hS).1
  obtain ⟨hown, hset⟩ := hS
  rcases hown.2 with ⟨hv, rfl⟩ | ⟨g, cap', cur, hv, h0, hb, hnc, hcm, hcs, htake⟩
  · omega
  · simp only [Value.slice.injEq, true_and] at hv
    obtain ⟨rfl, rfl⟩ := hv
    simp only [Nat.mul_one] at hcs htake
    have hcur : cur[j]? = some (byteV (l.getD j 0)) := by
      have : (cur.toList.take n)[j]? = (l.map byteV)[j]? := by rw [htake]
      rw [List.getElem?_take_of_lt hj] at this
      rw [← Array.getElem?_toList, this]
      simp [hlen, hj]
    refine ⟨g, rfl, cell_of_block hb hcur, frozen_of_block hb, fun c => ?_⟩
    refine put S _ (AB (some ⟨g, 0, none⟩) n cap (l.set j c)) ?_ ((Step.refl S w).setCell (a := ⟨g, j, none⟩) (Or.inl ((hset g).2 rfl)) _)
    have := (hown.stored j (byteV c)).1
    rw [← List.map_set] at this
    exact ⟨this, hset⟩
end

end Cod
end Go.Proofs.Ytjnldgijnpgckaa
