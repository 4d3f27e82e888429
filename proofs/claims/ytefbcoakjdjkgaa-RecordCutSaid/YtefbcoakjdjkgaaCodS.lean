/- Contracts of package codec over the state of a call. -/
import Derived.Test.YtefbcoakjdjkgaaCodB
import Derived.Test.YtefbcoakjdjkgaaCodE
import Derived.Test.YtefbcoakjdjkgaaHeap
namespace Go.Proofs.Ytefbcoakjdjkgaa
open Go.RowKit Go.Own
namespace Cod

/-- a writer, a reader as objects -/
def AW (p : Nat) (s : WS) : Asn where
  holds S w := Wr w S p s
  keep h g hd := h.keep g hd
  lt h := h.lt
def AR (p : Nat) (r : RS) : Asn where
  holds S w := Rd w S p r
  keep h g hd := h.keep g hd
  lt h := h.lt
/-- a slice of bytes of one's own -/
def AB (ao : Option Addr) (n cap : Nat) (l : List UInt8) : Asn := ARow 5 1 (.slice ao n cap) n (l.map byteV)

theorem AB.view {w : World} {S : Nat → Prop} {ao : Option Addr} {n cap : Nat} {l : List UInt8} (h : (AB ao n cap l).holds S w) : View w S ao l := Row.view h
theorem AB.len {w : World} {S : Nat → Prop} {ao : Option Addr} {n cap : Nat} {l : List UInt8} (h : (AB ao n cap l).holds S w) : l.length = n ∧ n ≤ cap ∧ cap ≤ maxLen := by
  obtain ⟨ao', cap', hv, h1, h2, _⟩ := Row.form h
  simp only [Value.slice.injEq, true_and] at hv
  obtain ⟨rfl, rfl⟩ := hv
  exact ⟨by have := h.own.1; simpa using this, h1, h2⟩

section
variable {B : Nat} {w0 w : World} {Ps : List Asn} {p : Nat} {s : WS} {r : RS}

theorem newWriter_st (H : St B w0 w Ps) (room : Int) (h1 : room ≤ 9223372036854775807) :
    Calls Try.prog 19 #[.int .i64 room] w fun e w' => ∃ p, e = .returned (.pointer (some ⟨p, 0, none⟩)) ∧ St B w0 w' (AW p ⟨max room 0, [], 0⟩ :: Ps) := by
  refine (newWriter_any room w h1).mono ?_
  rintro e w' ⟨p, S, he, hW, hs⟩
  exact ⟨p, he, H.new (AW p _) hW hs⟩

theorem num_st (H : St B w0 w Ps) (i : Nat) (hi : Ps[i]? = some (AW p s)) (n : Nat) (many : Int) (hxs : s.xs.length ≤ 100000000) :
    Calls Try.prog 20 #[.pointer (some ⟨p, 0, none⟩), .int .u64 n, .int .i64 many] w fun e w' => e = .returned (.tuple #[]) ∧ St B w0 w' (Ps.set i (AW p (s.num n many))) := by
  obtain ⟨S, hS, _, put⟩ := H.at i hi
  refine (num_any S p s n many w hS hxs).mono ?_
  rintro e w' ⟨he, S', hW, hs⟩
  exact ⟨he, put S' w' (AW p _) hW hs⟩

theorem raw_st (H : St B w0 w Ps) (i : Nat) (hi : Ps[i]? = some (AW p s)) {ao : Option Addr} {bs : List UInt8} (cap : Nat) (hV : View w (fun k => k < B) ao bs) (hbs : bs.length ≤ 100000000) (hxs : s.xs.length ≤ 100000000) :
    Calls Try.prog 22 #[.pointer (some ⟨p, 0, none⟩), .slice ao bs.length cap] w fun e w' => e = .returned (.tuple #[]) ∧ St B w0 w' (Ps.set i (AW p (s.lay bs))) := by
  obtain ⟨S, hS, hB, put⟩ := H.at i hi
  refine (raw_any S _ p s ao bs cap w hS hV (fun k hk h => by have := hB k h; omega) hbs hxs).mono ?_
  rintro e w' ⟨he, S', hW, hs⟩
  exact ⟨he, put S' w' (AW p _) hW hs⟩

theorem raw_own (H : St B w0 w Ps) (i j : Nat) (hij : j ≠ i) (hi : Ps[i]? = some (AW p s)) {ao : Option Addr} {bs : List UInt8} {n cap : Nat} (hj : Ps[j]? = some (AB ao n cap bs)) (hbs : n ≤ 100000000) (hxs : s.xs.length ≤ 100000000) :
    Calls Try.prog 22 #[.pointer (some ⟨p, 0, none⟩), .slice ao n cap] w fun e w' => e = .returned (.tuple #[]) ∧ St B w0 w' (Ps.set i (AW p (s.lay bs))) := by
  obtain ⟨S, D, hS, hD, hd, _, put⟩ := H.at2 i j hij hi hj
  obtain ⟨rfl, _⟩ := AB.len hD
  refine (raw_any S D p s ao bs cap w hS (AB.view hD) hd hbs hxs).mono ?_
  rintro e w' ⟨he, S', hW, hs⟩
  exact ⟨he, put S' w' (AW p _) hW hs⟩

theorem blob_st (H : St B w0 w Ps) (i : Nat) (hi : Ps[i]? = some (AW p s)) {ao : Option Addr} {bs : List UInt8} (cap : Nat) (hV : View w (fun k => k < B) ao bs) (hbs : bs.length ≤ 90000000) (hxs : s.xs.length ≤ 90000000) :
    Calls Try.prog 23 #[.pointer (some ⟨p, 0, none⟩), .slice ao bs.length cap] w fun e w' => e = .returned (.tuple #[]) ∧ St B w0 w' (Ps.set i (AW p (s.blob bs))) := by
  obtain ⟨S, hS, hB, put⟩ := H.at i hi
  refine (blob_any S _ p s ao bs cap w hS hV (fun k hk h => by have := hB k h; omega) hbs hxs).mono ?_
  rintro e w' ⟨he, S', hW, hs⟩
  exact ⟨he, put S' w' (AW p _) hW hs⟩

theorem blob_own (H : St B w0 w Ps) (i j : Nat) (hij : j ≠ i) (hi : Ps[i]? = some (AW p s)) {ao : Option Addr} {bs : List UInt8} {n cap : Nat} (hj : Ps[j]? = some (AB ao n cap bs)) (hbs : n ≤ 90000000) (hxs : s.xs.length ≤ 90000000) :
    Calls Try.prog 23 #[.pointer (some ⟨p, 0, none⟩), .slice ao n cap] w fun e w' => e = .returned (.tuple #[]) ∧ St B w0 w' (Ps.set i (AW p (s.blob bs))) := by
  obtain ⟨S, D, hS, hD, hd, _, put⟩ := H.at2 i j hij hi hj
  obtain ⟨rfl, _⟩ := AB.len hD
  refine (blob_any S D p s ao bs cap w hS (AB.view hD) hd hbs hxs).mono ?_
  rintro e w' ⟨he, S', hW, hs⟩
  exact ⟨he, put S' w' (AW p _) hW hs⟩

theorem out_st (H : St B w0 w Ps) (i : Nat) (hi : Ps[i]? = some (AW p s)) {n : Nat} (hn : s.xs.length = n) (hxs : n ≤ 1000000000) :
    Calls Try.prog 24 #[.pointer (some ⟨p, 0, none⟩)] w fun e w' => ∃ ao cap, e = .returned (.tuple #[.slice ao n cap, .int .i64 s.err]) ∧ St B w0 w' (AB ao n cap s.xs :: Ps) := by
  subst hn
  obtain ⟨S, hS, _, _⟩ := H.at i hi
  refine (out_any S p s w hS hxs).mono ?_
  rintro e w' ⟨ao, cap, T, he, hr, _, hs⟩
  exact ⟨ao, cap, he, H.new (AB ao _ cap s.xs) hr hs⟩

theorem newReader_old (H : St B w0 w Ps) {ao : Option Addr} {l : List UInt8} (cap : Nat) (hV : View w (fun k => k < B) ao l) (hl : l.length ≤ 1000000000) :
    Calls Try.prog 27 #[.slice ao l.length cap] w fun e w' => ∃ p, e = .returned (.pointer (some ⟨p, 0, none⟩)) ∧ St B w0 w' (AR p ⟨l, 0⟩ :: Ps) := by
  refine (newReader_any _ ao l cap w hV hl).mono ?_
  rintro e w' ⟨p, S, he, hR, hs⟩
  exact ⟨p, he, H.new (AR p _) hR hs⟩

theorem newReader_st (H : St B w0 w Ps) (i : Nat) {ao : Option Addr} {l : List UInt8} {n cap : Nat} (hi : Ps[i]? = some (AB ao n cap l)) (hl : n ≤ 1000000000) :
    Calls Try.prog 27 #[.slice ao n cap] w fun e w' => ∃ p, e = .returned (.pointer (some ⟨p, 0, none⟩)) ∧ St B w0 w' (AR p ⟨l, 0⟩ :: Ps) := by
  obtain ⟨S, hS, _, _⟩ := H.at i hi
  obtain ⟨rfl, _⟩ := AB.len hS
  refine (newReader_any S ao l cap w (AB.view hS) hl).mono ?_
  rintro e w' ⟨p, S, he, hR, hs⟩
  exact ⟨p, he, H.new (AR p _) hR hs⟩

theorem rnum_st (H : St B w0 w Ps) (i : Nat) (hi : Ps[i]? = some (AR p r)) (many : Int) {x : Nat × RS} (hx : r.num many = x) (hl : r.l.length ≤ 1000000000) :
    Calls Try.prog 28 #[.pointer (some ⟨p, 0, none⟩), .int .i64 many] w fun e w' => e = .returned (.int .u64 x.1) ∧ St B w0 w' (Ps.set i (AR p x.2)) := by
  subst hx
  obtain ⟨S, hS, _, put⟩ := H.at i hi
  refine (rnum_any S p r many w hS hl).mono ?_
  rintro e w' ⟨he, hR, hs⟩
  exact ⟨he, put S w' (AR p _) hR hs⟩

theorem rraw_st (H : St B w0 w Ps) (i : Nat) (hi : Ps[i]? = some (AR p r)) (n : Int) {x : List UInt8 × RS} (hx : r.raw n = x) {m : Nat} (hm : x.1.length = m) (hl : r.l.length ≤ 1000000000) :
    Calls Try.prog 29 #[.pointer (some ⟨p, 0, none⟩), .int .i64 n] w fun e w' => ∃ ao cap, e = .returned (.slice ao m cap) ∧ St B w0 w' (AB ao m cap x.1 :: Ps.set i (AR p x.2)) := by
  subst hx hm
  obtain ⟨S, hS, put⟩ := H.more i hi
  have hlt := (AR p r).lt hS
  refine (rraw_any S p r n w hS hl).mono ?_
  rintro e w' ⟨ao, cap, T, he, hr, hR, hs, hT⟩
  exact ⟨ao, cap, he, put S T w' (AR p _) (AB ao _ cap _) hR hr hs hT hlt⟩

theorem rblob_st (H : St B w0 w Ps) (i : Nat) (hi : Ps[i]? = some (AR p r)) (n : Int) (hn : n ≤ 9223372036854775807) {x : List UInt8 × RS} (hx : r.blob n = x) {m : Nat} (hm : x.1.length = m) (hl : r.l.length ≤ 1000000000) :
    Calls Try.prog 30 #[.pointer (some ⟨p, 0, none⟩), .int .i64 n] w fun e w' => ∃ ao cap, e = .returned (.slice ao m cap) ∧ St B w0 w' (AB ao m cap x.1 :: Ps.set i (AR p x.2)) := by
  subst hx hm
  obtain ⟨S, hS, put⟩ := H.more i hi
  have hlt := (AR p r).lt hS
  refine (rblob_any S p r n w hS hl hn).mono ?_
  rintro e w' ⟨ao, cap, T, he, hr, hR, hs, hT⟩
  exact ⟨ao, cap, he, put S T w' (AR p _) (AB ao _ cap _) hR hr hs hT hlt⟩

theorem end_st (H : St B w0 w Ps) (i : Nat) (hi : Ps[i]? = some (AR p r)) :
    Calls Try.prog 31 #[.pointer (some ⟨p, 0, none⟩)] w fun e w' => e = .returned (.int .i64 r.fin) ∧ w = w' := by
  obtain ⟨S, hS, _, _⟩ := H.at i hi
  exact end_any S p r w hS
end

end Cod
end Go.Proofs.Ytefbcoakjdjkgaa
