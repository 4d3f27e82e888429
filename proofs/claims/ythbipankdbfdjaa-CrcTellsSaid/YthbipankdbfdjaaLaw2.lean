/- The examples at the head of all statements of layer 2; the first bytes of an argument. -/
import Derived.Test.YthbipankdbfdjaaCrcQ
import Derived.Test.YthbipankdbfdjaaIn
import Derived.Lib.SlBytesConst
namespace Go.Proofs.Ythbipankdbfdjaa
open Go.RowKit Go.Own
namespace Crc
open Go.CrcM Cod

def RetTrue (w : World) (e : Ending) (w' : World) : Prop := e = .returned (.bool true) ∧ Below w.heap.size w w'

/-- a new block of bytes -/
theorem view_new (w : World) (l : List UInt8) (t : TypeId) (fz : Nat × Nat) : View (w.alloc (.cells (l.map byteV).toArray t fz)) (fun k => k = w.heap.size) (some ⟨w.heap.size, 0, none⟩) l := by
  refine .inr ⟨w.heap.size, 0, rfl, rfl, by simp, fun j hj => ?_⟩
  have hb : (w.alloc (.cells (l.map byteV).toArray t fz)).heap[w.heap.size]? = some (.cells (l.map byteV).toArray t fz) := heap_alloc_new w _
  exact cell_of_block (i := 0 + j) hb (by simp [byteV, hj])

set_option maxHeartbeats 400000 in
theorem shown_any (w : World) : Calls Try.prog 12 #[] w (RetTrue w) := by
  have kc := fun (wx : World) (C : Array Value) (n c : Nat) => Lib.run_convert_bytes_const (P := Try.prog) wx 23 5 C n c Try.underlying23 Try.underlying5
  have h0 : msum 0 [] = 0 := by decide
  have h9 : msum 0 [49, 50, 51, 52, 53, 54, 55, 56, 57] = 0xCBF43926#32 := by decide +kernel
  have hs : sealed [] = [0, 0, 0, 0] := by decide
  have H9 := Lib.hid h9
  have HS := Lib.hid hs
  have c1 := sum_any (fun _ => False) none [] 0 w (.inl rfl) (by simp)
  rw [h0] at c1
  clear h0 h9 hs
  go_enter Try.func12, Try.ntmps12
  go_wp2_with (fail)
  refine c1.mono ?_
  clear c1
  rintro e w1 ⟨rfl, rfl⟩
  go_wp2_with (fail)
  have c2 := sum_any _ (some ⟨w.heap.size, 0, none⟩) [49, 50, 51, 52, 53, 54, 55, 56, 57] 9 _ (view_new w [49, 50, 51, 52, 53, 54, 55, 56, 57] 5 (9, 10)) (by simp)
  rw [H9.out] at c2
  refine c2.mono ?_
  clear c2
  rintro e w2 ⟨rfl, hw2⟩
  have hb2 : Hid (Below w.heap.size w w2) := by show Below w.heap.size w w2; rw [← hw2]; exact (Below.refl w.heap.size w).alloc (Nat.le_refl _) _
  clear hw2
  go_wp2_with (fail)
  refine (seal_any (fun _ => False) none [] 0 4 w2 (.inl rfl) (by simp) rfl).mono ?_
  rintro e w3 ⟨v, rfl, a3, c3, T3, rfl, hr3, hs3⟩
  rw [HS.out] at hr3
  have hb3 := Lib.hid (hb2.out.trans ((below_of_step hs3).mono hb2.out.size))
  have hstr := tyB_str (l := [0, 0, 0, 0]) (n := 4) ⟨a3, c3, T3, rfl, hr3⟩
  have hcs : (strB [0, 0, 0, 0]).toList = [0, 0, 0, 0] := strB_toList _
  clear hr3 hs3
  go_wp2_with (fail)
  go_ret
  exact ⟨rfl, hb3.out⟩

/-- the first bytes -/
def fw (l : List UInt8) : List UInt8 := l.take 50000
theorem fw_len (l : List UInt8) : (fw l).length = min l.length 50000 := by unfold fw; rw [List.length_take]; omega

theorem few_any (ao : Option Addr) (l : List UInt8) (cap : Nat) (w : World) (hno : ao = none → l = [] ∧ cap = 0) (hl : l.length ≤ cap) (hc : cap ≤ maxLen) :
    Calls Try.prog 11 #[.slice ao l.length cap] w fun e w' => e = .returned (.slice ao (fw l).length cap) ∧ w = w' := by
  unfold maxLen at hc
  cases ao with
  | none =>
    obtain ⟨rfl, rfl⟩ := hno rfl
    go_enter Try.func11, Try.ntmps11
    go_wp2
    go_ret
    exact ⟨rfl, rfl⟩
  | some a =>
    have hf := Lib.hid (fw_len l)
    obtain ⟨len, hlen⟩ : ∃ len, len = l.length := ⟨_, rfl⟩
    rw [← hlen] at hl hf ⊢
    clear hlen hno
    have hm : Hid (min len 50000 = (min (len : Int) 50000).toNat) := by show min len 50000 = _; omega
    go_enter Try.func11, Try.ntmps11
    go_wp2
    go_ret
    exact ⟨by rw [hf.out, hm.out]; rfl, rfl⟩

/-- a number of 32 bits as a register -/
theorem reg_of {a : Int} (h : (Lit.int .u32 a).wf = true) : ∃ s : R, a = (s.toNat : Int) := by
  have h' : 0 ≤ a ∧ a ≤ 4294967295 := by simpa [Lit.wf, IntKind.min, IntKind.max, IntKind.signed, IntKind.bits] using h
  refine ⟨BitVec.ofNat 32 a.toNat, ?_⟩
  rw [BitVec.toNat_ofNat, Nat.mod_eq_of_lt (by omega)]
  omega

/-- bytes that came in, and their first ones -/
theorem in_few {l : List UInt8} {w : World} {ao : Option Addr} {n cap : Nat} (h : inBytes l w.heap.size w [.slice ao n cap]) :
    n = l.length ∧ n ≤ cap ∧ cap ≤ maxLen ∧ (ao = none → l = [] ∧ cap = 0) ∧ View w (fun k => k < w.heap.size) ao l ∧ View w (fun k => k < w.heap.size) ao (fw l) := by
  obtain ⟨ao', cap', h1, h2, h3, h4, h5⟩ := h
  simp only [List.cons.injEq, Value.slice.injEq, and_true] at h1
  obtain ⟨rfl, rfl, rfl⟩ := h1
  exact ⟨rfl, h2, h3, fun e => ⟨view_none h5 e, h4 e⟩, h5, View.take h5 50000⟩

theorem few_in {l : List UInt8} {W w : World} {ao : Option Addr} {n cap m : Nat} (h : inBytes l W.heap.size W [.slice ao n cap]) (hm : (fw l).length = m) :
    Calls Try.prog 11 #[.slice ao n cap] w fun e w' => e = .returned (.slice ao m cap) ∧ w = w' := by
  obtain ⟨rfl, h1, h2, h3, _, _⟩ := in_few h
  subst hm
  exact few_any ao l cap w h3 h1 h2

theorem seal_ty {W w : World} {D : Nat → Prop} {ao : Option Addr} {l : List UInt8} {len : Nat} (cap n : Nat) (hV : View W D ao l) (hlen : l.length = len) (hl : len ≤ 90000000) (hn : n = len + 4) (hb : Below W.heap.size W w) :
    Calls Try.prog 18 #[.slice ao len cap] w fun e w' => ∃ v, e = .returned v ∧ (tyB (sealed l) n).holds v w' ∧ Below w.heap.size w w' := by
  subst hlen
  refine (seal_any _ ao l cap n w (view_later hV hb) hl hn).mono ?_
  rintro e w' ⟨v, he, a, c, T, hv, hr, hs⟩
  exact ⟨v, he, ⟨a, c, T, hv, hr⟩, below_of_step hs⟩

theorem openOf_take (l : List UInt8) : openOf l = ([], false) ∨ openOf l = (l.take (l.length - 4), true) := by
  unfold openOf
  split
  · exact .inr rfl
  · exact .inl rfl

/-- what the document's Open answers, as a string at any later time -/
theorem refOpen_v (D : Nat → Prop) (ao : Option Addr) (l : List UInt8) (len cap : Nat) (w : World) (hV : View w D ao l) (hlen : l.length = len) (hcap : ao = none → cap = 0) (hc1 : len ≤ cap) (hc2 : cap ≤ maxLen) (hl : len ≤ 90000000) :
    Calls Try.prog 17 #[.slice ao len cap] w fun e w' => Below w.heap.size w w' ∧ ∃ v, e = .returned (.tuple #[v, .bool (openOf l).2]) ∧ ∀ wx, Below w'.heap.size w' wx → (convert 23 9 v).run Try.prog wx = .ok (.string (strB (openOf l).1)) wx := by
  subst hlen
  refine (refOpen_any D ao l cap w hV hcap hc1 hc2 hl).mono ?_
  rintro e w' ⟨hb, ⟨hx, rfl⟩ | ⟨ht, rfl⟩⟩
  · refine ⟨hb, _, by rw [hx], fun wx _ => ?_⟩
    rw [hx]
    exact run_str (P := Try.prog) (l := []) (D := fun _ => False) 23 5 9 Try.underlying23 Try.underlying5 Try.underlying9 (.inl rfl) 0
  · refine ⟨hb, _, by rw [ht], fun wx hbx => ?_⟩
    have hv : View w D ao (openOf l).1 := by
      rcases openOf_take l with h | h
      · rw [h] at ht; simp at ht
      · rw [h]; exact View.take hV _
    exact str_old (W := w) hv rfl cap (hb.trans (hbx.mono hb.size))

theorem openOf_is {l d : List UInt8} {t : Bool} (h : openOf l = (d, t)) : (t = true → sealed d = l) ∧ (t = false → d = [] ∧ sealed d ≠ l) := by
  unfold openOf at h
  split at h
  · rename_i hc
    simp only [Prod.mk.injEq] at h
    obtain ⟨rfl, rfl⟩ := h
    refine ⟨fun _ => ?_, (fun h => by cases h)⟩
    unfold sealed
    rw [← hc.2, List.take_append_drop]
  · rename_i hc
    simp only [Prod.mk.injEq] at h
    obtain ⟨rfl, rfl⟩ := h
    refine ⟨(fun h => by cases h), fun _ => ⟨rfl, fun hs => ?_⟩⟩
    rw [← hs] at hc
    exact hc (by decide)

end Crc
end Go.Proofs.Ythbipankdbfdjaa
