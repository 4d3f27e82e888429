/- The landed headAt and within; Longest. -/
import Derived.Test.YthmnaofmpijbiaaMatL
import Derived.Test.YthmnaofmpijbiaaMatS
import Derived.Test.YthmnaofmpijbiaaMatT
import Derived.Test.YthmnaofmpijbiaaMatK
import Derived.Laws.Cover3
namespace Go.Proofs.Ythmnaofmpijbiaa
open Go.RowKit Go.Own
namespace Mat
open Go.MatM Byt

set_option maxHeartbeats 1000000 in
theorem headAt_any (ao : Option Addr) (len cap : Nat) (l : Bs) (t : Nat) (w : World) (hG : Given w ao len cap l) (hb : len ≤ 1000000) (ht : t + 3 ≤ len) :
    Calls Try.prog 28 #[.slice ao len cap, .int .i64 (t : Int)] w fun e w' => e = .returned (hdV (by' l t) (by' l (t + 1)) (by' l (t + 2))) ∧ Below w.heap.size w w' := by
  obtain ⟨b, o, hao, _, hbw, _⟩ := vat hG.view (k := t) (by rw [hG.size]; omega)
  have hc : ∀ j, j < len → w.cell? ⟨b, o + j, none⟩ = some (.int .u8 ((by' l j).toNat : Int)) := by
    intro j hj
    obtain ⟨b', o', h1, _, _, h2⟩ := vat hG.view (k := j) (by rw [hG.size]; exact hj)
    rw [hao] at h1
    cases h1
    exact h2
  subst hao
  have c0 := hc t (by omega)
  have c1 := hc (t + 1) (by omega)
  have c2 := hc (t + 2) (by omega)
  have hcap := hG.room
  generalize by' l t = x0 at *
  generalize by' l (t + 1) = x1 at *
  generalize by' l (t + 2) = x2 at *
  have hm := hcap.2
  unfold maxLen at hm
  have hcl := hcap.1
  clear hG hc hcap
  have c1 : w.cell? ⟨b, o + t + 1, none⟩ = some (.int .u8 (x1.toNat : Int)) := c1
  have c2 : w.cell? ⟨b, o + t + 2, none⟩ = some (.int .u8 (x2.toNat : Int)) := c2
  have d0 : (w.alloc (.cells #[.int .u8 0, .int .u8 0, .int .u8 0] 49)).cell? ⟨b, o + t, none⟩ = some (.int .u8 (x0.toNat : Int)) := cell_alloc c0 _
  have d1 : (w.alloc (.cells #[.int .u8 0, .int .u8 0, .int .u8 0] 49)).cell? ⟨b, o + t + 1, none⟩ = some (.int .u8 (x1.toNat : Int)) := cell_alloc c1 _
  have d2 : (w.alloc (.cells #[.int .u8 0, .int .u8 0, .int .u8 0] 49)).cell? ⟨b, o + t + 2, none⟩ = some (.int .u8 (x2.toNat : Int)) := cell_alloc c2 _
  have hat : ∀ w, (Instr.arrayAt 49 (.slice (some ⟨b, o + t, none⟩) 3 (cap - t))).run Try.prog w = .ok (.pointer (some ⟨b, o + t, none⟩)) w := fun w => run_arrayAt w 49 _ 3 _ 3 (cap - t) Try.underlying49 (Nat.le_refl _)
  go_enter Try.func28, Try.ntmps28
  go_wp2
  refine bodyPost_ret (v := hdV x0 x1 x2) ?_ rfl ⟨rfl, (Below.refl _ _).alloc (Nat.le_refl _) _⟩
  have hres : Try.f28.results = #[.cell 4 49] := by kernel_rfl
  simp only [results, hres]
  go_simp
  rfl

def farP (t z : Nat) : Bool := decide (z + 256 < t)
set_option maxHeartbeats 1000000 in
theorem within_any (v : Value) (zs : List Nat) (t : Nat) (w : World) (hs : Slc w v zs) (hl : zs.length ≤ 100000000) (hz : ∀ k ∈ zs, k ≤ 1000000000) (ht : t ≤ 1000000000) :
    Calls Try.prog 27 #[v, .int .i64 (t : Int)] w fun e w' => ∃ v', e = .returned v' ∧ w = w' ∧ Slc w v' (zs.dropWhile (farP t)) ∧ v'.ownBlock = v.ownBlock := by
  have HS := Lib.hid hs
  have HZ := Lib.hid hz
  clear hs hz
  go_enter Try.func27, Try.ntmps27
  go_wp2
  go_loopw [0] (fun x wr => wr = w ∧ ∃ zs1, Slc w x zs1 ∧ x.ownBlock = v.ownBlock ∧ zs1.dropWhile (farP t) = zs.dropWhile (farP t) ∧ zs1.length ≤ 100000000 ∧ ∀ k ∈ zs1, k ≤ 1000000000) (fun x _ => lenV x)
  case atStart => exact ⟨rfl, zs, HS.out, rfl, rfl, hl, HZ.out⟩
  case round =>
    obtain ⟨rfl, zs1, hs1, hob, hdw, hl1, hz1⟩ := hrel
    cases zs1 with
    | nil =>
      obtain ⟨ao, cap, rfl, _⟩ := hs1.form
      have H1 := Lib.hid hs1
      have H2 := Lib.hid hob
      have H3 := Lib.hid hdw
      clear hs1 hob hdw hz1
      go_wp2
      go_ret
      refine ⟨_, rfl, rfl, ?_, H2.out⟩
      rw [← H3.out]
      exact H1.out
    | cons z zs1 =>
      rcases id hs1 with ⟨_, h0⟩ | ⟨g, o, cap, cur, rfl, hb, h1, h2, h3, h4⟩
      · cases h0
      · have c0 : wr.cell? ⟨g, o, none⟩ = some (.int .i64 (z : Int)) := cell_of_block (i := o) hb (by have := h4 0 (by simp); simpa [nv] using this)
        have hcap : zs1.length + 1 ≤ cap := by simpa using h1
        have hcm : cap ≤ 9223372036854775807 := by unfold maxLen at h2; omega
        have hzb := hz1 z (List.mem_cons_self ..)
        have H1 := Lib.hid hs1
        have H2 := Lib.hid hob
        have H3 := Lib.hid hdw
        have H4 := Lib.hid (fun k hk => hz1 k (List.mem_cons_of_mem _ hk))
        have hl2 : zs1.length + 1 ≤ 100000000 := by simpa using hl1
        clear hs1 hob hdw hz1 hl1 hb h1 h2 h3 h4
        simp only [List.length_cons] at H1 H2 ⊢
        obtain ⟨n, hn⟩ : ∃ n, n = zs1.length := ⟨_, rfl⟩
        rw [← hn] at hcap hl2 H1 H2 ⊢
        have HN := Lib.hid hn
        clear hn
        by_cases hf : z + 256 < t
        · have hf' : (256 : Int) < (t : Int) - (z : Int) := by omega
          go_wp2
          go_roundw
          case rel =>
            refine ⟨trivial, zs1, ?_, ?_, ?_, by have := HN.out; omega, H4.out⟩
            · have h := H1.out; rw [HN.out] at h ⊢; exact h.off'
            · rw [← H2.out]; by_cases hc : cap = 1
              · rw [if_pos hc]; rfl
              · rw [if_neg hc]; rfl
            · rw [← H3.out, List.dropWhile_cons]
              simp [farP, hf]
          case measure => simp [lenV]
        · have hf' : ¬ (256 : Int) < (t : Int) - (z : Int) := by omega
          go_wp2
          go_ret
          refine ⟨.slice (some ⟨g, o, none⟩) (n + 1) cap, rfl, rfl, ?_, H2.out⟩
          rw [← H3.out, List.dropWhile_cons]
          simp only [farP, hf, decide_false, Bool.false_eq_true, if_false]
          exact H1.out

end Mat
end Go.Proofs.Ythmnaofmpijbiaa
