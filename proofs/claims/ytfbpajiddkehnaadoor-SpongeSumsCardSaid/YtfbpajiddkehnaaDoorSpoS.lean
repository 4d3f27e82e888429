/- A State of the landed package in memory. -/
import Derived.Test.YtfbpajiddkehnaaDoorSpoK
namespace Go.Own
open Go.RowKit
/-- a block's middle is overwritten -/
theorem block_setCells {b : Nat} {t : TypeId} : ∀ (r pre mid post : List Value) (w : World), w.heap[b]? = some (.cells (pre ++ mid ++ post).toArray t (0, 0)) → mid.length = r.length →
    (w.setCells b pre.length r).heap[b]? = some (.cells (pre ++ r ++ post).toArray t (0, 0)) ∧ Step (fun k => k = b) (fun k => k = b) w (w.setCells b pre.length r)
  | [], pre, mid, post, w, hb, hl => by
    obtain rfl : mid = [] := List.eq_nil_of_length_eq_zero (by simpa using hl)
    exact ⟨hb, Step.refl _ _⟩
  | v :: r, pre, [], post, w, hb, hl => by simp at hl
  | v :: r, pre, m :: mid, post, w, hb, hl => by
    have h1 : (w.setCell ⟨b, pre.length, none⟩ v).heap[b]? = some (.cells ((pre ++ [v]) ++ mid ++ post).toArray t (0, 0)) := by
      rw [block_setCell hb]
      congr 2
      apply Array.ext'
      simp
    have h2 := block_setCells r (pre ++ [v]) mid post _ h1 (by simpa using hl)
    rw [List.length_append] at h2
    have e : pre ++ v :: r ++ post = (pre ++ [v]) ++ r ++ post := by simp
    rw [e]
    exact ⟨h2.1, ((Step.refl (fun k => k = b) w).setCell (a := ⟨b, pre.length, none⟩) (Or.inl rfl) v).trans h2.2⟩
end Go.Own
namespace Go.Proofs.YtfbpajiddkehnaaDoor
open Go.RowKit Go.Own
namespace Spo
open Go.KecM Go.SpoM Byt
open Kec (A64 u64V info_lanes one_cells)

/-- a State: its words, and how many bytes they took in -/
def stVs (q : KecM.St × Nat) : List Value := q.1.map u64V ++ [.int .i64 (q.2 : Int)]
def AStt (p : Nat) (q : KecM.St × Nat) : Asn := AVals p 44 (stVs q)
section
variable {p : Nat} {q : KecM.St × Nat} {S : Nat → Prop} {w : World}
theorem stt_block (h : (AStt p q).holds S w) : w.heap[p]? = some (.cells (stVs q).toArray 44 (0, 0)) := h.1
theorem stt_set (h : (AStt p q).holds S w) : ∀ k, S k ↔ k = p := h.2
theorem stt_word (h : (AStt p q).holds S w) (hl : q.1.length = 25) (k : Nat) (hk : k < 25) {v : KecM.W} (hv : q.1.getD k 0 = v) : w.cell? ⟨p, k, none⟩ = some (.int .u64 (v.toNat : Int)) ∧ w.frozen? ⟨p, k, none⟩ = false := by
  refine ⟨cell_of_block (stt_block h) ?_, frozen_of_block (stt_block h)⟩
  have hk2 : k < q.1.length := by omega
  simp [stVs, List.getElem?_append_left, hk2, u64V, ← hv]
theorem stt_at (h : (AStt p q).holds S w) (hl : q.1.length = 25) : w.cell? ⟨p, 25, none⟩ = some (.int .i64 (q.2 : Int)) ∧ w.frozen? ⟨p, 25, none⟩ = false := by
  refine ⟨cell_of_block (stt_block h) ?_, frozen_of_block (stt_block h)⟩
  simp [stVs, List.getElem?_append_right, hl]
theorem stt_setWord (h : (AStt p q).holds S w) (hl : q.1.length = 25) (k : Nat) (hk : k < 25) (v : KecM.W) :
    (AStt p (q.1.set k v, q.2)).holds S (w.setCell ⟨p, k, none⟩ (.int .u64 (v.toNat : Int))) ∧ Step S S w (w.setCell ⟨p, k, none⟩ (.int .u64 (v.toNat : Int))) := by
  refine ⟨⟨?_, h.2⟩, (Step.refl S w).setCell (a := ⟨p, k, none⟩) (Or.inl ((h.2 p).2 rfl)) _⟩
  rw [block_setCell (stt_block h)]
  congr 2
  apply Array.ext'
  have hk2 : k < q.1.length := by omega
  simp [stVs, List.set_append, hk2, List.map_set, u64V]
theorem stt_setAt (h : (AStt p q).holds S w) (hl : q.1.length = 25) (n : Nat) :
    (AStt p (q.1, n)).holds S (w.setCell ⟨p, 25, none⟩ (.int .i64 (n : Int))) ∧ Step S S w (w.setCell ⟨p, 25, none⟩ (.int .i64 (n : Int))) := by
  refine ⟨⟨?_, h.2⟩, (Step.refl S w).setCell (a := ⟨p, 25, none⟩) (Or.inl ((h.2 p).2 rfl)) _⟩
  rw [block_setCell (stt_block h)]
  congr 2
  apply Array.ext'
  simp [stVs, List.set_append, hl]
theorem stt_setAll (h : (AStt p q).holds S w) (hl : q.1.length = 25) (rs : List KecM.W) (hr : rs.length = 25) :
    (AStt p (rs, q.2)).holds S (w.setCells p 0 (rs.map u64V).toArray.toList) ∧ Step S S w (w.setCells p 0 (rs.map u64V).toArray.toList) := by
  have h1 := block_setCells (b := p) (rs.map u64V) [] (q.1.map u64V) [.int .i64 (q.2 : Int)] w (by simpa [stVs] using stt_block h) (by simp [hl, hr])
  have e : S = fun k => k = p := funext fun k => propext (h.2 k)
  rw [e]
  exact ⟨⟨by simpa [stVs] using h1.1, fun _ => Iff.rfl⟩, h1.2⟩
theorem stt_range (h : (AStt p q).holds S w) (hl : q.1.length = 25) : w.rangeAt p 0 (q.1.map u64V) := fun j v hv => by
  have hj := (List.getElem?_eq_some_iff.1 hv).1
  rw [List.length_map] at hj
  rw [Nat.zero_add]
  refine cell_of_block (stt_block h) ?_
  rw [List.getElem?_toArray, stVs, List.getElem?_append_left (by simpa using hj)]
  exact hv
theorem stt_there (h : (AStt p q).holds S w) (hl : q.1.length = 25) (rs : List KecM.W) (hr : rs.length = 25) : w.there p 0 (rs.map u64V).toArray.size := fun j hj => by
  have hj2 : j < 25 := by simpa [hr] using hj
  obtain ⟨h1, h2⟩ := stt_word h hl j hj2 rfl
  rw [Nat.zero_add]
  exact ⟨by rw [h1]; rfl, h2⟩
end
theorem stt_later {p : Nat} {q : KecM.St × Nat} {S : Nat → Prop} {w w' : World} (h : (AStt p q).holds S w) (g : Below w.heap.size w w') : (AStt p q).holds S w' ∧ Step S S w w' :=
  ⟨⟨(g.block _ (lt_of_block (stt_block h))).trans (stt_block h), h.2⟩, ⟨g.os, g.tape, g.output, g.size, fun k hk _ => g.block k hk, fun _ h => .inl h⟩⟩

/-- New -/
theorem newK_any (w : World) : Calls Tryd.prog 12 #[] w fun e w' => ∃ p S, e = .returned (.pointer (some ⟨p, 0, none⟩)) ∧ (AStt p (zeroSt, 0)).holds S w' ∧ Step (fun _ => False) S w w' := by
  have HN : Hid (∃ S, (AStt w.heap.size (zeroSt, 0)).holds S (w.alloc (.cells (stVs (zeroSt, 0)).toArray 44)) ∧ Step (fun _ => False) S w (w.alloc (.cells (stVs (zeroSt, 0)).toArray 44))) :=
    ⟨fun k => k = w.heap.size, ⟨heap_alloc_new w _, fun _ => Iff.rfl⟩, ((Step.refl (fun _ => False) w).alloc _).to (fun k hk => .inr (Nat.le_of_eq hk.symm))⟩
  go_enter Tryd.func12, Tryd.ntmps12
  go_wp2
  go_ret
  obtain ⟨S, h1, h2⟩ := HN.out
  exact ⟨w.heap.size, S, rfl, h1, h2⟩
end Spo
end Go.Proofs.YtfbpajiddkehnaaDoor
