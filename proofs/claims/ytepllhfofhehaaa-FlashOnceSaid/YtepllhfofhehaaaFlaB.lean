/- Layer 7: the list of acts in memory; few. -/
import Derived.Test.YtepllhfofhehaaaFlaA
namespace Go.Proofs.Ytepllhfofhehaaa
open Go.RowKit Go.Own
namespace Fla
open Go.FlaM Byt

/-- one act of a list, in any world in which old memory is as it was -/
structure ActAt (w : World) (B b o : Nat) (a : ActD) : Prop where
  cells : ∃ ab cb af cf, w.cell? ⟨b, o, none⟩ = some (.int .u8 (a.kind.toNat : Int)) ∧ w.cell? ⟨b, o + 1, none⟩ = some (.int .i64 a.seg) ∧ w.cell? ⟨b, o + 2, none⟩ = some (.int .i64 a.page) ∧ w.cell? ⟨b, o + 3, none⟩ = some (.int .u8 (a.c.toNat : Int)) ∧
    w.cell? ⟨b, o + 4, none⟩ = some (.slice ab a.b.length cb) ∧ w.cell? ⟨b, o + 5, none⟩ = some (.int .i64 a.n) ∧ w.cell? ⟨b, o + 6, none⟩ = some (.slice af a.fates.length cf) ∧ inAct a B w (actVs a (.slice ab a.b.length cb) (.slice af a.fates.length cf))
theorem acts_in {l : List ActD} {B : Nat} {w : World} {ao : Option Addr} {n cap : Nat} (h : inSlice 7 inAct l B w [.slice ao n cap]) :
    n = l.length ∧ n ≤ cap ∧ cap ≤ maxLen ∧ (ao = none → cap = 0) ∧ (l ≠ [] → ∃ b o, ao = some ⟨b, o, none⟩ ∧ b < B ∧ ∀ w', (∀ k, k < B → w'.heap[k]? = w.heap[k]?) → w.heap.size ≤ w'.heap.size → ∀ k (hk : k < l.length), ActAt w' B b (o + k * 7) l[k]) := by
  obtain ⟨ao', cap', h1, h2, h3, h4, h5⟩ := h
  simp only [List.cons.injEq, Value.slice.injEq, and_true] at h1
  obtain ⟨rfl, rfl, rfl⟩ := h1
  refine ⟨rfl, h2, h3, h4, fun hne => ?_⟩
  rcases h5 with rfl | ⟨b, o, e, hb, hs, hc⟩
  · exact absurd rfl hne
  · refine ⟨b, o, e, hb, fun w' hw' hsz k hk => ?_⟩
    obtain ⟨cs', g1, g2, g3⟩ := hc k hk
    obtain ⟨ab, cb, af, cf, rfl, q1, q2, q3, q4, q5, q6⟩ := g3
    have hcell : ∀ j, j < 7 → w'.cell? ⟨b, o + (k * 7 + j), none⟩ = (actVs l[k] (.slice ab l[k].b.length cb) (.slice af l[k].fates.length cf))[j]? := fun j hj => (World.cell?_of_block (w := w) (hw' b hb)).trans (g2 j hj)
    refine ⟨ab, cb, af, cf, ?_, ?_, ?_, ?_, ?_, ?_, ?_, ab, cb, af, cf, rfl, View.same q1 hw', q2, q3, q4, ?_, q6⟩
    · exact hcell 0 (by decide)
    · have := hcell 1 (by decide); rw [← Nat.add_assoc] at this; exact this
    · have := hcell 2 (by decide); rw [← Nat.add_assoc] at this; exact this
    · have := hcell 3 (by decide); rw [← Nat.add_assoc] at this; exact this
    · have := hcell 4 (by decide); rw [← Nat.add_assoc] at this; exact this
    · have := hcell 5 (by decide); rw [← Nat.add_assoc] at this; exact this
    · have := hcell 6 (by decide); rw [← Nat.add_assoc] at this; exact this
    · rcases q5 with h | ⟨b2, o2, e2, hb2, hs2, hc2⟩
      · exact .inl h
      · exact .inr ⟨b2, o2, e2, hb2, Nat.lt_of_lt_of_le hs2 hsz, fun j hj => ⟨(World.cell?_of_block (w := w) (hw' b2 hb2)).trans (hc2 j hj).1, (hc2 j hj).2⟩⟩

set_option maxHeartbeats 1600000 in
theorem few_any {l : List ActD} {w : World} {ao : Option Addr} {n cap : Nat} (h : inSlice 7 inAct l w.heap.size w [.slice ao n cap]) (wx : World) (hwx : Below w.heap.size w wx) :
    Calls Try.prog 14 #[.slice ao n cap] wx fun e w' => ∃ k, k ≤ n ∧ k ≤ 80 ∧ (∀ i (hi : i < l.length), i < k → l[i].b.length ≤ 10000) ∧ e = .returned (.slice ao k cap) ∧ wx = w' := by
  obtain ⟨hn, h2, h3, h4, h5⟩ := acts_in h
  unfold maxLen at h3
  by_cases hl : l = []
  · subst hl
    have hn0 : n = 0 := hn
    subst hn0
    clear h h5 hn
    go_enter Try.func14, Try.ntmps14
    go_wp2
    go_loop [3, 7] (fun v3 v7 => v3 = .int .i64 10000 ∧ v7 = .int .i64 0) (fun _ _ => 0)
    case atStart => exact ⟨rfl, rfl⟩
    case round =>
      obtain ⟨rfl, rfl⟩ := hrel
      go_wp2
      go_ret
      exact ⟨rfl, rfl⟩
  obtain ⟨b, o, rfl, hb, hat⟩ := h5 hl
  have HAT := Lib.hid (fun k (hk : k < l.length) => hat wx (fun k hk => hwx.block k hk) hwx.size k hk)
  have HN := Lib.hid hn
  clear h h5 hl hat hn h4
  go_enter Try.func14, Try.ntmps14
  go_wp2
  go_loop [3, 7] (fun v3 v7 => ∃ (k : Nat) (left : Nat), k ≤ n ∧ k ≤ 80 ∧ left ≤ 10000 ∧ (∀ i (hi : i < l.length), i < k → l[i].b.length ≤ 10000) ∧ v3 = .int .i64 (left : Int) ∧ v7 = .int .i64 (k : Int)) (fun _ v7 => n - (intOf v7).toNat)
  case atStart => exact ⟨0, 10000, Nat.zero_le _, by omega, Nat.le_refl _, fun i hi h => by omega, rfl, rfl⟩
  case round =>
    obtain ⟨k, left, hkn, hk80, hleft, hall, rfl, rfl⟩ := hrel
    have HALL := Lib.hid hall
    clear hall
    by_cases hk : (k : Int) < (n : Int)
    · have hkl : k < l.length := by rw [← HN.out]; omega
      obtain ⟨ab, cb, af, cf, _, _, _, _, hc4, _, _, _⟩ := (HAT.out k hkl).cells
      obtain ⟨m, hm⟩ : ∃ m, m = l[k].b.length := ⟨_, rfl⟩
      rw [← hm] at hc4
      by_cases h80 : (80 : Int) ≤ (k : Int)
      · go_wp2
        go_ret
        exact ⟨k, by omega, hk80, HALL.out, rfl, rfl⟩
      · by_cases hgt : left < m
        · clear hm
          go_wp2
          go_ret
          exact ⟨k, by omega, hk80, HALL.out, rfl, rfl⟩
        · obtain ⟨r, hr⟩ : ∃ r, r = left - m := ⟨_, rfl⟩
          have er : (left : Int) - (m : Int) = (r : Int) := by omega
          have HM : Hid (m = l[k].b.length) := hm
          clear hm hr
          go_wp2
          go_round
          case rel =>
            refine ⟨k + 1, r, by omega, by omega, by omega, fun i hi h => ?_, rfl, by go_num⟩
            by_cases hik : i = k
            · subst hik
              rw [← HM.out]; omega
            · exact HALL.out i hi (by omega)
          case measure => simp [intOf]; omega
    · go_wp2
      go_ret
      exact ⟨k, by omega, hk80, HALL.out, by rw [show k = n by omega]; rfl, rfl⟩
end Fla
end Go.Proofs.Ytepllhfofhehaaa
