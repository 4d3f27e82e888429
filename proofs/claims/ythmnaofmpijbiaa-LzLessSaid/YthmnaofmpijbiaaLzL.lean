/- The landed putLiterals: a range over slices.Chunk whose rounds append. -/
import Derived.Test.YthmnaofmpijbiaaLzK
namespace Go.Own
open Go.RowKit
/-- from one world to the next only cells of the object's have turned -/
theorem Step.keepsOthers {S T : Nat → Prop} {w w' : World} (h : Step S T w w') (hc : ∀ k, S k → ∃ o : Obj, w.heap[k]? = some o ∧ o.isCells = true) : KeepsOthers w w' :=
  ⟨h.size, fun k o hk ho => by
    refine (h.block k (Array.getElem?_eq_some_iff.1 hk).1 (fun hs => ?_)).trans hk
    obtain ⟨o', ho', hoc⟩ := hc k hs
    rw [hk] at ho'
    cases ho'
    rw [hoc] at ho
    cases ho⟩
end Go.Own
namespace Go.Proofs.Ythmnaofmpijbiaa
open Go.RowKit Go.Own Go.Shelf
attribute [local go_sem] Oper.semAt_some
namespace Byt
section
variable {B : Nat} {w0 w : World} {Ps : List Asn} {ao : Option Addr} {n cap : Nat} {l : List UInt8}
theorem ab_append_others (H : St B w0 w Ps) (i : Nat) (hi : Ps[i]? = some (AB ao n cap l)) (ty : TypeId) (bo : Option Addr) (m c : Nat) (news : List UInt8) (hno : bo = none → m = 0 ∧ c = 0) (hl : news.length = m)
    (hc : ∀ a, bo = some a → ∀ j u, (news.map byteV)[j]? = some u → w.cell? (a.add j) = some u) (b1 : n + m ≤ 1000000000) :
    ∃ ao' cap' w', (Builtin.append_ #[22, 22] ty #[.slice ao n cap, .slice bo m c]).run Try.prog w = .ok (.slice ao' (n + m) cap') w' ∧ St B w0 w' (Ps.set i (AB ao' (n + m) cap' (l ++ news))) ∧ KeepsOthers w w' := by
  obtain ⟨i0, hi0, hz0, hz1, hz2⟩ := info_parts infoU8
  obtain ⟨S, hS, _, put⟩ := H.at i hi
  obtain ⟨v', w', T', hr, hrow, hst⟩ := run_append_row (P := Try.prog) w 22 ty 5 i0 (.int .u8 0) 1 1 Try.underlying22 hi0 hz0 hz1 hz2 rfl (by decide) (.slice ao n cap) n (l.map byteV) hS bo m c (news.map byteV) hno (by rw [List.length_map, hl, Nat.mul_one]) hc (byteV_one _) (by unfold maxLen; omega) (by omega)
  obtain ⟨ao', cap', rfl, _⟩ := hrow.form
  rw [← List.map_append] at hrow
  exact ⟨ao', cap', w', hr, put T' w' (AB ao' (n + m) cap' (l ++ news)) hrow hst, hst.keepsOthers (fun k hk => ARow.cellish _ _ _ _ _ S w hS k hk)⟩
/-- append inside a fence -/
theorem wpListIn_ab_append {F : Fence} {d : Nat} {ops : Array Oper} {rest : List Oper} {o : Oper} {a : Act} {Q : Exit → Act → World → Prop} (hgd : o.guard = none) (s x : Operand)
    (ho : o.op = .call { callee := .builtin .append, args := #[s, x], argTypes := #[22, 22] }) (H : St B w0 w Ps) (i : Nat) (hi : Ps[i]? = some (AB ao n cap l)) (hs : a.eval s = .slice ao n cap)
    (bo : Option Addr) (m c : Nat) (news : List UInt8) (hx : a.eval x = .slice bo m c) (hno : bo = none → m = 0 ∧ c = 0) (hl : news.length = m)
    (hc : ∀ a, bo = some a → ∀ j u, (news.map byteV)[j]? = some u → w.cell? (a.add j) = some u) (b1 : n + m ≤ 1000000000)
    (h : ∀ ao' cap' w', St B w0 w' (Ps.set i (AB ao' (n + m) cap' (l ++ news))) → KeepsOthers w w' → wpListIn F d Try.prog ops Q rest (a.put o.dst (.slice ao' (n + m) cap')) w') : wpListIn F d Try.prog ops Q (o :: rest) a w := by
  refine wpListIn_plain hgd fun K hK => ?_
  obtain ⟨ao', cap', w', hrun, h1, h2⟩ := ab_append_others H i hi o.type bo m c news hno hl hc b1
  unfold Oper.wpIn
  refine ⟨?_, ?_⟩
  · simp [Oper.about, ho, resolve, Target.leads, Sem.run_pure]
  · rw [Oper.semAt_plain F _ _ (by rw [ho]; intro c hc'; cases hc')]
    simp [execOp, ho, resolve, invoke, builtin, hs, hx, hrun, Result.andThen]
    exact hK _ _ (h ao' cap' w' h1 h2)
end
end Byt
namespace Lz
open Go.MatM Go.LzM Byt

def partV (ao : Option Addr) (n j : Nat) : Value := .slice (ao.map fun a => a.add (128 * j)) (chl n j) (chl n j)

set_option maxRecDepth 100000 in
set_option maxHeartbeats 1000000 in
/-- .. of no bytes: no round -/
theorem chunk0_in (n l Bs Bn : Nat) (ao : Option Addr) (cap : Nat) (J : List (Fin (nch 0)) → World → Prop) (W : World) (hBs : W.cell? ⟨Bs, 0, none⟩ = some (.slice ao 0 cap)) (h0 : J [] W) :
    CallsIn Fence.wide n Try.prog 35 #[.func (.yield l) #[] #[], .pointer (some ⟨Bs, 0, none⟩), .pointer (some ⟨Bn, 0, none⟩)] W fun e W' => (∃ v, e = .returned v) ∧ J [] W' := by
  refine callsIn_of_wp Try.func35 rfl trivial ?_ rfl
  simp only [Try.ntmps35, List.size_toArray, List.length_cons, List.length_nil, Nat.reduceAdd, Nat.reduceSub, Array.replicate_succ, Array.replicate_zero, List.push_toArray, List.append_toArray, List.nil_append, List.cons_append]
  gi_wp2
  gi_loopw [4] (fun i wr => i = .int .i64 0 ∧ J [] wr ∧ wr = W) (fun _ _ => 0)
  case atStart => exact ⟨rfl, h0, rfl⟩
  case round =>
    obtain ⟨rfl, hJs, rfl⟩ := hrel
    gi_wp2
    go_end0
    exact ⟨⟨_, rfl⟩, hJs⟩

set_option maxHeartbeats 1000000 in
/-- slices.Chunk(s, 128): both are boxed; the function value captures the boxes -/
theorem chunk_in (n : Nat) (a : Option Addr) (len cap : Nat) (w : World) :
    CallsIn Fence.wide n Try.prog 30 #[.slice a len cap, .int .i64 128] w fun e w' => e = .returned (.func (.func 35) #[] #[.pointer (some ⟨w.heap.size, 0, none⟩), .pointer (some ⟨w.heap.size + 1, 0, none⟩)]) ∧ w' = (w.alloc (.cells #[.slice a len cap] 22)).alloc (.cells #[.int .i64 128] 3) := by
  refine callsIn_of_wp Try.func30 rfl trivial ?_ rfl
  simp only [Try.ntmps30, List.size_toArray, List.length_cons, List.length_nil, Nat.reduceAdd, Nat.reduceSub, Array.replicate_succ, Array.replicate_zero, List.push_toArray, List.append_toArray, List.nil_append, List.cons_append]
  gi_wp2
  go_ret
  exact ⟨rfl, rfl⟩

theorem grownBy_drewN (W : World) (n : Nat) : W.grownBy (W.drewN n) none := ⟨rfl, rfl, rfl, Nat.le_refl _, fun _ _ _ => rfl⟩
theorem chunk_stops (n : Nat) (hn : 1 ≤ n) (Bs Bn : Nat) (ao : Option Addr) (len cap : Nat) (hao : len = 0 ∨ ∃ b o, ao = some ⟨b, o, none⟩) (hlc : len ≤ cap) (hreach : len ≤ 1000000000) (hcap : cap ≤ maxLen) (w : World) (hB1 : Bs < w.heap.size) (hB2 : Bn < w.heap.size)
    (hc1 : w.cell? ⟨Bs, 0, none⟩ = some (.slice ao len cap)) (hc2 : w.cell? ⟨Bn, 0, none⟩ = some (.int .i64 128)) :
    SeqStopsK Fence.wide n Try.prog 35 #[.pointer (some ⟨Bs, 0, none⟩), .pointer (some ⟨Bn, 0, none⟩)] (fun x : Fin (nch len) => #[partV ao len x.1]) (KC Bs Bn) (fun ys => ys = List.finRange (nch len)) (fun _ => True) (nch len) w :=
  fun l J Jx W hW hJ _ hY h0 => by
  have d1 := (hW.cell (p := ⟨Bs, 0, none⟩) hB1).trans hc1
  have d2 := (hW.cell (p := ⟨Bn, 0, none⟩) hB2).trans hc2
  rcases hao with rfl | ⟨b, o, rfl⟩
  · exact (chunk0_in n l Bs Bn ao cap J W d1 h0).mono fun e W' ⟨he, hj⟩ => ⟨he, .inl ⟨_, rfl, hj⟩⟩
  · refine (chunk1_in n hn l Bs Bn b o len cap hlc hreach hcap J Jx (fun pre W n h => hJ pre W _ none h (grownBy_drewN W n) (fun r e => by cases e)) ?_ W d1 d2 h0).mono ?_
    · intro pre x W1 hp hl
      have h := hY pre x W1 hp hl
      unfold partV at h
      simp only [Option.map_some, add_of] at h
      exact h
    · rintro e W' ⟨he, ⟨ys, rfl, hj⟩ | ⟨pre, _, hj⟩⟩
      · exact ⟨he, .inl ⟨_, come_all _, hj⟩⟩
      · exact ⟨he, .inr ⟨pre, trivial, hj⟩⟩

/-- the bytes of a part: how many, and they -/
def partB (l : Bs) (j : Nat) : Bs := UInt8.ofNat (chl l.length j - 1) :: (l.drop (128 * j)).take 128
theorem part_len (l : Bs) (j : Nat) : ((l.drop (128 * j)).take 128).length = chl l.length j := by
  unfold chl; rw [List.length_take, List.length_drop]
theorem nch_step (n : Nat) (h : n ≠ 0) : nch n = nch (n - 128) + 1 := by unfold nch; omega
theorem plain_parts : ∀ (k : Nat) (l : Bs), nch l.length = k → plain l = (List.range k).flatMap (partB l) := by
  intro k
  induction k with
  | zero =>
    intro l h
    have : l.length = 0 := by unfold nch at h; omega
    rw [List.eq_nil_of_length_eq_zero this]; rfl
  | succ k ih =>
    intro l h
    have h0 : l.length ≠ 0 := by intro e; rw [e] at h; simp [nch] at h
    have h1 : nch (l.drop 128).length = k := by rw [nch_step _ h0] at h; rw [List.length_drop]; omega
    rw [plain_cons l h0, ih (l.drop 128) h1, List.range_succ_eq_map, List.flatMap_cons, List.flatMap_map]
    have e0 : partB l 0 = UInt8.ofNat (min l.length 128 - 1) :: l.take 128 := by
      unfold partB chl
      rw [Nat.mul_zero, Nat.sub_zero, List.drop_zero, Nat.min_comm]
    have e1 : partB (l.drop 128) = fun j => partB l (j + 1) := by
      funext j
      unfold partB chl
      rw [List.length_drop, List.drop_drop, show l.length - 128 - 128 * j = l.length - 128 * (j + 1) by omega, show 128 + 128 * j = 128 * (j + 1) by omega]
    rw [e0, List.cons_append, e1]
theorem plain_fin (l : Bs) : plain l = (List.finRange (nch l.length)).flatMap (fun x => partB l x.1) := by
  rw [plain_parts _ l rfl]
  have e : List.range (nch l.length) = (List.finRange (nch l.length)).map (fun x => x.1) := by
    apply List.ext_getElem
    · simp
    · intro i h1 h2
      simp
  rw [e, List.flatMap_map]
theorem partB_len (l : Bs) (x : Fin (nch l.length)) : (partB l x.1).length ≤ 129 := by
  unfold partB; rw [List.length_cons, part_len]; unfold chl; omega
theorem parts_len (l : Bs) : ∀ (pre : List (Fin (nch l.length))), (pre.flatMap (fun x => partB l x.1)).length ≤ 129 * pre.length
  | [] => Nat.le_refl _
  | x :: pre => by
    have := parts_len l pre
    have := partB_len l x
    rw [List.flatMap_cons, List.length_append, List.length_cons]
    omega
end Lz
end Go.Proofs.Ythmnaofmpijbiaa
