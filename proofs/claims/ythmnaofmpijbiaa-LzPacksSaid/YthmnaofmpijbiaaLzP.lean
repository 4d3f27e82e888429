/- append(x, make([]byte, n)...) onto bytes of one's own; copy inside bytes of one's own. -/
import Derived.Test.YthmnaofmpijbiaaLzR
import Derived.Test.YthmnaofmpijbiaaCpy
import Derived.Lib.AppendZerosOnto
import Derived.Laws.CopyRow
namespace Go.Proofs.Ythmnaofmpijbiaa
open Go.RowKit Go.Own
namespace Byt

theorem zeroBytes (n : Nat) : (Builtin.zeroCells (Value.int .u8 0).cells n).toList = (List.replicate n (0 : UInt8)).map byteV := by
  unfold Builtin.zeroCells
  apply List.ext_getElem?
  intro i
  by_cases hi : i < n
  · simp [hi, Value.cells, byteV, Nat.mod_one]
  · simp [hi, Value.cells]
theorem zeroBytes' (n : Nat) : Builtin.zeroCells (Value.int .u8 0).cells n = ((List.replicate n (0 : UInt8)).map byteV).toArray := by
  rw [← zeroBytes]
theorem int_under : Try.prog.underlying 3 = some (.int .i64) := Try.underlying3

section
variable {B : Nat} {w0 w : World} {Ps : List Asn} {ao : Option Addr} {n cap : Nat} {l : List UInt8}
/-- append(x, make([]byte, m)...) onto bytes of one's own -/
theorem ab_append_zeros (H : St B w0 w Ps) (i : Nat) (hi : Ps[i]? = some (AB ao n cap l)) (ty : TypeId) (m : Nat) (b1 : n + m ≤ 1000000000) :
    ∃ ao' cap' w', (Builtin.append_ #[22, 3] ty #[.slice ao n cap, .int .i64 (m : Int)]).run Try.prog w = .ok (.slice ao' (n + m) cap') w' ∧ St B w0 w' (Ps.set i (AB ao' (n + m) cap' (l ++ List.replicate m 0))) := by
  obtain ⟨i0, hi0, hz0, hz1, hz2⟩ := info_parts infoU8
  obtain ⟨S, hS, _, put⟩ := H.at i hi
  have hlen := AB.len hS
  have hw : IntKind.i64.wrap (m : Int) = m := by rw [IntKind.wrap_i64]; omega
  have hneg : ¬ ((m : Int) < 0) := by omega
  have h48i : ¬ (281474976710656 < (m : Int)) := by omega
  by_cases hroom : n + m ≤ cap
  · by_cases hm : m = 0
    · subst hm
      refine ⟨ao, cap, w, ?_, by simpa using put S w (AB ao n cap l) hS (Step.refl S w)⟩
      have hroom' : n ≤ cap := hroom
      have hw0 : IntKind.i64.wrap 0 = 0 := by decide
      cases ao with
      | none => simp [Builtin.append_, run_underlying Try.underlying22, run_underlying int_under, sizeOf, typeInfo, hi0, asInt, asIntOf, hw0, hz1, hz2, hroom']
      | some a => simp [Builtin.append_, run_underlying Try.underlying22, run_underlying int_under, sizeOf, typeInfo, hi0, asInt, asIntOf, hw0, hz1, hz2, hroom', storeCells]
    · obtain ⟨hown, hset⟩ := hS
      rcases hown.2 with ⟨hv, _⟩ | ⟨g, cap', cur, hv, hbg, hg, hnc, hcm, hcs, htake⟩
      · cases hv; omega
      · cases hv
        simp only [Nat.mul_one] at hcs htake
        have hzc := zeroBytes' m
        have hl2 : ((List.replicate m (0 : UInt8)).map byteV).length = m := by simp
        have hst := run_storeCells_at (P := Try.prog) g n 5 ((List.replicate m (0 : UInt8)).map byteV) 0 cur w hg (by rw [hl2, hcs]; omega) (byteV_one _)
        have hadd : (⟨g, 0, none⟩ : Addr).add n = ⟨g, n, none⟩ := by rw [add_of, Nat.zero_add]
        have hmz : ¬ m * i0.size = 0 := by rw [hz1]; omega
        refine ⟨some ⟨g, 0, none⟩, cap, w.setRow g (cur.toList.take (n + 0) ++ (List.replicate m (0 : UInt8)).map byteV ++ cur.toList.drop (n + 0 + ((List.replicate m (0 : UInt8)).map byteV).length)).toArray, ?_, ?_⟩
        · simp [Builtin.append_, run_underlying Try.underlying22, run_underlying int_under, sizeOf, typeInfo, zeroValue, hi0, hz0, asInt, asIntOf, hw, hneg, hz1, hz2, h48i, hroom, hm, hadd]
          rw [hzc]
          rw [hl2] at hst
          simp only [List.toList_toArray, hst]
          simp
        · refine put S _ (AB (some ⟨g, 0, none⟩) (n + m) cap (l ++ List.replicate m 0)) ⟨⟨by simp [hlen.1], .inr ⟨g, cap, _, rfl, hbg, setRow_heap w g cur _ _ _ hg, hroom, hcm, ?_, ?_⟩⟩, fun k => by rw [hset k]; simp [Value.ownBlock]⟩ ⟨rfl, rfl, rfl, by simp, fun k hk hT => setRow_other w g k _ (fun e => hT ((hset k).2 (by simp [Value.ownBlock, e]))), fun k hk => .inl hk⟩
          · simp only [List.size_toArray, List.length_append, List.length_take, List.length_drop, Array.length_toList, hl2]
            omega
          · rw [List.map_append, Nat.add_zero, htake, Nat.mul_one]
            have e : n + m = (l.map byteV ++ (List.replicate m (0 : UInt8)).map byteV).length := by simp [hlen.1]
            rw [e]
            exact List.take_left
  · have hold : (Builtin.firstCells i0.size n (.slice ao n cap)).run Try.prog w.drew = .ok (l.map byteV).toArray w.drew := by
      cases ao with
      | none =>
        obtain ⟨h0, _⟩ := hlen.2.2.2 rfl
        subst h0
        rw [List.eq_nil_of_length_eq_zero hlen.1]
        exact run_firstCells_none w.drew i0.size 0 0 cap
      | some a => exact run_firstCells_some w.drew i0.size n a n cap (l.map byteV) (by rw [List.length_map, hlen.1, hz1, Nat.mul_one]) (by
          have h := vcells (AB.view hS) a rfl
          simpa using h)
    have hfit := growslice_fits (need := n + m) (old := cap) (bytes := i0.bytes) (by omega) (by rw [hz2]; omega)
    have hr := Lib.run_append_grow_zeros (P := Try.prog) w 22 3 ty 5 i0 (.int .u8 0) .i64 .i64 Try.underlying22 int_under hi0 hz0 ao n cap (l.map byteV) hold m (by omega) (by omega) (by omega) (by omega) (by rw [hz2]; omega) hfit
    have hge := grownCap_ge w (n + m) cap 5
    have hcm : grownCap w (n + m) cap 5 ≤ maxLen := grownCap_le_maxLen w (n + m) cap _ (by unfold maxLen; omega)
    refine ⟨_, _, _, hr, put (fun k => k = w.heap.size) _ (AB (some ⟨w.heap.size, 0, none⟩) (n + m) (grownCap w (n + m) cap 5) (l ++ List.replicate m 0)) ⟨⟨by simp [hlen.1], .inr ⟨w.heap.size, _, _, rfl, Nat.zero_le _, heap_alloc_new w.drew _, hge, hcm, ?_, ?_⟩⟩, fun k => by simp [Value.ownBlock, eq_comm]⟩ ⟨rfl, rfl, rfl, by simp, fun k hk _ => heap_alloc_old w.drew _ hk, fun k hk => .inr (Nat.le_of_eq hk.symm)⟩⟩
    · rw [zeroBytes', zeroBytes']
      simp [hlen.1]
      omega
    · rw [zeroBytes', zeroBytes']
      simp only [Array.toList_append, Nat.mul_one, List.map_append]
      have e : n + m = (l.map byteV ++ (List.replicate m (0 : UInt8)).map byteV).length := by simp [hlen.1]
      rw [e]
      exact List.take_left
theorem wpList_ab_append_zeros {ops : Array Oper} {rest : List Oper} {o : Oper} {a : Act} {Q : Exit → Act → World → Prop} (hgd : o.guard = none) (s x : Operand)
    (ho : o.op = .call { callee := .builtin .append, args := #[s, x], argTypes := #[22, 3] }) (H : St B w0 w Ps) (i : Nat) (hi : Ps[i]? = some (AB ao n cap l)) (hs : a.eval s = .slice ao n cap)
    (m : Nat) (hx : a.eval x = .int .i64 (m : Int)) (b1 : n + m ≤ 1000000000) (q : Nat) (hq : n + m = q)
    (h : ∀ ao' cap' w', St B w0 w' (Ps.set i (AB ao' q cap' (l ++ List.replicate m 0))) → wpList Try.prog ops Q rest (a.put o.dst (.slice ao' q cap')) w') : wpList Try.prog ops Q (o :: rest) a w := by
  subst hq
  obtain ⟨ao', cap', w', hrun, h1⟩ := ab_append_zeros H i hi o.type m b1
  exact Lib.wpList_append_run w hgd s x _ _ ho _ _ hs hx _ _ hrun (h ao' cap' w' h1)

/-- copy(x[k:], ..) inside bytes of one's own, as one step of a region that draws: what comes is not longer than what is behind k -/
theorem step_ab_copy {ops : Array Oper} {o : Oper} {a : Act} {K : Act → World → Prop} {Q : Exit → Act → World → Prop} {E : Prop} (hgd : o.guard = none) (d s : Operand)
    (ho : o.op = .call { callee := .builtin .copy, args := #[d, s], argTypes := #[22, 22] }) {g : Nat} (H : St B w0 w Ps) (i : Nat) (hi : Ps[i]? = some (AB (some ⟨g, 0, none⟩) n cap l)) (k dn dc : Nat) (hd : a.eval d = .slice (some ⟨g, k, none⟩) dn dc) (hk : k + dn ≤ n)
    (bo : Addr) (sn sc : Nat) (news : List UInt8) (hx : a.eval s = .slice (some bo) sn sc) (hl : news.length = min sn dn)
    (hc : ∀ j u, (news.map byteV)[j]? = some u → w.cell? (bo.add j) = some u)
    (h : ∀ w', St B w0 w' (Ps.set i (AB (some ⟨g, 0, none⟩) n cap (l.take k ++ news ++ l.drop (k + news.length)))) → K (a.put o.dst (goInt news.length)) w') :
    if Region.wanted o (yielded ops a.tmps) = true then Oper.wp Try.prog o a w K Q else E := by
  have hw : Region.wanted o (yielded ops a.tmps) = true := by simp [Region.wanted, hgd]
  rw [if_pos hw]
  have hset := ab_setCells i news k w Ps l H hi (by omega)
  have hcells : ∀ j, j < (news.map byteV).length → (w.cell? ⟨g, k + j, none⟩).isSome = true ∧ w.frozen? ⟨g, k + j, none⟩ = false := by
    intro j hj
    rw [List.length_map] at hj
    obtain ⟨g', hg', h1, h2, _⟩ := ab_byte H i hi (k + j) (by omega)
    cases hg'
    exact ⟨by rw [h1]; rfl, h2⟩
  have hrun := run_copy_cells (P := Try.prog) w 22 22 o.type 5 g k dn dc bo sn sc (news.map byteV) Try.underlying22 info8 (by rw [List.length_map, hl]) hc (fun j hj => (hcells j hj).1) (fun j hj => (hcells j hj).2) (byteV_one _)
  rw [List.length_map] at hrun
  unfold Oper.wp
  simp [execOp, ho, resolve, invoke, builtin, hd, hx, hrun, Result.andThen]
  exact h _ hset
end
end Byt
end Go.Proofs.Ythmnaofmpijbiaa
