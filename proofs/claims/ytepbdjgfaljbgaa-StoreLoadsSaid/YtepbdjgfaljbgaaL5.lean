/- Merged: StoF StoI StbP StbQ StbR StoG StoH StoC StoJ StoK StoN StoO -/
import Derived.WideKeyEntry
import Derived.Test.YtepbdjgfaljbgaaL1
import Derived.Test.YtepbdjgfaljbgaaL2
import Derived.Test.YtepbdjgfaljbgaaL3
import Derived.Test.YtepbdjgfaljbgaaL4
set_option linter.unusedVariables false
section
namespace Go.Proofs.Ytepbdjgfaljbgaa
open Go.RowKit Go.Own Go.Maps
namespace Sto
open Go.StoM Byt
theorem rd_range {w : World} {g o n : Nat} {l : List Ch} (h : ∀ j u, (l.flatMap chC)[j]? = some u → w.cell? ⟨g, o + j, none⟩ = some u) (hf : ∀ c ∈ l, Fit c) (hl : l.length = n) {i : Nat} {c : Ch} (hi : l[i]? = some c) : w.rangeAt g (o + i * 37) (chC c) := by
  intro k u hu
  have hk : k < 37 := by rw [← chC_len (hf c (List.mem_of_getElem? hi)).key]; exact (List.getElem?_eq_some_iff.1 hu).1
  rw [Nat.add_assoc]
  refine h (i * 37 + k) u ?_
  rw [flat_at chC 37 l (fun c hc => chC_len (hf c hc).key) i c hi k hk]
  exact hu
theorem idx_chO {o : Oper} {x y : Tmp} (ho : o.op = .indexAddr 64 (.tmp x) (.tmp y)) {g q n c k : Nat} (hk : k < n) (ρ : Operand → Value) (w : World) (h0 : ρ (.tmp x) = .slice (some ⟨g, q, none⟩) n c) (h1 : ρ (.tmp y) = .int .i64 (k : Int)) : (execOp ρ o).run Try.prog w = .ok (.value (.pointer (some ⟨g, q + k * 37, none⟩))) w := by
  have hk' : (k : Int) < (n : Int) := by omega
  have hs : ∀ w, (sizeOf 74).run Try.prog w = .ok 37 w := fun w => by kernel_rfl
  simp [execOp, ho, h0, h1, go_sem, hk', add_of, hs]
set_option maxRecDepth 10000 in
set_option maxHeartbeats 6400000 in
theorem same_any (l : List Ch) (hf : ∀ c ∈ l, Fit c) (v1 v2 : Value) (n : Nat) (hl : l.length = n) (hn : n ≤ 1000000) (w : World) (h1 : RdWin w v1 n (l.flatMap chC)) (h2 : RdWin w v2 n (l.flatMap chC)) :
    Calls Try.prog 54 #[v1, v2] w fun e w' => e = .returned (.bool true) ∧ Below w.heap.size w w' := by
  obtain ⟨a1, c1, rfl, h1⟩ := h1
  obtain ⟨a2, c2, rfl, h2⟩ := h2
  have H1 := Lib.hid h1
  have H2 := Lib.hid h2
  have HL := Lib.hid hl
  have HF := Lib.hid hf
  clear h1 h2 hl hf
  go_enter Try.func54, Try.ntmps54
  go_wp2
  go_loopw [5] (fun v5 wr => ∃ i : Nat, i ≤ n ∧ v5 = .int .i64 (i : Int) ∧ Below w.heap.size w wr) (fun v5 _ => n - (intOf v5).toNat)
  case atStart => exact ⟨0, Nat.zero_le _, rfl, Below.refl _ _⟩
  case round =>
    obtain ⟨i, hin, rfl, hbw⟩ := hrel
    have HB := Lib.hid hbw
    clear hbw
    by_cases hi : (i : Int) < (n : Int)
    · have hin2 : i < n := by omega
      rcases H1.out with h | ⟨g1, o1, rfl, hc1⟩
      · omega
      rcases H2.out with h | ⟨g2, o2, rfl, hc2⟩
      · omega
      have hil : i < l.length := by rw [HL.out]; exact hin2
      obtain ⟨c, hc⟩ : ∃ c, l[i]? = some c := ⟨_, List.getElem?_eq_getElem hil⟩
      have hfc := HF.out c (List.mem_of_getElem? hc)
      have r1 := rd_range hc1 HF.out HL.out hc
      have r2 := rd_range hc2 HF.out HL.out hc
      obtain ⟨ds, hds⟩ : ∃ x, x = chC c := ⟨_, rfl⟩
      rw [← hds] at r1 r2
      have DL : Hid (ds.length = 37) := by show _ = _; rw [hds]; exact chC_len hfc.key
      have R : Hid (∀ wx, Below wr.heap.size wr wx → wx.rangeAt g1 (o1 + i * 37) ds ∧ wx.rangeAt g2 (o2 + i * 37) ds) := fun wx hwx =>
        ⟨fun j v hv => cellLater' (r1 j v hv) (HB.out.trans (hwx.mono HB.out.size)), fun j v hv => cellLater' (r2 j v hv) (HB.out.trans (hwx.mono HB.out.size))⟩
      have NQ : Hid (∀ (o : Oper) (x y : Operand), o.op = .binOp .neq 74 x y 74 → ∀ (ρ : Operand → Value) (w : World), ρ x = .agg ds.toArray → ρ y = .agg ds.toArray → (execOp ρ o).run Try.prog w = .ok (.value (.bool false)) w) := by
        intro o x y ho ρ w h0 h1
        rw [hds] at h0 h1
        exact bin_ch (.inr rfl) ho hfc.key hfc.key (by simp) ρ w h0 h1
      clear hc1 hc2 hc hfc r1 r2 hds hil H1 H2
      go_wp2_with (fail)
      refine wp_lax_list (by kernel_rfl) (by kernel_rfl) (by kernel_rfl) ?_
      refine wpL_move (.slice (some ⟨g1, o1, none⟩) n c1) rfl (by kernel_rfl) (by kernel_rfl) (by kernel_rfl) (by kernel_rfl) ?_
      refine wpL_move (.int .i64 (i : Int)) rfl (by kernel_rfl) (by kernel_rfl) (by kernel_rfl) (by kernel_rfl) ?_
      refine wpL_run2 (x := .tmp 17) (y := .tmp 18) (.slice (some ⟨g1, o1, none⟩) n c1) (.int .i64 (i : Int)) (.pointer (some ⟨g1, o1 + i * 37, none⟩)) (by kernel_rfl) (by kernel_rfl) (by kernel_rfl) (by kernel_rfl) (by kernel_rfl) (by kernel_rfl) (fun wx ρ hwx h0 h1 hc => idx_chO rfl hin2 ρ wx h0 h1) ?_
      refine wpL_run1 (x := .tmp 19) (.pointer (some ⟨g1, o1 + i * 37, none⟩)) (.agg ds.toArray) (by kernel_rfl) (by kernel_rfl) (by kernel_rfl) (by kernel_rfl) (by kernel_rfl) (fun wx ρ hwx h0 hc => load_ch ds DL.out rfl ρ (R.out wx hwx).1 h0) ?_
      refine wpL_move (.slice (some ⟨g2, o2, none⟩) n c2) rfl (by kernel_rfl) (by kernel_rfl) (by kernel_rfl) (by kernel_rfl) ?_
      refine wpL_move (.int .i64 (i : Int)) rfl (by kernel_rfl) (by kernel_rfl) (by kernel_rfl) (by kernel_rfl) ?_
      refine wpL_run2 (x := .tmp 21) (y := .tmp 22) (.slice (some ⟨g2, o2, none⟩) n c2) (.int .i64 (i : Int)) (.pointer (some ⟨g2, o2 + i * 37, none⟩)) (by kernel_rfl) (by kernel_rfl) (by kernel_rfl) (by kernel_rfl) (by kernel_rfl) (by kernel_rfl) (fun wx ρ hwx h0 h1 hc => idx_chO rfl hin2 ρ wx h0 h1) ?_
      refine wpL_run1 (x := .tmp 23) (.pointer (some ⟨g2, o2 + i * 37, none⟩)) (.agg ds.toArray) (by kernel_rfl) (by kernel_rfl) (by kernel_rfl) (by kernel_rfl) (by kernel_rfl) (fun wx ρ hwx h0 hc => load_ch ds DL.out rfl ρ (R.out wx hwx).2 h0) ?_
      refine wpL_run2 (x := .tmp 20) (y := .tmp 24) (.agg ds.toArray) (.agg ds.toArray) (.bool false) (by kernel_rfl) (by kernel_rfl) (by kernel_rfl) (by kernel_rfl) (by kernel_rfl) (by kernel_rfl) (fun wx ρ hwx h0 h1 hc => NQ.out _ _ _ rfl ρ wx h0 h1) ?_
      refine wpL_end (by kernel_rfl) (fun w9 hw9 => ?_)
      simp only [FinL, setL, List.set_cons_zero, List.set_cons_succ]
      have H9 := Lib.hid (HB.out.trans (hw9.mono HB.out.size))
      clear hw9 HB R NQ
      go_wp2_with (fail)
      go_roundw
      case rel => exact ⟨i + 1, by omega, by go_num, H9.out⟩
      case measure => simp [intOf]; omega
    · go_wp2_with (fail)
      go_ret
      exact ⟨rfl, HB.out⟩
end Sto
end Go.Proofs.Ytepbdjgfaljbgaa

end
section
namespace Go.Proofs.Ytepbdjgfaljbgaa
open Go.RowKit Go.Own
namespace Sto
open Go.StoM Byt
def inKy : InT Ky := fun k _ _ cs => cs = kC k ∧ FitK k
def inPl : InT Pl := fun p _ _ cs => cs = pC p ∧ FitP p
theorem wfI {a : Int} (h : (Lit.int .i64 a).wf = true) : i64S a := by
  simp [Lit.wf, IntKind.min, IntKind.max, IntKind.signed, IntKind.bits] at h
  unfold i64S
  omega
theorem opens_ky : Opens Try.prog 36 inKy := by
  intro H enc w fuel cs x h
  obtain ⟨⟨s, u⟩, e, h1, h2⟩ := Rec.opens_key H enc w fuel cs x h
  exact ⟨⟨s, u⟩, e, ⟨h1, h2⟩⟩
theorem opens_pl : Opens Try.prog 72 inPl := by
  intro H enc w fuel cs x h
  obtain ⟨hl, hf⟩ := opens_fields (P := Try.prog) Try.underlying72 h
  rw [show Try.prog.cellsOf 72 = 3 by kernel_rfl] at hl
  obtain ⟨c0, c1, c2, rfl⟩ : ∃ a b c, cs = [a, b, c] := by
    rcases cs with _ | ⟨c0, _ | ⟨c1, _ | ⟨c2, _ | ⟨c3, r⟩⟩⟩⟩
    · simp at hl
    · simp at hl
    · simp at hl
    · exact ⟨c0, c1, c2, rfl⟩
    · simp at hl
  obtain ⟨n0, y0, h0⟩ := hf 0 _ rfl
  obtain ⟨n1, y1, h1⟩ := hf 1 _ rfl
  obtain ⟨n2, y2, h2⟩ := hf 2 _ rfl
  obtain ⟨a0, e0, w0⟩ := opens_int (P := Try.prog) Try.underlying3 H enc w n0 _ y0 h0
  obtain ⟨a1, e1, w1⟩ := opens_int (P := Try.prog) Try.underlying3 H enc w n1 _ y1 h1
  obtain ⟨a2, e2, w2⟩ := opens_int (P := Try.prog) Try.underlying3 H enc w n2 _ y2 h2
  have k1 : Try.prog.cellsOf 3 = 1 := by kernel_rfl
  have e0' : c0 = .int .i64 a0 := by simpa [k1] using e0
  have e1' : c1 = .int .i64 a1 := by simpa [k1] using e1
  have e2' : c2 = .int .i64 a2 := by simpa [k1] using e2
  subst e0' e1' e2'
  exact ⟨⟨a0, a1, a2⟩, rfl, ⟨wfI w0, wfI w1, wfI w2⟩⟩
end Sto
end Go.Proofs.Ytepbdjgfaljbgaa

end
section
namespace Go.Proofs.Ytepbdjgfaljbgaa
open Go.RowKit Go.Own Go.Maps
namespace Sto
open Go.StoM Byt
def AChE (b : Nat) (l : List Ch) (o : Obj) : Asn where
  holds S w := (ACh b l).holds S w ∧ w.heap[b]? = some o
  keep h gs hd := ⟨(ACh b l).keep h.1 gs hd, (gs.block _ ((ACh b l).lt h.1 _ ((h.1.2 _).2 rfl)) (hd _ ((h.1.2 _).2 rfl))).trans h.2⟩
  lt h k hk := (ACh b l).lt h.1 k hk
def ARngE (b r : Nat) (l : List Ch) (left : Lit → Bool) (cnt : Nat) (o : Obj) : Asn where
  holds S w := (ARng b r l left cnt).holds S w ∧ w.heap[b]? = some o
  keep h gs hd := ⟨(ARng b r l left cnt).keep h.1 gs hd, (gs.block _ ((ARng b r l left cnt).lt h.1 _ ((h.1.2 _).2 (.inl rfl))) (hd _ ((h.1.2 _).2 (.inl rfl)))).trans h.2⟩
  lt h k hk := (ARng b r l left cnt).lt h.1 k hk
section
variable {B : Nat} {w0 w : World} {Ps : List Asn} {b r : Nat} {l : List Ch} {left : Lit → Bool} {cnt : Nat} {o : Obj}
theorem rngE_start (H : Own.St B w0 w Ps) (i : Nat) (hi : Ps[i]? = some (AChE b l o)) : ∃ w' left cnt, (Instr.range 108 (.map (some b))).run Try.prog w = .ok (.pointer (some ⟨w.heap.size, 0, none⟩)) w' ∧ Own.St B w0 w' (Ps.set i (ARngE b w.heap.size l left cnt o)) ∧ ∀ c ∈ l, left (kLit c.key) = true := by
  obtain ⟨S, ⟨⟨⟨D, hm, hr⟩, h5⟩, ho⟩, _, put⟩ := H.at i hi
  have hlt := hm.lt
  obtain ⟨w', hrun, r1, g, hsz⟩ := hm.range keyed mapT
  refine ⟨w', _, _, hrun, put (fun k => k = b ∨ k = w.heap.size) w' (ARngE b _ l _ _ o) ⟨⟨⟨D, _, r1, hr⟩, fun _ => Iff.rfl⟩, (g.block b hlt (by simp)).trans ho⟩ ?_, fun c hc => (hr.has _).2 ⟨c, hc, rfl⟩⟩
  refine ⟨g.os, g.tape, g.output, g.size, fun k hk _ => g.block k hk (by simp), fun k hk => ?_⟩
  rcases hk with rfl | rfl
  · exact .inl ((h5 _).2 rfl)
  · exact .inr (Nat.le_refl _)
theorem rngE_left (H : Own.St B w0 w Ps) (i : Nat) (hi : Ps[i]? = some (ARngE b r l left cnt o)) : w.rangeLeft b r = cnt := by
  obtain ⟨S, ⟨⟨⟨D, n, hr, _⟩, _⟩, _⟩, _⟩ := H.at i hi
  exact hr.left_eq
theorem rngE_next (H : Own.St B w0 w Ps) (i : Nat) (hi : Ps[i]? = some (ARngE b r l left cnt o)) (ok : Ok l) (ty : TypeId) :
    ((∀ kl, left kl = false) ∧ (Instr.next (.pointer (some ⟨r, 0, none⟩)) false ty).run Try.prog w = .ok (.tuple #[.bool false]) w) ∨
    ∃ c w' left' cnt', c ∈ l ∧ left (kLit c.key) = true ∧ (Instr.next (.pointer (some ⟨r, 0, none⟩)) false ty).run Try.prog w = .ok (.tuple #[.bool true, kV c.key, chV c]) w' ∧ Own.St B w0 w' (Ps.set i (ARngE b r l left' cnt' o)) ∧ cnt' < cnt ∧
      (∀ d ∈ l, d ≠ c → left' (kLit d.key) = left (kLit d.key)) ∧ left' (kLit c.key) = false ∧ (Instr.entry (.pointer (some ⟨r, 0, none⟩))).run Try.prog w' = .ok (.tuple #[kV c.key, chV c]) w' := by
  obtain ⟨S, ⟨⟨⟨D, n, hr, hd⟩, h5⟩, ho⟩, _, put⟩ := H.at i hi
  have hltb := hr.owns.lt
  have hbr : b ≠ r := by
    intro e
    obtain ⟨es, clock, since, seen, c0, hb, F, hs, hD, hi2, rest⟩ := hr
    rw [← e, hb] at hi2
    cases hi2
  rcases hr.next keyed ty with ⟨_, hl, hrun⟩ | ⟨key, v, kl, y, w', cnt', hkey, hlk, hv, hat, hrun, hrg, hlt, hgr, hsz, hen⟩
  · exact .inl ⟨hl, hrun⟩
  · right
    have hh := has_true_of_atKey hat
    obtain ⟨c, hc, e⟩ := (hd.has kl).1 hh
    have hck := key_of (ok.fit c hc).key
    rw [e] at hck
    have ek := keyed.inj hkey hck
    have h1 := hd.at_ c hc (.held v)
    rw [e, hat] at h1
    simp only [rawV, Option.some.injEq] at hv
    rw [← hv] at h1
    simp only [DataW.held.injEq] at h1
    rw [ek, h1] at hrun hen
    refine ⟨c, w', _, cnt', hc, by rw [e]; exact hlk, hrun, put (fun k => k = b ∨ k = r) w' (ARngE b r l _ cnt' o) ⟨⟨⟨D, n, hrg, hd⟩, fun _ => Iff.rfl⟩, (hgr.block b hltb (fun e => hbr (by cases e; rfl))).trans ho⟩ ?_, hlt, fun d hd2 hne => ?_, ?_, hen⟩
    · exact ⟨hgr.os, hgr.tape, hgr.output, hgr.size, fun k hk hn => hgr.block k hk (fun e => hn ((h5 k).2 (.inr (by cases e; rfl)))), fun k hk => .inl ((h5 k).2 hk)⟩
    · have hkd : kLit d.key ≠ kl := fun e2 => hne (key_inj ok.sorted hd2 hc (kLit_inj (ok.fit d hd2).key (ok.fit c hc).key (by rw [e2, e])))
      show (left (kLit d.key) && !(kLit d.key).sameKey kl) = _
      rw [Maps.sameKey_ne hkd]
      simp
    · show (left (kLit c.key) && !(kLit c.key).sameKey kl) = false
      rw [← e, WideAt.sameKey_self (isKey (ok.fit c hc).key)]
      simp
theorem rngE_end (H : Own.St B w0 w Ps) (i : Nat) (hi : Ps[i]? = some (ARngE b r l left cnt o)) : Own.St B w0 w (Ps.set i (AChE b l o)) := by
  obtain ⟨S, ⟨⟨⟨D, n, hr, hd⟩, h5⟩, ho⟩, _, put⟩ := H.at i hi
  exact put (fun k => k = b) w (AChE b l o) ⟨⟨⟨D, tight hr.owns hd, hd⟩, fun _ => Iff.rfl⟩, ho⟩ ((Step.refl S w).to fun k hk => .inl ((h5 k).2 (.inl hk)))
/-- a map's object, exactly as it is -/
theorem ach_exact (H : Own.St B w0 w (ACh b l :: Ps)) : ∃ o, Own.St B w0 w (AChE b l o :: Ps) := by
  obtain ⟨S, ⟨⟨D, hm, hr⟩, h5⟩, _, put⟩ := H.at 0 rfl
  have hm0 := hm
  obtain ⟨es, clock, hb, _⟩ := hm0
  exact ⟨_, put S w (AChE b l _) ⟨⟨⟨D, hm, hr⟩, h5⟩, hb⟩ (Step.refl S w)⟩
end
/-- blocks that are as they were in W -/
def AGar (W : World) (G : Nat → Prop) : Asn where
  holds S w := (∀ k, S k ↔ (G k ∧ k < W.heap.size)) ∧ (∀ k, S k → w.heap[k]? = W.heap[k]?) ∧ W.heap.size ≤ w.heap.size
  keep h gs hd := by
    refine ⟨h.1, fun k hk => ?_, Nat.le_trans h.2.2 gs.size⟩
    have hlt := ((h.1 k).1 hk).2
    exact (gs.block k (Nat.lt_of_lt_of_le hlt h.2.2) (hd k hk)).trans (h.2.1 k hk)
  lt h k hk := Nat.lt_of_lt_of_le ((h.1 k).1 hk).2 h.2.2
/-- all that a call could turn, but a map and a cell -/
theorem gar_add {B : Nat} {w0 w : World} {b p : Nat} {l : List Ch} {o : Obj} {vs : List Value} {t : TypeId} (H : Own.St B w0 w [AChE b l o, AVals p t vs]) : Own.St B w0 w [AChE b l o, AVals p t vs, AGar w (fun k => B ≤ k ∧ k ≠ b ∧ k ≠ p)] := by
  obtain ⟨hb, hs, S, ⟨S1, S2, h1, ⟨S3, S4, h3, h4, h5, h6⟩, h7, h8⟩, hB⟩ := H
  have e1 : ∀ k, S1 k ↔ k = b := h1.1.2
  have e3 : ∀ k, S3 k ↔ k = p := h3.2
  have hS1 : B ≤ b := hB b ((h8 b).2 (.inl ((e1 b).2 rfl)))
  have hS3 : B ≤ p := hB p ((h8 p).2 (.inr ((h6 p).2 (.inl ((e3 p).2 rfl)))))
  have hne : b ≠ p := fun e => h7 b ((e1 b).2 rfl) ((h6 b).2 (.inl ((e3 b).2 e)))
  refine ⟨hb, hs, fun k => S1 k ∨ (S3 k ∨ ((B ≤ k ∧ k ≠ b ∧ k ≠ p) ∧ k < w.heap.size)), ⟨S1, fun k => S3 k ∨ ((B ≤ k ∧ k ≠ b ∧ k ≠ p) ∧ k < w.heap.size), h1, ⟨S3, fun k => (B ≤ k ∧ k ≠ b ∧ k ≠ p) ∧ k < w.heap.size, h3, ⟨fun k => (B ≤ k ∧ k ≠ b ∧ k ≠ p) ∧ k < w.heap.size, fun _ => False, ⟨fun k => Iff.rfl, fun k _ => rfl, Nat.le_refl _⟩, fun _ h => h, fun _ _ h => h, fun k => ⟨.inl, fun h => h.elim id (fun h => h.elim)⟩⟩, fun k hk hg => hg.1.2.2 ((e3 k).1 hk), fun k => Iff.rfl⟩, fun k hk hg => ?_, fun k => Iff.rfl⟩, fun k hk => ?_⟩
  · have hkb := (e1 k).1 hk
    rcases hg with h | h
    · exact hne (hkb.symm.trans ((e3 k).1 h))
    · exact h.1.2.1 hkb
  · rcases hk with h | h | h
    · rw [(e1 k).1 h]; exact hS1
    · rw [(e3 k).1 h]; exact hS3
    · exact h.1.1
/-- then nothing old has turned -/
theorem gar_below {B : Nat} {w0 w w' : World} {b p : Nat} {l : List Ch} {o : Obj} {vs : List Value} {t : TypeId} {Q : Asn} (H : Own.St B w0 w [AChE b l o, AVals p t vs]) (H' : Own.St B w0 w' [Q, AChE b l o, AVals p t vs, AGar w (fun k => B ≤ k ∧ k ≠ b ∧ k ≠ p)]) : Below w.heap.size w w' := by
  have g1 := H.below
  have g2 := H'.below
  obtain ⟨S, ⟨_, ho⟩, _⟩ := H.at 0 rfl
  obtain ⟨S', ⟨_, ho'⟩, _⟩ := H'.at 1 rfl
  have hp := H.block 1 rfl
  have hp' := H'.block 2 rfl
  obtain ⟨S3, ⟨q1, q2, q3⟩, _⟩ := H'.at 3 rfl
  refine ⟨g2.os.trans g1.os.symm, g2.tape.trans g1.tape.symm, g2.output.trans g1.output.symm, q3, fun k hk => ?_⟩
  by_cases hkB : k < B
  · exact (g2.block k hkB).trans (g1.block k hkB).symm
  · by_cases hb : k = b
    · rw [hb, ho, ho']
    · by_cases hkp : k = p
      · rw [hkp, hp, hp']
      · exact q2 k ((q1 k).2 ⟨⟨by omega, hb, hkp⟩, hk⟩)
end Sto
end Go.Proofs.Ytepbdjgfaljbgaa

end
section
namespace Go.Proofs.Ytepbdjgfaljbgaa
open Go.RowKit Go.Own Go.Maps
namespace Sto
open Go.StoM Byt
section
variable {B : Nat} {w0 w : World} {Ps : List Asn} {p : Nat} {l : List Ch}
set_option maxRecDepth 10000 in
set_option maxHeartbeats 6400000 in
theorem chosen_someE (g gs : Nat) (cb : Array Value) (q : Ch → Bool) (cf : Ch → Ch → Int) (eg : ∀ args w, (callFunc g args).run Try.prog w = .ok (.enter g args) w) (es : ∀ args w, (callFunc gs args).run Try.prog w = .ok (.enter gs args) w)
    (hO : Sort.SWO (ltOf fun x y : FC => cf x.1 y.1)) (hcf : ∀ a b : Ch, Fit a → Fit b → ∀ W, Calls Try.prog gs #[chV a, chV b] W fun e w' => e = .returned (iS (cf a b)) ∧ ∃ q os', w' = Sort.grow (W.drewN q) os')
    {b : Nat} {o : Obj} (H : Own.St B w0 w (AChE b l o :: AVals p 110 [.map (some b)] :: Ps)) (ok : Ok l) (hn : l.length ≤ 100000)
    (hw : ∀ c, Fit c → ∀ (Qs : List Asn) wx, Own.St B w0 wx (Qs ++ Ps) → Calls Try.prog g (#[chV c] ++ cb) wx fun e w' => e = .returned (.bool (q c)) ∧ Below wx.heap.size wx w')
    (R : List Ch) (hR : ∀ m : List Ch, m.Perm (l.filter q) → m.Pairwise (fun a b => ¬ cf b a < 0) → m = R) :
    Calls Try.prog 57 #[ptr p, .func (.func g) #[] cb, .func (.func gs) #[] #[]] w fun e w' => ∃ ao c, e = .returned (.slice ao R.length c) ∧ Own.St B w0 w' (ARow 74 37 (.slice ao R.length c) R.length (R.flatMap chC) :: AChE b l o :: AVals p 110 [.map (some b)] :: Ps) := by
  have c0 := (H.cellV 1 rfl 0 rfl).1
  obtain ⟨w1, left0, cnt0, e1, h1, hl0⟩ := rngE_start H 0 rfl
  simp only [List.set_cons_zero] at h1
  obtain ⟨r, hr⟩ : ∃ r, r = w.heap.size := ⟨_, rfl⟩
  rw [← hr] at e1 h1
  have HR := hr.symm
  have E1 := Lib.hid e1
  have h2 := h1.rowFresh (e := 74) (size := 37)
  have H2 := Lib.hid h2
  have HL0 := Lib.hid hl0
  have OK := Lib.hid ok
  clear e1 h1 h2 hl0 H hr
  go_enter Try.func57, Try.ntmps57
  go_wp2_with (refine wpList_runs rfl (range_E rfl rfl E1.out) ?_)

  go_loopw [7] (fun v7 wr => ∃ (acc : List Ch) (ao : Option Addr) (cap : Nat) (left : Lit → Bool) (cnt : Nat), v7 = .slice ao acc.length cap ∧ Own.St B w0 wr (ARow 74 37 (.slice ao acc.length cap) acc.length (acc.flatMap chC) :: ARngE b r l left cnt o :: AVals p 110 [.map (some b)] :: Ps) ∧ acc.Perm ((met left l).filter q)) (fun _ wr => wr.rangeLeft b r)
  case atStart =>
    refine ⟨[], none, 0, left0, cnt0, rfl, H2.out, ?_⟩
    have e : met left0 l = [] := by
      unfold met
      rw [List.filter_eq_nil_iff]
      intro c hc
      rw [HL0.out c hc]
      simp
    rw [e]
    exact List.Perm.refl _
  case round =>
    obtain ⟨acc, ao, cap, left, cnt, rfl, hst, hpm⟩ := hrel
    have H := Lib.hid hst
    have HP := Lib.hid hpm
    have hac : ∀ c ∈ acc, c ∈ l := fun c hc => (List.mem_filter.1 (List.mem_filter.1 (hpm.mem_iff.1 hc)).1).1
    have HAC := Lib.hid hac
    have hlen : acc.length ≤ l.length := by
      rw [hpm.length_eq]
      exact Nat.le_trans (List.length_filter_le _ _) (List.length_filter_le _ _)
    have HLN := Lib.hid hlen
    clear hst hpm H2 HL0 E1 hac hlen
    rcases rngE_next H.out 1 rfl OK.out 0 with ⟨hno, hrun⟩ | ⟨c, w2, left', cnt', hc, hlc, hrun, h2, hlt, hoth, hl2, hen⟩
    · have HN := Lib.hid hno
      clear hno
      have hpf : acc.Perm (l.filter q) := by
        have e : met left l = l := by
          unfold met
          rw [List.filter_eq_self]
          intro c _
          rw [HN.out]
          rfl
        have := HP.out
        rwa [e] at this
      have hfit : ∀ c ∈ acc, Fit c := fun c hc => OK.out.fit c (HAC.out c hc)
      have hH := rngE_end H.out 1 rfl
      simp only [List.set_cons_zero, List.set_cons_succ] at hH
      have CS := Lib.hid (sort_any gs cf hO hcf es hfit rfl (by have := HLN.out; omega) hH)
      have HPF := Lib.hid hpf
      clear hpf hfit hH
      go_wp2_with (fail)
      refine CS.out.mono ?_
      rintro e w3 ⟨rfl, m, hm1, hm2, h3⟩
      have hmR := hR m (hm1.trans HPF.out) hm2
      subst hmR
      have hln : acc.length = m.length := hm1.length_eq.symm
      rw [hln] at h3
      have H3 := Lib.hid h3
      have HLL := Lib.hid hln
      clear h3 hm1 hm2 hln CS hR hO hcf hw HP
      go_wp2_with (fail)
      go_ret
      exact ⟨ao, cap, by rw [HLL.out]; rfl, H3.out⟩
    · simp only [List.set_cons_zero, List.set_cons_succ] at h2
      have hfc := OK.out.fit c hc
      obtain ⟨cs, hcs⟩ : ∃ x, x = chC c := ⟨_, rfl⟩
      obtain ⟨kc, hkc⟩ : ∃ x, x = kV c.key := ⟨_, rfl⟩
      have ecs : chV c = .agg cs.toArray := by rw [hcs]; rfl
      rw [ecs, ← hkc] at hrun hen
      have CL : Hid (cs.length = 37) := by show _ = _; rw [hcs]; exact chC_len hfc.key
      have CO : Hid (∀ u ∈ cs, u.oneCell' = true) := by show ∀ u ∈ cs, _; rw [hcs]; exact chC_one _
      have H2 := Lib.hid h2
      have CW : Hid (∀ (Qs : List Asn) wx, Own.St B w0 wx (Qs ++ Ps) → Calls Try.prog g (#[.agg cs.toArray] ++ cb) wx fun e w' => e = .returned (.bool (q c)) ∧ Below wx.heap.size wx w') := by
        rw [hcs]
        exact fun Qs wx hwx => hw c hfc Qs wx hwx
      have MT := Lib.hid (met_step OK.out hc hlc hl2 hoth)
      have HLT : Hid (w2.rangeLeft b r < wr.rangeLeft b r) := by
        show _ < _
        rw [rngE_left H.out 1 rfl, rngE_left h2 1 rfl]
        exact hlt
      have HCL : Hid (wr.rangeLeft b r = cnt) := rngE_left H.out 1 rfl
      have HCC := Lib.hid hlt
      have HQ := Lib.hid hcs
      clear hcs hkc ecs h2 hlt hlc hoth hl2 hfc H
      go_wp2_with (first
        | (refine wpList_box2 boxy_ch rfl rfl rfl (.tmp 9) (.tmp 20) rfl rfl cs (fun _ => rfl) (fun _ => rfl) CL.out CO.out H2.out ?_; intro b9 w3 h; have H3 := Lib.hid h; clear h)
        | (refine wpList_val rfl (load_ch cs CL.out rfl _ (b := b9) (k := 0) (H3.out.boxRange 0 rfl) rfl) ?_))
      refine (CW.out [_, _, _, _] w3 H3.out).mono ?_
      rintro e w4 ⟨rfl, h4⟩
      have H4 := Lib.hid (H3.out.later h4)
      clear h4 CW H3 H2
      cases hq : q c
      · have HMT : Hid (acc.Perm ((met left' l).filter q)) := by
          have h1 := MT.out.filter q
          rw [List.filter_cons_of_neg (by simp [hq])] at h1
          exact HP.out.trans h1.symm
        clear hq
        go_wp2_with (fail)
        go_roundw
        case rel => exact ⟨acc, ao, cap, left', cnt', rfl, H4.out.drop 1, HMT.out⟩
        case measure =>
          have h1 := rngE_left H4.out 2 rfl
          rw [h1, HCL.out]
          exact HCC.out
      · have HMT : Hid ((acc ++ [c]).Perm ((met left' l).filter q)) := by
          have h1 := MT.out.filter q
          rw [List.filter_cons_of_pos hq] at h1
          exact (List.perm_append_comm.trans (HP.out.cons c)).trans h1.symm
        have hb := H4.out.boxV 74 cs
        have HBX := Lib.hid hb
        have HC : Hid (∀ a, some (⟨w4.heap.size, 0, none⟩ : Addr) = some a → ∀ j u, cs[j]? = some u → (w4.alloc (.cells cs.toArray 74)).cell? (a.add j) = some u) := by
          intro a ha j u hu
          cases ha
          rw [add_of, Nat.zero_add]
          exact (HBX.out.cellV 0 rfl j hu).1
        have hcap := HLN.out
        clear hq hb
        go_wp2_with (first
          | (refine wpList_val rfl (load_ch cs CL.out rfl _ (b := b9) (k := 0) (H4.out.boxRange 0 rfl) rfl) ?_)
          | (refine wpList_slot_one rfl 64 (.tmp 25) rfl cs 74 rfl (slot_ch cs CL.out _) ?_)
          | (at_builtin; refine wpList_many_append many_ch rfl (.tmp 24) (.tmp 26) rfl HBX.out 2 rfl rfl (some ⟨w4.heap.size, 0, none⟩) 1 1 cs rfl (by intro h; cases h) (by rw [CL.out]) HC.out CO.out (by omega) (by decide) ?_; intro a2 c2 w5 h5; simp only [List.set_cons_zero, List.set_cons_succ] at h5 ⊢; have H5 := Lib.hid h5; clear h5))
        go_roundw
        case rel =>
          refine ⟨acc ++ [c], a2, c2, left', cnt', by rw [List.length_append]; rfl, ?_, HMT.out⟩
          have h := H5.out.drop 2
          simp only [List.drop_succ_cons, List.drop_zero] at h
          rw [List.length_append, List.flatMap_append, List.flatMap_singleton, ← HQ.out]
          exact h
        case measure =>
          have h1 := rngE_left H5.out 3 rfl
          rw [h1, HCL.out]
          exact HCC.out
end
end Sto
end Go.Proofs.Ytepbdjgfaljbgaa

end
section
namespace Go.Proofs.Ytepbdjgfaljbgaa
open Go.RowKit Go.Own Go.Maps
namespace Sto
open Go.StoM Byt
theorem gar_add2 {B : Nat} {w0 w : World} {b p x : Nat} {l : List Ch} {o : Obj} {vs us : List Value} {t u : TypeId} (H : Own.St B w0 w [AChE b l o, AVals p t vs, AVals x u us]) : Own.St B w0 w [AChE b l o, AVals p t vs, AVals x u us, AGar w (fun k => B ≤ k ∧ k ≠ b ∧ k ≠ p ∧ k ≠ x)] := by
  obtain ⟨hb, hs, S, ⟨S1, S2, h1, ⟨S3, S4, h3, ⟨S5, S6, h5, h6, d5, f5⟩, d3, f3⟩, d1, f1⟩, hB⟩ := H
  have e1 : ∀ k, S1 k ↔ k = b := h1.1.2
  have e3 : ∀ k, S3 k ↔ k = p := h3.2
  have e5 : ∀ k, S5 k ↔ k = x := h5.2
  have g4 : S4 x := (f5 x).2 (.inl ((e5 x).2 rfl))
  have g2p : S2 p := (f3 p).2 (.inl ((e3 p).2 rfl))
  have g2x : S2 x := (f3 x).2 (.inr g4)
  have hS1 : B ≤ b := hB b ((f1 b).2 (.inl ((e1 b).2 rfl)))
  have hS3 : B ≤ p := hB p ((f1 p).2 (.inr g2p))
  have hS5 : B ≤ x := hB x ((f1 x).2 (.inr g2x))
  have n1 : b ≠ p := fun e => d1 b ((e1 b).2 rfl) (by rw [e]; exact g2p)
  have n2 : b ≠ x := fun e => d1 b ((e1 b).2 rfl) (by rw [e]; exact g2x)
  have n3 : p ≠ x := fun e => d3 p ((e3 p).2 rfl) (by rw [e]; exact g4)
  refine ⟨hb, hs, fun k => S1 k ∨ (S3 k ∨ (S5 k ∨ ((B ≤ k ∧ k ≠ b ∧ k ≠ p ∧ k ≠ x) ∧ k < w.heap.size))), ⟨S1, fun k => S3 k ∨ (S5 k ∨ ((B ≤ k ∧ k ≠ b ∧ k ≠ p ∧ k ≠ x) ∧ k < w.heap.size)), h1, ⟨S3, fun k => S5 k ∨ ((B ≤ k ∧ k ≠ b ∧ k ≠ p ∧ k ≠ x) ∧ k < w.heap.size), h3, ⟨S5, fun k => (B ≤ k ∧ k ≠ b ∧ k ≠ p ∧ k ≠ x) ∧ k < w.heap.size, h5, ⟨fun k => (B ≤ k ∧ k ≠ b ∧ k ≠ p ∧ k ≠ x) ∧ k < w.heap.size, fun _ => False, ⟨fun k => Iff.rfl, fun k _ => rfl, Nat.le_refl _⟩, fun _ h => h, fun _ _ h => h, fun k => ⟨.inl, fun h => h.elim id (fun h => h.elim)⟩⟩, fun k hk hg => hg.1.2.2.2 ((e5 k).1 hk), fun k => Iff.rfl⟩, fun k hk hg => ?_, fun k => Iff.rfl⟩, fun k hk hg => ?_, fun k => Iff.rfl⟩, fun k hk => ?_⟩
  · have hkp := (e3 k).1 hk
    rcases hg with h | h
    · exact n3 (hkp.symm.trans ((e5 k).1 h))
    · exact h.1.2.2.1 hkp
  · have hkb := (e1 k).1 hk
    rcases hg with h | h | h
    · exact n1 (hkb.symm.trans ((e3 k).1 h))
    · exact n2 (hkb.symm.trans ((e5 k).1 h))
    · exact h.1.2.1 hkb
  · rcases hk with h | h | h | h
    · rw [(e1 k).1 h]; exact hS1
    · rw [(e3 k).1 h]; exact hS3
    · rw [(e5 k).1 h]; exact hS5
    · exact h.1.1
theorem gar_below2 {B : Nat} {w0 w w' : World} {b p x : Nat} {l : List Ch} {o : Obj} {vs us : List Value} {t u : TypeId} {Q : Asn} (H : Own.St B w0 w [AChE b l o, AVals p t vs, AVals x u us]) (H' : Own.St B w0 w' [Q, AChE b l o, AVals p t vs, AVals x u us, AGar w (fun k => B ≤ k ∧ k ≠ b ∧ k ≠ p ∧ k ≠ x)]) : Below w.heap.size w w' := by
  have g1 := H.below
  have g2 := H'.below
  obtain ⟨S, ⟨_, ho⟩, _⟩ := H.at 0 rfl
  obtain ⟨S', ⟨_, ho'⟩, _⟩ := H'.at 1 rfl
  have hp := H.block 1 rfl
  have hp' := H'.block 2 rfl
  have hx := H.block 2 rfl
  have hx' := H'.block 3 rfl
  obtain ⟨S3, ⟨q1, q2, q3⟩, _⟩ := H'.at 4 rfl
  refine ⟨g2.os.trans g1.os.symm, g2.tape.trans g1.tape.symm, g2.output.trans g1.output.symm, q3, fun k hk => ?_⟩
  by_cases hkB : k < B
  · exact (g2.block k hkB).trans (g1.block k hkB).symm
  · by_cases hb : k = b
    · rw [hb, ho, ho']
    · by_cases hkp : k = p
      · rw [hkp, hp, hp']
      · by_cases hkx : k = x
        · rw [hkx, hx, hx']
        · exact q2 k ((q1 k).2 ⟨⟨by omega, hb, hkp, hkx⟩, hk⟩)
section
variable {B : Nat} {w0 w : World} {Ps : List Asn} {p : Nat} {l : List Ch}
set_option maxRecDepth 10000 in
set_option maxHeartbeats 6400000 in
theorem chosen_nilB (g gs : Nat) (cb : Array Value) (H : Own.St B w0 w (AVals p 110 [.map none] :: Ps)) :
    Calls Try.prog 57 #[ptr p, .func (.func g) #[] cb, .func (.func gs) #[] #[]] w fun e w' => e = .returned (.slice none 0 0) ∧ Below w.heap.size w w' := by
  have c0 := (H.cellV 0 rfl 0 rfl).1
  have e1 := run_range_nilMap (P := Try.prog) w 108 36 74 mapT
  have e2 := run_next_nilMap (P := Try.prog) w 0 0 0 #[]
  have HS : Hid (Calls Try.prog 63 #[.slice none 0 0, .func (.func gs) #[] #[]] (w.alloc (.mapIter none 0 #[] 0)) fun e w' => e = .returned (.tuple #[]) ∧ w' = w.alloc (.mapIter none 0 #[] 0)) := AnyF.slices_SortFunc_none sortCh none 0 _ _
  have H1 := Lib.hid ((Own.St.start w).alloc (.mapIter none 0 #[] 0))
  clear H
  go_enter Try.func57, Try.ntmps57
  go_wp2
  go_simp
  go_loopw [7] (fun v7 wr => v7 = .slice none 0 0 ∧ wr = w.alloc (.mapIter none 0 #[] 0)) (fun _ wr => 0)
  case atStart => exact ⟨rfl, rfl⟩
  case round =>
    obtain ⟨rfl, rfl⟩ := hrel
    go_wp2_with (fail)
    refine HS.out.mono ?_
    rintro e w3 ⟨rfl, rfl⟩
    go_wp2_with (fail)
    go_ret
    exact ⟨rfl, H1.out.below⟩
/-- chosen over a store that stands beside a cell: nothing old is turned -/
theorem chosen_below (g gs : Nat) (x : Nat) (u : TypeId) (us : List Value) (cb : Array Value) (q : Ch → Bool) (cf : Ch → Ch → Int) (eg : ∀ args w, (callFunc g args).run Try.prog w = .ok (.enter g args) w) (es : ∀ args w, (callFunc gs args).run Try.prog w = .ok (.enter gs args) w)
    (hO : Sort.SWO (ltOf fun x y : FC => cf x.1 y.1)) (hcf : ∀ a b : Ch, Fit a → Fit b → ∀ W, Calls Try.prog gs #[chV a, chV b] W fun e w' => e = .returned (iS (cf a b)) ∧ ∃ q os', w' = Sort.grow (W.drewN q) os')
    (H : Own.St B w0 w [AS p l, AVals x u us]) (ok : Ok l) (hn : l.length ≤ 100000)
    (hw : ∀ c, Fit c → ∀ wx, (∀ (j : Nat) (v : Value), us[j]? = some v → wx.cell? ⟨x, j, none⟩ = some v) → Calls Try.prog g (#[chV c] ++ cb) wx fun e w' => e = .returned (.bool (q c)) ∧ Below wx.heap.size wx w')
    (R : List Ch) (hR : ∀ m : List Ch, m.Perm (l.filter q) → m.Pairwise (fun a b => ¬ cf b a < 0) → m = R) :
    Calls Try.prog 57 #[ptr p, .func (.func g) #[] cb, .func (.func gs) #[] #[]] w fun e w' => ∃ ao c, e = .returned (.slice ao R.length c) ∧ RdWin w' (.slice ao R.length c) R.length (R.flatMap chC) ∧ Below w.heap.size w w' := by
  obtain ⟨m, hm, h⟩ := as_open H
  cases m with
  | some b =>
    have h1 : Own.St B w0 w [ACh b l, AVals p 110 [.map (some b)], AVals x u us] := h.swap2
    obtain ⟨o, h2⟩ := ach_exact h1
    refine (chosen_someE (p := p) g gs cb q cf eg es hO hcf (b := b) (o := o) (gar_add2 h2) ok hn (fun c hc Qs wx hwx => hw c hc wx fun j v hj => (hwx.cellV (t := u) (vs := us) Qs.length (by simp) j hj).1) R hR).mono ?_
    rintro e w' ⟨ao, c, rfl, h3⟩
    exact ⟨ao, c, rfl, rd_rowW h3 0 rfl, gar_below2 h2 h3⟩
  | none =>
    have hl := hm rfl
    subst hl
    have hR0 : R = [] := (hR [] (by simp) List.Pairwise.nil).symm
    subst hR0
    refine (chosen_nilB g gs cb (Ps := [AVals x u us]) h).mono ?_
    rintro e w' ⟨rfl, h2⟩
    exact ⟨none, 0, rfl, ⟨none, 0, rfl, .inl rfl⟩, h2⟩
/-- .. that stands alone -/
theorem chosen_below0 (g gs : Nat) (q : Ch → Bool) (cf : Ch → Ch → Int) (eg : ∀ args w, (callFunc g args).run Try.prog w = .ok (.enter g args) w) (es : ∀ args w, (callFunc gs args).run Try.prog w = .ok (.enter gs args) w)
    (hO : Sort.SWO (ltOf fun x y : FC => cf x.1 y.1)) (hcf : ∀ a b : Ch, Fit a → Fit b → ∀ W, Calls Try.prog gs #[chV a, chV b] W fun e w' => e = .returned (iS (cf a b)) ∧ ∃ q os', w' = Sort.grow (W.drewN q) os')
    (H : Own.St B w0 w [AS p l]) (ok : Ok l) (hn : l.length ≤ 100000)
    (hw : ∀ c, Fit c → ∀ wx, Calls Try.prog g (#[chV c] ++ #[]) wx fun e w' => e = .returned (.bool (q c)) ∧ Below wx.heap.size wx w')
    (R : List Ch) (hR : ∀ m : List Ch, m.Perm (l.filter q) → m.Pairwise (fun a b => ¬ cf b a < 0) → m = R) :
    Calls Try.prog 57 #[ptr p, .func (.func g) #[] #[], .func (.func gs) #[] #[]] w fun e w' => ∃ ao c, e = .returned (.slice ao R.length c) ∧ RdWin w' (.slice ao R.length c) R.length (R.flatMap chC) ∧ Below w.heap.size w w' := by
  obtain ⟨m, hm, h⟩ := as_open H
  cases m with
  | some b =>
    have h1 : Own.St B w0 w [ACh b l, AVals p 110 [.map (some b)]] := h.swap2
    obtain ⟨o, h2⟩ := ach_exact h1
    refine (chosen_someE (p := p) g gs #[] q cf eg es hO hcf (b := b) (o := o) (gar_add h2) ok hn (fun c hc Qs wx hwx => hw c hc wx) R hR).mono ?_
    rintro e w' ⟨ao, c, rfl, h3⟩
    exact ⟨ao, c, rfl, rd_rowW h3 0 rfl, gar_below h2 h3⟩
  | none =>
    have hl := hm rfl
    subst hl
    have hR0 : R = [] := (hR [] (by simp) List.Pairwise.nil).symm
    subst hR0
    refine (chosen_nilB g gs #[] (Ps := []) h).mono ?_
    rintro e w' ⟨rfl, h2⟩
    exact ⟨none, 0, rfl, ⟨none, 0, rfl, .inl rfl⟩, h2⟩
theorem all_below (H : Own.St B w0 w (AS p l :: Ps)) (ok : Ok l) (hn : l.length ≤ 100000) : Calls Try.prog 37 #[ptr p] w fun e w' => ∃ ao c, e = .returned (.slice ao l.length c) ∧ RdWin w' (.slice ao l.length c) l.length (l.flatMap chC) ∧ Below w.heap.size w w' := by
  have H0 : Own.St B w0 w [AS p l] := (H.perm (List.perm_append_comm (l₁ := [AS p l]) (l₂ := Ps))).drop Ps.length |> fun h => by simpa using h
  have C := Lib.hid (chosen_below0 60 61 (fun _ => true) (fun a b => keyCmp a.key b.key) (enters_of Try.func60 (by kernel_rfl) rfl) (enters_of Try.func61 (by kernel_rfl) rfl) swoK byKey_any H0 ok hn
    (fun c _ wx => all_cl c wx) l (fun m hp hs => by
      have := order_k ok.sorted hp hs
      rwa [List.filter_eq_self.2 (fun _ _ => rfl)] at this))
  clear H H0
  go_enter Try.func37, Try.ntmps37
  go_wp2_with (fail)
  refine C.out.mono ?_
  rintro e w1 ⟨ao, c, rfl, hr, h⟩
  have HR := Lib.hid hr
  have HB := Lib.hid h
  clear hr h C
  go_wp2
  go_ret
  exact ⟨ao, c, rfl, HR.out, HB.out⟩
theorem twins_below (H : Own.St B w0 w (AS p l :: Ps)) (ok : Ok l) (hn : l.length ≤ 100000) (d : List UInt8) (hd : d.length = 32) : Calls Try.prog 38 #[ptr p, .agg (d.map byteV).toArray] w fun e w' => ∃ ao c, e = .returned (.slice ao (twins l d).length c) ∧ RdWin w' (.slice ao (twins l d).length c) (twins l d).length ((twins l d).flatMap chC) ∧ Below w.heap.size w w' := by
  have H0 : Own.St B w0 w [AS p l] := (H.perm (List.perm_append_comm (l₁ := [AS p l]) (l₂ := Ps))).drop Ps.length |> fun h => by simpa using h
  have hb := (H0.boxV 34 (d.map byteV)).swap2
  have BL : Hid (∀ w', Below (w.alloc (.cells (d.map byteV).toArray 34)).heap.size (w.alloc (.cells (d.map byteV).toArray 34)) w' → Below w.heap.size w w') := fun w' h => by
    have h1 := ((Own.St.start w).alloc (.cells (d.map byteV).toArray 34)).below
    exact h1.trans (h.mono h1.size)
  have C := Lib.hid (chosen_below 62 61 w.heap.size 34 (d.map byteV) #[ptr w.heap.size] (fun c => decide (c.key.sum = d)) (fun a b => keyCmp a.key b.key) (enters_of Try.func62 (by kernel_rfl) rfl) (enters_of Try.func61 (by kernel_rfl) rfl) swoK byKey_any hb ok hn
    (fun c hc wx hwx => twin_cl c hc d hd w.heap.size (fun j v hj => by rw [Nat.zero_add]; exact hwx j v hj)) (twins l d) (fun m hp hs => order_k ok.sorted hp hs))
  obtain ⟨ds, hds⟩ : ∃ x, x = d.map byteV := ⟨_, rfl⟩
  rw [← hds] at C BL ⊢
  clear H hb hds H0
  go_enter Try.func38, Try.ntmps38
  go_wp2_with (fail)
  refine C.out.mono ?_
  rintro e w1 ⟨ao, c, rfl, hr, h⟩
  have HR := Lib.hid hr
  have HB := Lib.hid (BL.out w1 h)
  clear hr h C
  go_wp2
  go_ret
  exact ⟨ao, c, rfl, HR.out, HB.out⟩
end
end Sto
end Go.Proofs.Ytepbdjgfaljbgaa

end
section
namespace Go.Proofs.Ytepbdjgfaljbgaa
open Go.RowKit Go.Own
namespace Sto
open Go.StoM Byt
abbrev RowC (v : Value) (l : List Ch) : Asn := ARow 74 37 v l.length (l.flatMap chC)
/-- the document's store at p -/
def ARef (p : Nat) (v : Value) (l : List Ch) : Asn := AJoin [AVals p 103 [v], RowC v l]
theorem fld_rL {o : Oper} {X : Operand} (ho : o.op = .fieldAddr 103 X 0) {p : Nat} (ρ : Operand → Value) (w : World) (h0 : ρ X = ptr p) : (execOp ρ o).run Try.prog w = .ok (.value (ptr p)) w := by
  simp [execOp, ho, h0, go_sem, add_of]
theorem ld_rL {o : Oper} {X : Operand} (ho : o.op = .load 64 X) {a : Addr} {v : Value} (ρ : Operand → Value) {w : World} (hc : w.cell? a = some v) (h0 : ρ X = .pointer (some a)) : (execOp ρ o).run Try.prog w = .ok (.value v) w := by
  simp [execOp, ho, h0, go_sem, hc]
section
variable {B : Nat} {w0 w : World} {Ps : List Asn} {p : Nat} {v : Value} {l : List Ch}
theorem ref_open (h : Own.St B w0 w (ARef p v l :: Ps)) : Own.St B w0 w (AVals p 103 [v] :: RowC v l :: Ps) := h.openJ
theorem ref_close (h : Own.St B w0 w (AVals p 103 [v] :: RowC v l :: Ps)) : Own.St B w0 w (ARef p v l :: Ps) := Own.St.closeJ (Qs := [_, _]) h
set_option maxRecDepth 10000 in
set_option maxHeartbeats 6400000 in
theorem atR_any (H0 : Own.St B w0 w (ARef p v l :: Ps)) (ok : Ok l) (hn : l.length ≤ 100000) {k : Ky} (hk : FitK k) : Calls Try.prog 50 #[ptr p, kV k] w fun e w' => e = .returned (.tuple #[.int .i64 (posK k l : Int), .bool (isAt l k)]) ∧ Below w.heap.size w w' := by
  have h0 := ref_open H0
  obtain ⟨ao, c, hv⟩ := h0.rowForm 1 rfl
  subst hv
  obtain ⟨n, hnl⟩ : ∃ n, n = l.length := ⟨_, rfl⟩
  have h1 : Own.St B w0 w (AVals p 103 [.slice ao n c] :: ARow 74 37 (.slice ao n c) n (l.flatMap chC) :: Ps) := by rw [hnl]; exact h0
  obtain ⟨kc, hkc⟩ : ∃ x, x = kC k := ⟨_, rfl⟩
  have KL : Hid (kc.length = 33) := by show _ = _; rw [hkc]; exact kC_len hk
  have h2 := h1.boxV 36 kc
  obtain ⟨b3, hb3⟩ : ∃ b, b = w.heap.size := ⟨_, rfl⟩
  obtain ⟨W1, hW1⟩ : ∃ W, W = w.alloc (.cells kc.toArray 36) := ⟨_, rfl⟩
  have h3 : Own.St B w0 W1 (AVals b3 36 kc :: AVals p 103 [.slice ao n c] :: ARow 74 37 (.slice ao n c) n (l.flatMap chC) :: Ps) := by rw [hb3, hW1]; exact h2
  have H1 := Lib.hid h3
  have BW1 : Hid (Below w.heap.size w W1) := by rw [hW1]; exact ((Own.St.start w).boxV 36 kc).below
  have E1 := hW1.symm
  have EB := hb3.symm
  have OK := Lib.hid ok
  have HN : Hid (l.length = n) := hnl.symm
  have FK := Lib.hid hk
  have HKC := Lib.hid hkc
  obtain ⟨ps, hps⟩ : ∃ x, x = posK k l := ⟨_, rfl⟩
  have HPS := Lib.hid hps
  have hpn : ps ≤ n := by rw [hps, hnl]; exact pos_le k l
  have hn5 : n ≤ 100000 := by omega
  obtain ⟨t, ht⟩ : ∃ t, t = isAt l k := ⟨_, rfl⟩
  have HT := Lib.hid ht
  show Calls Try.prog _ #[_, .agg (kC k).toArray] w _
  rw [← hkc, ← hps, ← ht]
  clear h0 h1 h2 h3 hb3 hW1 hkc hps ht ok hk hnl H0 hn
  go_enter Try.func50, Try.ntmps50
  go_wp2
  go_loopw [6] (fun v6 wr => ∃ i : Nat, i ≤ ps ∧ v6 = .int .i64 (i : Int) ∧ Own.St B w0 wr (AVals b3 36 kc :: AVals p 103 [.slice ao n c] :: ARow 74 37 (.slice ao n c) n (l.flatMap chC) :: Ps) ∧ Below w.heap.size w wr) (fun v6 _ => n - (intOf v6).toNat)
  case atStart => exact ⟨0, Nat.zero_le _, rfl, H1.out, BW1.out⟩
  case round =>
    obtain ⟨i, hip, rfl, hst, hbw⟩ := hrel
    have BW := Lib.hid hbw
    have H := Lib.hid hst
    clear hst hbw H1 BW1
    have F : Hid (∀ wx, Below wr.heap.size wr wx → wx.cell? ⟨p, 0, none⟩ = some (.slice ao n c) ∧ wx.rangeAt b3 0 kc) := fun wx h => ⟨((H.out.later h).cellV 1 rfl 0 rfl).1, (H.out.later h).boxRange 0 rfl⟩
    by_cases hin : i < n
    · skip
      have HLT : Hid (((i : Int) < (n : Int)) = True) := by show _ = _; simp; omega
      obtain ⟨g, hg⟩ : ∃ g, ao = some ⟨g, 0, none⟩ := by
        obtain ⟨g, hg, _⟩ := H.out.rowAt 2 rfl 0 (by omega)
        exact ⟨g, hg⟩
      subst hg
      obtain ⟨d, hd⟩ : ∃ d, l[i]? = some d := ⟨_, List.getElem?_eq_getElem (by rw [HN.out]; exact hin)⟩
      have hfd := OK.out.fit d (List.mem_of_getElem? hd)
      obtain ⟨dc, hdc⟩ : ∃ x, x = kC d.key := ⟨_, rfl⟩
      have DL : Hid (dc.length = 33) := by show _ = _; rw [hdc]; exact kC_len hfd.key
      have HIN := Lib.hid hin
      have FI : Hid (∀ wx, Below wr.heap.size wr wx → wx.rangeAt g (i * 37) dc) := fun wx h j v hv => row_range (H.out.later h) 2 rfl OK.out.fit HN.out hd j v (by rw [hdc] at hv; exact chC_key hfd.key j v hv)
      have less : lessK d.key k = decide (i < ps) := by
        by_cases h : i < ps
        · rw [decide_eq_true h]; exact pos_ahead k l i d hd (by rw [← HPS.out]; exact h)
        · rw [decide_eq_false h]; exact pos_behind k l OK.out.sorted i d hd (by rw [← HPS.out]; omega)
      have CL : Hid (∀ wx : World, Calls Try.prog 39 #[.agg dc.toArray, .agg kc.toArray] wx fun e w' => e = .returned (.bool (decide (i < ps))) ∧ Below wx.heap.size wx w') := by
        rw [hdc, HKC.out, ← less]
        exact fun wx => lessR_any d.key.sum k.sum d.key.n k.n hfd.key.sum FK.out.sum wx
      by_cases hlt : i < ps
      · rw [decide_eq_true hlt] at CL
        clear less hdc hfd hd
        go_wp2_with (fail)
        refine wp_lax_list (by kernel_rfl) (by kernel_rfl) (by kernel_rfl) ?_
        refine wpL_move (.int .i64 (i : Int)) rfl (by kernel_rfl) (by kernel_rfl) (by kernel_rfl) (by kernel_rfl) ?_
        refine wpL_move (ptr p) rfl (by kernel_rfl) (by kernel_rfl) (by kernel_rfl) (by kernel_rfl) ?_
        refine wpL_run1 (x := .tmp 8) (ptr p) (ptr p) (by kernel_rfl) (by kernel_rfl) (by kernel_rfl) (by kernel_rfl) (by kernel_rfl) (fun wx ρ hwx h0 hc => by simp [go_sem, h0]) ?_
        refine wpL_run1 (x := .tmp 9) (ptr p) (ptr p) (by kernel_rfl) (by kernel_rfl) (by kernel_rfl) (by kernel_rfl) (by kernel_rfl) (fun wx ρ hwx h0 hc => fld_rL rfl ρ wx h0) ?_
        refine wpL_run1 (x := .tmp 10) (ptr p) (.slice (some ⟨g, 0, none⟩) n c) (by kernel_rfl) (by kernel_rfl) (by kernel_rfl) (by kernel_rfl) (by kernel_rfl) (fun wx ρ hwx h0 hc => ld_rL rfl ρ (F.out wx hwx).1 h0) ?_
        refine wpL_run1 (x := .tmp 11) (.slice (some ⟨g, 0, none⟩) n c) (.int .i64 (n : Int)) (by kernel_rfl) (by kernel_rfl) (by kernel_rfl) (by kernel_rfl) (by kernel_rfl) (fun wx ρ hwx h0 hc => by simp [go_sem, h0]) ?_
        refine wpL_run2 (x := .tmp 7) (y := .tmp 12) (.int .i64 (i : Int)) (.int .i64 (n : Int)) (.bool true) (by kernel_rfl) (by kernel_rfl) (by kernel_rfl) (by kernel_rfl) (by kernel_rfl) (by kernel_rfl) (fun wx ρ hwx h0 h1 hc => by simp [go_sem, h0, h1, HLT.out]) ?_
        refine wpL_move (.bool true) rfl (by kernel_rfl) (by kernel_rfl) (by kernel_rfl) (by kernel_rfl) ?_
        refine wpL_move (ptr p) rfl (by kernel_rfl) (by kernel_rfl) (by kernel_rfl) (by kernel_rfl) ?_
        refine wpL_run1 (x := .tmp 15) (ptr p) (ptr p) (by kernel_rfl) (by kernel_rfl) (by kernel_rfl) (by kernel_rfl) (by kernel_rfl) (fun wx ρ hwx h0 hc => by simp [go_sem, h0]) ?_
        refine wpL_run1 (x := .tmp 16) (ptr p) (ptr p) (by kernel_rfl) (by kernel_rfl) (by kernel_rfl) (by kernel_rfl) (by kernel_rfl) (fun wx ρ hwx h0 hc => fld_rL rfl ρ wx h0) ?_
        refine wpL_run1 (x := .tmp 17) (ptr p) (.slice (some ⟨g, 0, none⟩) n c) (by kernel_rfl) (by kernel_rfl) (by kernel_rfl) (by kernel_rfl) (by kernel_rfl) (fun wx ρ hwx h0 hc => ld_rL rfl ρ (F.out wx hwx).1 h0) ?_
        refine wpL_move (.int .i64 (i : Int)) rfl (by kernel_rfl) (by kernel_rfl) (by kernel_rfl) (by kernel_rfl) ?_
        refine wpL_run2 (x := .tmp 18) (y := .tmp 19) (.slice (some ⟨g, 0, none⟩) n c) (.int .i64 (i : Int)) (.pointer (some ⟨g, i * 37, none⟩)) (by kernel_rfl) (by kernel_rfl) (by kernel_rfl) (by kernel_rfl) (by kernel_rfl) (by kernel_rfl) (fun wx ρ hwx h0 h1 hc => idx_ch rfl HIN.out ρ wx h0 h1) ?_
        refine wpL_run1 (x := .tmp 20) (.pointer (some ⟨g, i * 37, none⟩)) (.pointer (some ⟨g, i * 37, none⟩)) (by kernel_rfl) (by kernel_rfl) (by kernel_rfl) (by kernel_rfl) (by kernel_rfl) (fun wx ρ hwx h0 hc => fld_k rfl ρ wx h0) ?_
        refine wpL_run1 (x := .tmp 21) (.pointer (some ⟨g, i * 37, none⟩)) (.agg dc.toArray) (by kernel_rfl) (by kernel_rfl) (by kernel_rfl) (by kernel_rfl) (by kernel_rfl) (fun wx ρ hwx h0 hc => Rec.load_key dc DL.out rfl ρ (FI.out wx hwx) h0) ?_
        refine wpL_run1 (x := .tmp 3) (ptr b3) (.agg kc.toArray) (by kernel_rfl) (by kernel_rfl) (by kernel_rfl) (by kernel_rfl) (by kernel_rfl) (fun wx ρ hwx h0 hc => Rec.load_key kc KL.out rfl ρ (F.out wx hwx).2 h0) ?_
        refine wpL_fn (.bool true) [.agg dc.toArray, .agg kc.toArray] rfl (by kernel_rfl) (by kernel_rfl) (by kernel_rfl) (by kernel_rfl) (fun _ _ => by simp [go_sem]) (fun wx hwx => CL.out wx) ?_
        refine wpL_run2 (x := .tmp 14) (y := .tmp 24) (.bool true) (.bool true) (.bool true) (by kernel_rfl) (by kernel_rfl) (by kernel_rfl) (by kernel_rfl) (by kernel_rfl) (by kernel_rfl) (fun wx ρ hwx h0 h1 hc => by simp [go_sem, h0, h1]) ?_
        refine wpL_end (by kernel_rfl) (fun w2 hw2 => ?_)
        simp only [FinL, setL, List.set_cons_zero, List.set_cons_succ]
        have H2 := Lib.hid (H.out.later hw2)
        have BW2 := Lib.hid (BW.out.trans (hw2.mono BW.out.size))
        clear hw2 F FI CL H HLT
        go_wp2_with (fail)
        go_roundw
        case rel => exact ⟨i + 1, by omega, by go_num, H2.out, BW2.out⟩
        case measure => simp [intOf]; omega
      · rw [decide_eq_false hlt] at CL
        have hie : i = ps := by omega
        have ht : t = decide (d.key = k) := by
          rw [HT.out]
          unfold isAt
          rw [← HPS.out, ← hie, hd]
        clear less
        go_wp2_with (fail)
        refine wp_lax_list (by kernel_rfl) (by kernel_rfl) (by kernel_rfl) ?_
        refine wpL_move (.int .i64 (i : Int)) rfl (by kernel_rfl) (by kernel_rfl) (by kernel_rfl) (by kernel_rfl) ?_
        refine wpL_move (ptr p) rfl (by kernel_rfl) (by kernel_rfl) (by kernel_rfl) (by kernel_rfl) ?_
        refine wpL_run1 (x := .tmp 8) (ptr p) (ptr p) (by kernel_rfl) (by kernel_rfl) (by kernel_rfl) (by kernel_rfl) (by kernel_rfl) (fun wx ρ hwx h0 hc => by simp [go_sem, h0]) ?_
        refine wpL_run1 (x := .tmp 9) (ptr p) (ptr p) (by kernel_rfl) (by kernel_rfl) (by kernel_rfl) (by kernel_rfl) (by kernel_rfl) (fun wx ρ hwx h0 hc => fld_rL rfl ρ wx h0) ?_
        refine wpL_run1 (x := .tmp 10) (ptr p) (.slice (some ⟨g, 0, none⟩) n c) (by kernel_rfl) (by kernel_rfl) (by kernel_rfl) (by kernel_rfl) (by kernel_rfl) (fun wx ρ hwx h0 hc => ld_rL rfl ρ (F.out wx hwx).1 h0) ?_
        refine wpL_run1 (x := .tmp 11) (.slice (some ⟨g, 0, none⟩) n c) (.int .i64 (n : Int)) (by kernel_rfl) (by kernel_rfl) (by kernel_rfl) (by kernel_rfl) (by kernel_rfl) (fun wx ρ hwx h0 hc => by simp [go_sem, h0]) ?_
        refine wpL_run2 (x := .tmp 7) (y := .tmp 12) (.int .i64 (i : Int)) (.int .i64 (n : Int)) (.bool true) (by kernel_rfl) (by kernel_rfl) (by kernel_rfl) (by kernel_rfl) (by kernel_rfl) (by kernel_rfl) (fun wx ρ hwx h0 h1 hc => by simp [go_sem, h0, h1, HLT.out]) ?_
        refine wpL_move (.bool true) rfl (by kernel_rfl) (by kernel_rfl) (by kernel_rfl) (by kernel_rfl) ?_
        refine wpL_move (ptr p) rfl (by kernel_rfl) (by kernel_rfl) (by kernel_rfl) (by kernel_rfl) ?_
        refine wpL_run1 (x := .tmp 15) (ptr p) (ptr p) (by kernel_rfl) (by kernel_rfl) (by kernel_rfl) (by kernel_rfl) (by kernel_rfl) (fun wx ρ hwx h0 hc => by simp [go_sem, h0]) ?_
        refine wpL_run1 (x := .tmp 16) (ptr p) (ptr p) (by kernel_rfl) (by kernel_rfl) (by kernel_rfl) (by kernel_rfl) (by kernel_rfl) (fun wx ρ hwx h0 hc => fld_rL rfl ρ wx h0) ?_
        refine wpL_run1 (x := .tmp 17) (ptr p) (.slice (some ⟨g, 0, none⟩) n c) (by kernel_rfl) (by kernel_rfl) (by kernel_rfl) (by kernel_rfl) (by kernel_rfl) (fun wx ρ hwx h0 hc => ld_rL rfl ρ (F.out wx hwx).1 h0) ?_
        refine wpL_move (.int .i64 (i : Int)) rfl (by kernel_rfl) (by kernel_rfl) (by kernel_rfl) (by kernel_rfl) ?_
        refine wpL_run2 (x := .tmp 18) (y := .tmp 19) (.slice (some ⟨g, 0, none⟩) n c) (.int .i64 (i : Int)) (.pointer (some ⟨g, i * 37, none⟩)) (by kernel_rfl) (by kernel_rfl) (by kernel_rfl) (by kernel_rfl) (by kernel_rfl) (by kernel_rfl) (fun wx ρ hwx h0 h1 hc => idx_ch rfl HIN.out ρ wx h0 h1) ?_
        refine wpL_run1 (x := .tmp 20) (.pointer (some ⟨g, i * 37, none⟩)) (.pointer (some ⟨g, i * 37, none⟩)) (by kernel_rfl) (by kernel_rfl) (by kernel_rfl) (by kernel_rfl) (by kernel_rfl) (fun wx ρ hwx h0 hc => fld_k rfl ρ wx h0) ?_
        refine wpL_run1 (x := .tmp 21) (.pointer (some ⟨g, i * 37, none⟩)) (.agg dc.toArray) (by kernel_rfl) (by kernel_rfl) (by kernel_rfl) (by kernel_rfl) (by kernel_rfl) (fun wx ρ hwx h0 hc => Rec.load_key dc DL.out rfl ρ (FI.out wx hwx) h0) ?_
        refine wpL_run1 (x := .tmp 3) (ptr b3) (.agg kc.toArray) (by kernel_rfl) (by kernel_rfl) (by kernel_rfl) (by kernel_rfl) (by kernel_rfl) (fun wx ρ hwx h0 hc => Rec.load_key kc KL.out rfl ρ (F.out wx hwx).2 h0) ?_
        refine wpL_fn (.bool false) [.agg dc.toArray, .agg kc.toArray] rfl (by kernel_rfl) (by kernel_rfl) (by kernel_rfl) (by kernel_rfl) (fun _ _ => by simp [go_sem]) (fun wx hwx => CL.out wx) ?_
        refine wpL_run2 (x := .tmp 14) (y := .tmp 24) (.bool true) (.bool false) (.bool false) (by kernel_rfl) (by kernel_rfl) (by kernel_rfl) (by kernel_rfl) (by kernel_rfl) (by kernel_rfl) (fun wx ρ hwx h0 h1 hc => by simp [go_sem, h0, h1]) ?_
        refine wpL_end (by kernel_rfl) (fun w2 hw2 => ?_)
        simp only [FinL, setL, List.set_cons_zero, List.set_cons_succ]
        have H2 := Lib.hid (H.out.later hw2)
        have BW2 := Lib.hid (BW.out.trans (hw2.mono BW.out.size))
        clear hw2 F CL H
        go_wp2_with (fail)
        have EQ : Hid (∀ (o : Oper) (x y : Tmp), o.op = .binOp .eql 36 (.tmp x) (.tmp y) 36 → ∀ (ρ : Operand → Value) (wx : World), ρ (.tmp x) = .agg dc.toArray → ρ (.tmp y) = .agg kc.toArray → (execOp ρ o).run Try.prog wx = .ok (.value (.bool t)) wx) := by
          rw [hdc, HKC.out, ht]
          exact fun o x y ho ρ wx h0 h1 => eql_kk ho hfd.key FK.out rfl ρ wx h0 h1
        have FI2 : Hid (∀ wx, Below w2.heap.size w2 wx → wx.rangeAt g (i * 37) dc) := fun wx h j v hv => row_range (H2.out.later h) 2 rfl OK.out.fit HN.out hd j v (by rw [hdc] at hv; exact chC_key hfd.key j v hv)
        clear FI
        have FI := FI2
        have F : Hid (∀ wx, Below w2.heap.size w2 wx → wx.cell? ⟨p, 0, none⟩ = some (.slice (some ⟨g, 0, none⟩) n c) ∧ wx.rangeAt b3 0 kc) := fun wx h => ⟨((H2.out.later h).cellV 1 rfl 0 rfl).1, (H2.out.later h).boxRange 0 rfl⟩
        clear ht hdc hfd hd FI2
        refine wp_lax_list (by kernel_rfl) (by kernel_rfl) (by kernel_rfl) ?_
        refine wpL_move (.int .i64 (i : Int)) rfl (by kernel_rfl) (by kernel_rfl) (by kernel_rfl) (by kernel_rfl) ?_
        refine wpL_move (.int .i64 (i : Int)) rfl (by kernel_rfl) (by kernel_rfl) (by kernel_rfl) (by kernel_rfl) ?_
        refine wpL_move (ptr p) rfl (by kernel_rfl) (by kernel_rfl) (by kernel_rfl) (by kernel_rfl) ?_
        refine wpL_run1 (x := .tmp 30) (ptr p) (ptr p) (by kernel_rfl) (by kernel_rfl) (by kernel_rfl) (by kernel_rfl) (by kernel_rfl) (fun wx ρ hwx h0 hc => by simp [go_sem, h0]) ?_
        refine wpL_run1 (x := .tmp 31) (ptr p) (ptr p) (by kernel_rfl) (by kernel_rfl) (by kernel_rfl) (by kernel_rfl) (by kernel_rfl) (fun wx ρ hwx h0 hc => fld_rL rfl ρ wx h0) ?_
        refine wpL_run1 (x := .tmp 32) (ptr p) (.slice (some ⟨g, 0, none⟩) n c) (by kernel_rfl) (by kernel_rfl) (by kernel_rfl) (by kernel_rfl) (by kernel_rfl) (fun wx ρ hwx h0 hc => ld_rL rfl ρ (F.out wx hwx).1 h0) ?_
        refine wpL_run1 (x := .tmp 33) (.slice (some ⟨g, 0, none⟩) n c) (.int .i64 (n : Int)) (by kernel_rfl) (by kernel_rfl) (by kernel_rfl) (by kernel_rfl) (by kernel_rfl) (fun wx ρ hwx h0 hc => by simp [go_sem, h0]) ?_
        refine wpL_run2 (x := .tmp 29) (y := .tmp 34) (.int .i64 (i : Int)) (.int .i64 (n : Int)) (.bool true) (by kernel_rfl) (by kernel_rfl) (by kernel_rfl) (by kernel_rfl) (by kernel_rfl) (by kernel_rfl) (fun wx ρ hwx h0 h1 hc => by simp [go_sem, h0, h1, HLT.out]) ?_
        refine wpL_move (.bool true) rfl (by kernel_rfl) (by kernel_rfl) (by kernel_rfl) (by kernel_rfl) ?_
        refine wpL_move (ptr p) rfl (by kernel_rfl) (by kernel_rfl) (by kernel_rfl) (by kernel_rfl) ?_
        refine wpL_run1 (x := .tmp 37) (ptr p) (ptr p) (by kernel_rfl) (by kernel_rfl) (by kernel_rfl) (by kernel_rfl) (by kernel_rfl) (fun wx ρ hwx h0 hc => by simp [go_sem, h0]) ?_
        refine wpL_run1 (x := .tmp 38) (ptr p) (ptr p) (by kernel_rfl) (by kernel_rfl) (by kernel_rfl) (by kernel_rfl) (by kernel_rfl) (fun wx ρ hwx h0 hc => fld_rL rfl ρ wx h0) ?_
        refine wpL_run1 (x := .tmp 39) (ptr p) (.slice (some ⟨g, 0, none⟩) n c) (by kernel_rfl) (by kernel_rfl) (by kernel_rfl) (by kernel_rfl) (by kernel_rfl) (fun wx ρ hwx h0 hc => ld_rL rfl ρ (F.out wx hwx).1 h0) ?_
        refine wpL_move (.int .i64 (i : Int)) rfl (by kernel_rfl) (by kernel_rfl) (by kernel_rfl) (by kernel_rfl) ?_
        refine wpL_run2 (x := .tmp 40) (y := .tmp 41) (.slice (some ⟨g, 0, none⟩) n c) (.int .i64 (i : Int)) (.pointer (some ⟨g, i * 37, none⟩)) (by kernel_rfl) (by kernel_rfl) (by kernel_rfl) (by kernel_rfl) (by kernel_rfl) (by kernel_rfl) (fun wx ρ hwx h0 h1 hc => idx_ch rfl HIN.out ρ wx h0 h1) ?_
        refine wpL_run1 (x := .tmp 42) (.pointer (some ⟨g, i * 37, none⟩)) (.pointer (some ⟨g, i * 37, none⟩)) (by kernel_rfl) (by kernel_rfl) (by kernel_rfl) (by kernel_rfl) (by kernel_rfl) (fun wx ρ hwx h0 hc => fld_k rfl ρ wx h0) ?_
        refine wpL_run1 (x := .tmp 43) (.pointer (some ⟨g, i * 37, none⟩)) (.agg dc.toArray) (by kernel_rfl) (by kernel_rfl) (by kernel_rfl) (by kernel_rfl) (by kernel_rfl) (fun wx ρ hwx h0 hc => Rec.load_key dc DL.out rfl ρ (FI.out wx hwx) h0) ?_
        refine wpL_run1 (x := .tmp 3) (ptr b3) (.agg kc.toArray) (by kernel_rfl) (by kernel_rfl) (by kernel_rfl) (by kernel_rfl) (by kernel_rfl) (fun wx ρ hwx h0 hc => Rec.load_key kc KL.out rfl ρ (F.out wx hwx).2 h0) ?_
        refine wpL_run2 (x := .tmp 44) (y := .tmp 45) (.agg dc.toArray) (.agg kc.toArray) (.bool t) (by kernel_rfl) (by kernel_rfl) (by kernel_rfl) (by kernel_rfl) (by kernel_rfl) (by kernel_rfl) (fun wx ρ hwx h0 h1 hc => EQ.out _ _ _ rfl ρ wx h0 h1) ?_
        refine wpL_run2 (x := .tmp 36) (y := .tmp 46) (.bool true) (.bool t) (.bool t) (by kernel_rfl) (by kernel_rfl) (by kernel_rfl) (by kernel_rfl) (by kernel_rfl) (by kernel_rfl) (fun wx ρ hwx h0 h1 hc => by simp [go_sem, h0, h1]) ?_
        refine wpL_assign (.int .i64 (i : Int)) rfl (by kernel_rfl) (by kernel_rfl) (by kernel_rfl) (by kernel_rfl) ?_
        refine wpL_assign (.bool t) rfl (by kernel_rfl) (by kernel_rfl) (by kernel_rfl) (by kernel_rfl) ?_
        refine wpL_end (by kernel_rfl) (fun w3 hw3 => ?_)
        simp only [FinL, setL, List.set_cons_zero, List.set_cons_succ]
        have BW3 := Lib.hid (BW2.out.trans (hw3.mono BW2.out.size))
        clear F FI EQ HLT
        go_wp2_with (fail)
        go_ret2
        rw [← hie]
        exact ⟨rfl, BW3.out⟩
    · have hie : i = ps := by omega
      have hien : i = n := by omega
      have HLT : Hid (((i : Int) < (n : Int)) = False) := by show _ = _; simp; omega
      have ht : t = false := by
        rw [HT.out]
        unfold isAt
        rw [← HPS.out, ← hie, List.getElem?_eq_none (by rw [HN.out]; omega)]
      subst ht
      go_wp2_with (fail)
      refine wp_lax_list (by kernel_rfl) (by kernel_rfl) (by kernel_rfl) ?_
      refine wpL_move (.int .i64 (i : Int)) rfl (by kernel_rfl) (by kernel_rfl) (by kernel_rfl) (by kernel_rfl) ?_
      refine wpL_move (ptr p) rfl (by kernel_rfl) (by kernel_rfl) (by kernel_rfl) (by kernel_rfl) ?_
      refine wpL_run1 (x := .tmp 8) (ptr p) (ptr p) (by kernel_rfl) (by kernel_rfl) (by kernel_rfl) (by kernel_rfl) (by kernel_rfl) (fun wx ρ hwx h0 hc => by simp [go_sem, h0]) ?_
      refine wpL_run1 (x := .tmp 9) (ptr p) (ptr p) (by kernel_rfl) (by kernel_rfl) (by kernel_rfl) (by kernel_rfl) (by kernel_rfl) (fun wx ρ hwx h0 hc => fld_rL rfl ρ wx h0) ?_
      refine wpL_run1 (x := .tmp 10) (ptr p) (.slice ao n c) (by kernel_rfl) (by kernel_rfl) (by kernel_rfl) (by kernel_rfl) (by kernel_rfl) (fun wx ρ hwx h0 hc => ld_rL rfl ρ (F.out wx hwx).1 h0) ?_
      refine wpL_run1 (x := .tmp 11) (.slice ao n c) (.int .i64 (n : Int)) (by kernel_rfl) (by kernel_rfl) (by kernel_rfl) (by kernel_rfl) (by kernel_rfl) (fun wx ρ hwx h0 hc => by simp [go_sem, h0]) ?_
      refine wpL_run2 (x := .tmp 7) (y := .tmp 12) (.int .i64 (i : Int)) (.int .i64 (n : Int)) (.bool false) (by kernel_rfl) (by kernel_rfl) (by kernel_rfl) (by kernel_rfl) (by kernel_rfl) (by kernel_rfl) (fun wx ρ hwx h0 h1 hc => by simp [go_sem, h0, h1, HLT.out]) ?_
      refine wpL_move (.bool false) rfl (by kernel_rfl) (by kernel_rfl) (by kernel_rfl) (by kernel_rfl) ?_
      refine wpL_skip (by kernel_rfl) (by kernel_rfl) ?_
      refine wpL_skip (by kernel_rfl) (by kernel_rfl) ?_
      refine wpL_skip (by kernel_rfl) (by kernel_rfl) ?_
      refine wpL_skip (by kernel_rfl) (by kernel_rfl) ?_
      refine wpL_skip (by kernel_rfl) (by kernel_rfl) ?_
      refine wpL_skip (by kernel_rfl) (by kernel_rfl) ?_
      refine wpL_skip (by kernel_rfl) (by kernel_rfl) ?_
      refine wpL_skip (by kernel_rfl) (by kernel_rfl) ?_
      refine wpL_skip (by kernel_rfl) (by kernel_rfl) ?_
      refine wpL_skip (by kernel_rfl) (by kernel_rfl) ?_
      refine wpL_run1 (x := .tmp 14) (.bool false) (.bool false) (by kernel_rfl) (by kernel_rfl) (by kernel_rfl) (by kernel_rfl) (by kernel_rfl) (fun wx ρ hwx h0 hc => by simp [go_sem, h0, hc]) ?_
      refine wpL_end (by kernel_rfl) (fun w2 hw2 => ?_)
      simp only [FinL, setL, List.set_cons_zero, List.set_cons_succ]
      have H2 := Lib.hid (H.out.later hw2)
      have BW2 := Lib.hid (BW.out.trans (hw2.mono BW.out.size))
      clear hw2 F H
      go_wp2_with (fail)
      have F : Hid (∀ wx, Below w2.heap.size w2 wx → wx.cell? ⟨p, 0, none⟩ = some (.slice ao n c) ∧ wx.rangeAt b3 0 kc) := fun wx h => ⟨((H2.out.later h).cellV 1 rfl 0 rfl).1, (H2.out.later h).boxRange 0 rfl⟩
      refine wp_lax_list (by kernel_rfl) (by kernel_rfl) (by kernel_rfl) ?_
      refine wpL_move (.int .i64 (i : Int)) rfl (by kernel_rfl) (by kernel_rfl) (by kernel_rfl) (by kernel_rfl) ?_
      refine wpL_move (.int .i64 (i : Int)) rfl (by kernel_rfl) (by kernel_rfl) (by kernel_rfl) (by kernel_rfl) ?_
      refine wpL_move (ptr p) rfl (by kernel_rfl) (by kernel_rfl) (by kernel_rfl) (by kernel_rfl) ?_
      refine wpL_run1 (x := .tmp 30) (ptr p) (ptr p) (by kernel_rfl) (by kernel_rfl) (by kernel_rfl) (by kernel_rfl) (by kernel_rfl) (fun wx ρ hwx h0 hc => by simp [go_sem, h0]) ?_
      refine wpL_run1 (x := .tmp 31) (ptr p) (ptr p) (by kernel_rfl) (by kernel_rfl) (by kernel_rfl) (by kernel_rfl) (by kernel_rfl) (fun wx ρ hwx h0 hc => fld_rL rfl ρ wx h0) ?_
      refine wpL_run1 (x := .tmp 32) (ptr p) (.slice ao n c) (by kernel_rfl) (by kernel_rfl) (by kernel_rfl) (by kernel_rfl) (by kernel_rfl) (fun wx ρ hwx h0 hc => ld_rL rfl ρ (F.out wx hwx).1 h0) ?_
      refine wpL_run1 (x := .tmp 33) (.slice ao n c) (.int .i64 (n : Int)) (by kernel_rfl) (by kernel_rfl) (by kernel_rfl) (by kernel_rfl) (by kernel_rfl) (fun wx ρ hwx h0 hc => by simp [go_sem, h0]) ?_
      refine wpL_run2 (x := .tmp 29) (y := .tmp 34) (.int .i64 (i : Int)) (.int .i64 (n : Int)) (.bool false) (by kernel_rfl) (by kernel_rfl) (by kernel_rfl) (by kernel_rfl) (by kernel_rfl) (by kernel_rfl) (fun wx ρ hwx h0 h1 hc => by simp [go_sem, h0, h1, HLT.out]) ?_
      refine wpL_move (.bool false) rfl (by kernel_rfl) (by kernel_rfl) (by kernel_rfl) (by kernel_rfl) ?_
      refine wpL_skip (by kernel_rfl) (by kernel_rfl) ?_
      refine wpL_skip (by kernel_rfl) (by kernel_rfl) ?_
      refine wpL_skip (by kernel_rfl) (by kernel_rfl) ?_
      refine wpL_skip (by kernel_rfl) (by kernel_rfl) ?_
      refine wpL_skip (by kernel_rfl) (by kernel_rfl) ?_
      refine wpL_skip (by kernel_rfl) (by kernel_rfl) ?_
      refine wpL_skip (by kernel_rfl) (by kernel_rfl) ?_
      refine wpL_skip (by kernel_rfl) (by kernel_rfl) ?_
      refine wpL_skip (by kernel_rfl) (by kernel_rfl) ?_
      refine wpL_skip (by kernel_rfl) (by kernel_rfl) ?_
      refine wpL_run1 (x := .tmp 36) (.bool false) (.bool false) (by kernel_rfl) (by kernel_rfl) (by kernel_rfl) (by kernel_rfl) (by kernel_rfl) (fun wx ρ hwx h0 hc => by simp [go_sem, h0, hc]) ?_
      refine wpL_assign (.int .i64 (i : Int)) rfl (by kernel_rfl) (by kernel_rfl) (by kernel_rfl) (by kernel_rfl) ?_
      refine wpL_assign (.bool false) rfl (by kernel_rfl) (by kernel_rfl) (by kernel_rfl) (by kernel_rfl) ?_
      refine wpL_end (by kernel_rfl) (fun w3 hw3 => ?_)
      simp only [FinL, setL, List.set_cons_zero, List.set_cons_succ]
      have BW3 := Lib.hid (BW2.out.trans (hw3.mono BW2.out.size))
      clear F HLT
      go_wp2_with (fail)
      go_ret2
      rw [← hie]
      exact ⟨rfl, BW3.out⟩
end
end Sto
end Go.Proofs.Ytepbdjgfaljbgaa

end
section
namespace Go.Proofs.Ytepbdjgfaljbgaa
open Go.RowKit Go.Own
namespace Sto
open Go.StoM Byt
theorem keep2 {B : Nat} {w0 w : World} {P Q R S : Asn} {Ps : List Asn} (h : Own.St B w0 w (P :: Q :: R :: S :: Ps)) : Own.St B w0 w (P :: Q :: Ps) := ((((h.front 2 rfl).drop 1).front 2 rfl).drop 1)
theorem size_chR (w : World) : (sizeOf 74).run Try.prog w = .ok 37 w := by kernel_rfl
theorem cutToC (ao : Option Addr) (m cap k : Nat) (hk : k ≤ m) (hm : m ≤ cap) (hc : cap ≤ maxLen) (hno : ao = none → m = 0 ∧ cap = 0) (o : Oper) (x y : Operand) (ho : o.op = .slice 64 x none (some y) none) (ρ : Operand → Value) (w : World) (h0 : ρ x = .slice ao m cap) (h1 : ρ y = .int .i64 (k : Int)) :
    (execOp ρ o).run Try.prog w = .ok (.value (.slice ao k cap)) w := by
  unfold maxLen at hc
  have hs := size_chR
  cases ao with
  | none =>
    obtain ⟨rfl, rfl⟩ := hno rfl
    obtain rfl : k = 0 := by omega
    simp [execOp, ho, h0, h1, go_sem, hs]
  | some a =>
    simp [execOp, ho, h0, h1, go_sem, hs]
    omega
theorem cutFromC (ao : Option Addr) (m cap k : Nat) (hk : k ≤ m) (hm : m ≤ cap) (hc : cap ≤ maxLen) (hno : ao = none → m = 0 ∧ cap = 0) :
    ∃ a' c', (∀ (o : Oper) (x y : Operand), o.op = .slice 64 x (some y) none none → ∀ (ρ : Operand → Value) w, ρ x = .slice ao m cap → ρ y = .int .i64 (k : Int) → (execOp ρ o).run Try.prog w = .ok (.value (.slice a' (m - k) c')) w) ∧
      (a' = none → m - k = 0 ∧ c' = 0) ∧ (∀ (w : World) (xs : List Value), xs.length = m * 37 → (∀ g, ao = some ⟨g, 0, none⟩ → ∀ j u, xs[j]? = some u → w.cell? ⟨g, j, none⟩ = some u) → (∀ a, ao = some a → ∃ g, a = ⟨g, 0, none⟩) → ∀ a, a' = some a → ∀ j u, (xs.drop (k * 37))[j]? = some u → w.cell? (a.add j) = some u) := by
  have hc0 := hc
  unfold maxLen at hc
  have hs := size_chR
  cases ao with
  | none =>
    obtain ⟨rfl, rfl⟩ := hno rfl
    obtain rfl : k = 0 := by omega
    exact ⟨none, 0, fun o x y ho ρ w h0 h1 => by simp [execOp, ho, h0, h1, go_sem, hs], fun _ => ⟨rfl, rfl⟩, fun w xs _ _ _ a h => by cases h⟩
  | some a =>
    by_cases hck : cap = k
    · refine ⟨some a, 0, fun o x y ho ρ w h0 h1 => ?_, (fun h => by cases h), fun w xs hl _ _ a' h j u hu => ?_⟩
      · simp [execOp, ho, h0, h1, go_sem, hs]
        rw [if_pos hk, if_pos hck, hck]; simp
      · rw [List.drop_eq_nil_of_le (by omega)] at hu; simp at hu
    · refine ⟨some (a.add (k * 37)), cap - k, fun o x y ho ρ w h0 h1 => ?_, (fun h => by cases h), fun w xs hl hcl hg a' h j u hu => ?_⟩
      · simp [execOp, ho, h0, h1, go_sem, hs]
        rw [if_pos hk, if_neg hck]
      · obtain ⟨g, rfl⟩ := hg a rfl
        cases h
        rw [add_of, Nat.zero_add, add_of]
        rw [List.getElem?_drop] at hu
        exact hcl g rfl _ u hu
theorem flat_take (l : List Ch) (hf : ∀ c ∈ l, Fit c) (i : Nat) : (l.take i).flatMap chC = (l.flatMap chC).take (i * 37) ∧ (l.drop i).flatMap chC = (l.flatMap chC).drop (i * 37) := by
  induction l generalizing i with
  | nil => simp
  | cons c l ih =>
    cases i with
    | zero => simp
    | succ i =>
      have hc : (chC c).length = 37 := chC_len (hf c (List.mem_cons_self ..)).key
      have h := ih (fun d hd => hf d (List.mem_cons_of_mem _ hd)) i
      constructor
      · rw [List.take_succ_cons, List.flatMap_cons, List.flatMap_cons, h.1, List.take_append, hc, List.take_of_length_le (l := chC c) (by omega), show (i + 1) * 37 - 37 = i * 37 by omega]
      · rw [List.drop_succ_cons, List.flatMap_cons, h.2, List.drop_append, hc, List.drop_of_length_le (l := chC c) (by omega), show (i + 1) * 37 - 37 = i * 37 by omega, List.nil_append]
/-- a row's cells as the source of an append -/
theorem row_src {B : Nat} {w0 w : World} {Ps : List Asn} (H : Own.St B w0 w Ps) (j : Nat) {ao : Option Addr} {n c : Nat} {xs : List Value} (hj : Ps[j]? = some (ARow 74 37 (.slice ao n c) n xs)) : (∀ g, ao = some ⟨g, 0, none⟩ → ∀ j u, xs[j]? = some u → w.cell? ⟨g, j, none⟩ = some u) ∧ (n ≠ 0 → ∀ a, ao = some a → ∃ g, a = ⟨g, 0, none⟩) := by
  refine ⟨fun g hg k u hu => ?_, fun h0 a ha => ?_⟩
  · have := H.rowNews j hj _ hg k u hu
    rw [add_of, Nat.zero_add] at this
    exact this
  · obtain ⟨g, hg, _⟩ := H.rowAt j hj 0 (by omega)
    rw [ha] at hg
    cases hg
    exact ⟨g, rfl⟩
section
variable {B : Nat} {w0 w : World} {Ps : List Asn} {p : Nat} {v : Value} {l : List Ch}
set_option maxRecDepth 10000 in
set_option maxHeartbeats 6400000 in
theorem putR_any (H : Own.St B w0 w (ARef p v l :: Ps)) (hf : ∀ c ∈ l, Fit c) (hn : l.length ≤ 100000) {i : Nat} (hi : i ≤ l.length) {d : Ch} (fd : Fit d) : Calls Try.prog 51 #[ptr p, .int .i64 (i : Int), chV d] w fun e w' => e = .returned (.tuple #[]) ∧ ∃ v', Own.St B w0 w' (ARef p v' (putAt l i d) :: Ps) := by
  have h0 := ref_open H
  obtain ⟨ao, cap, hv⟩ := h0.rowForm 1 rfl
  subst hv
  obtain ⟨n, hnl⟩ : ∃ n, n = l.length := ⟨_, rfl⟩
  have h1 : Own.St B w0 w (AVals p 103 [.slice ao n cap] :: ARow 74 37 (.slice ao n cap) n (l.flatMap chC) :: Ps) := by rw [hnl]; exact h0
  obtain ⟨cs, hcs⟩ : ∃ x, x = chC d := ⟨_, rfl⟩
  have CL : Hid (cs.length = 37) := by show _ = _; rw [hcs]; exact chC_len fd.key
  have CO : Hid (∀ u ∈ cs, u.oneCell' = true) := by show ∀ u ∈ cs, _; rw [hcs]; exact chC_one _
  have h2 := h1.boxV 74 cs
  obtain ⟨b5, hb5⟩ : ∃ b, b = w.heap.size := ⟨_, rfl⟩
  obtain ⟨W1, hW1⟩ : ∃ W, W = w.alloc (.cells cs.toArray 74) := ⟨_, rfl⟩
  rw [← hb5, ← hW1] at h2
  obtain ⟨hx1, hx2, hx3, hx4⟩ := h2.rowLen 2 rfl
  have hx5 : cap ≤ 9223372036854775807 := by unfold maxLen at hx3; omega
  have h3 := h2.emptyRow 74 37
  have HEM := Lib.hid h3
  have E1 := hW1.symm
  have EB := hb5.symm
  have c0 := (h3.cellV 2 rfl 0 rfl).1
  have CB : Hid ((W1.alloc (.cells #[] 74)).rangeAt b5 0 cs) := h3.boxRange 1 rfl
  obtain ⟨fc, hfc⟩ : ∃ x, x = l.flatMap chC := ⟨_, rfl⟩
  rw [← hfc] at HEM hx1
  have FL : Hid (fc.length = n * 37) := hx1
  have HIN : i ≤ n := by omega
  have TL : Hid ((fc.take (i * 37)).length = i * 37) := by show _ = _; rw [List.length_take, hx1]; omega
  have DL : Hid ((fc.drop (i * 37)).length = (n - i) * 37) := by show _ = _; rw [List.length_drop, hx1, Nat.sub_mul]
  have FO : ∀ u ∈ fc, u.oneCell' = true := by rw [hfc]; exact flat_one l
  have TO : Hid (∀ u ∈ fc.take (i * 37), u.oneCell' = true) := fun u hu => FO u (List.mem_of_mem_take hu)
  have DO : Hid (∀ u ∈ fc.drop (i * 37), u.oneCell' = true) := fun u hu => FO u (List.mem_of_mem_drop hu)
  have TC : Hid (∀ a, ao = some a → ∀ j u, (fc.take (i * 37))[j]? = some u → (W1.alloc (.cells #[] 74)).cell? (a.add j) = some u) := by
    intro a ha j u hu
    rw [List.getElem?_take] at hu
    split at hu
    · exact HEM.out.rowNews 3 rfl a ha j u hu
    · cases hu
  obtain ⟨af, cf, hcut, hnf, hcell⟩ := cutFromC ao n cap i HIN hx2 hx3 hx4
  have HCUT := Lib.hid hcut
  have HNF := Lib.hid hnf
  have HCL := Lib.hid hcell
  have DCX : Hid (∀ {X1 X2 X3 X4 : Asn} {Q : List Asn} (wx : World), Own.St B w0 wx (X1 :: X2 :: X3 :: X4 :: ARow 74 37 (.slice ao n cap) n fc :: Q) → ∀ a', af = some a' → ∀ j u, (fc.drop (i * 37))[j]? = some u → wx.cell? (a'.add j) = some u) := by
    intro X1 X2 X3 X4 Q wx h
    by_cases hz : n = 0
    · intro a' ha j u hu
      rw [List.drop_eq_nil_of_le (by rw [hx1]; omega)] at hu
      simp at hu
    · exact hcell wx fc hx1 (row_src h 4 rfl).1 ((row_src h 4 rfl).2 hz)
  have HX3 := Lib.hid hx3
  have HX4 := Lib.hid hx4
  have hn5 : n ≤ 100000 := by omega
  have RES : Hid (∀ v' w', Own.St B w0 w' (AVals p 103 [v'] :: ARow 74 37 v' (i + 1 + (n - i)) (fc.take (i * 37) ++ cs ++ fc.drop (i * 37)) :: Ps) → ∃ v', Own.St B w0 w' (ARef p v' (putAt l i d) :: Ps)) := by
    intro v' w' h
    refine ⟨v', ref_close ?_⟩
    have e1 : (putAt l i d).flatMap chC = fc.take (i * 37) ++ cs ++ fc.drop (i * 37) := by
      unfold putAt
      rw [List.flatMap_append, List.flatMap_cons, (flat_take l hf i).1, (flat_take l hf i).2, hfc, hcs, List.append_assoc]
    have e2 : (putAt l i d).length = i + 1 + (n - i) := by
      unfold putAt
      rw [List.length_append, List.length_cons, List.length_take, List.length_drop, hnl]
      omega
    unfold RowC
    rw [e1, e2]
    exact h
  show Calls Try.prog _ #[_, _, .agg (chC d).toArray] w _
  rw [← hcs]
  clear h0 h1 h2 h3 hb5 hW1 hcs hnl H hn hi fd hf hcut hnf hcell hx1 hx3 hx4 FO hfc
  go_enter Try.func51, Try.ntmps51
  go_wp2_with (first
    | (refine wpList_val rfl (cutToC ao n cap i HIN hx2 HX3.out HX4.out _ _ _ rfl _ _ rfl rfl) ?_)
    | (refine wpList_val rfl (HCUT.out _ _ _ rfl _ _ rfl rfl) ?_)
    | (at_builtin; refine wpList_many_append many_ch rfl (.tmp 7) (.tmp 13) rfl HEM.out 0 rfl rfl ao i cap (fc.take (i * 37)) rfl (by intro h; have := HX4.out h; omega) TL.out TC.out TO.out (by omega) (by decide) ?_; intro a2 c2 w2 h2; simp only [List.set_cons_zero, Nat.zero_add, List.nil_append] at h2 ⊢; have H2 := Lib.hid h2; have CB2 : Hid (w2.rangeAt b5 0 cs) := h2.boxRange 1 rfl; have hb2 := h2.boxV 74 cs; have HB2 := Lib.hid hb2; have NC : Hid (∀ a, some (⟨w2.heap.size, 0, none⟩ : Addr) = some a → ∀ j u, cs[j]? = some u → (w2.alloc (.cells cs.toArray 74)).cell? (a.add j) = some u) := (fun a ha j u hu => by cases ha; rw [add_of, Nat.zero_add]; exact (hb2.cellV 0 rfl j hu).1); clear h2 hb2)
    | (refine wpList_val rfl (load_ch cs CL.out rfl _ (b := b5) (k := 0) CB2.out rfl) ?_)
    | (refine wpList_slot_one rfl 64 (.tmp 16) rfl cs 74 rfl (slot_ch cs CL.out _) ?_)
    | (at_builtin; refine wpList_many_append many_ch rfl (.tmp 15) (.tmp 17) rfl HB2.out 1 rfl rfl (some ⟨w2.heap.size, 0, none⟩) 1 1 cs rfl (by intro h; cases h) (by rw [CL.out]) NC.out CO.out (by omega) (by decide) ?_; intro a3 c3 w3 h3; simp only [List.set_cons_zero, List.set_cons_succ] at h3 ⊢; have H3 := Lib.hid (h3.drop 1); have c4 := (h3.cellV 3 rfl 0 rfl).1; have DC := Lib.hid (DCX.out w3 h3); clear h3)
    | (at_builtin; refine wpList_many_append many_ch rfl (.tmp 19) (.tmp 25) rfl H3.out 0 rfl rfl af (n - i) cf (fc.drop (i * 37)) rfl HNF.out DL.out DC.out DO.out (by omega) (by decide) ?_; intro a4 c4' w4 h4; simp only at h4 ⊢; have H4 := Lib.hid h4; have c5 := h4.cellV 2 rfl 0 rfl; clear h4; obtain ⟨c5, c6⟩ := c5))
  go_end0
  have h := H4.out.storeV 2 rfl 0 (.slice a4 (i + 1 + (n - i)) c4')
  simp only [List.set_cons_zero] at h
  refine ⟨rfl, RES.out (.slice a4 (i + 1 + (n - i)) c4') _ ?_⟩
  exact keep2 (h.front 2 rfl)
end
end Sto
end Go.Proofs.Ytepbdjgfaljbgaa

end
section
namespace Go.Own
open Go.RowKit Go.Maps Go.WideElems
open Go.WideMaps (KeyLaw)
section
variable {P : Program} {kt mt vt : TypeId} {z : Value} {B : Nat} {w0 w : World} {Ps : List Asn} {b n : Nat} {g : Lit → Value}
end
end Go.Own
namespace Go.Proofs.Ytepbdjgfaljbgaa
open Go.RowKit Go.Own Go.Maps
namespace Sto
open Go.StoM Byt
theorem getS_none {l : List Ch} {k : Ky} (h : isAt l k = false) : getS l k = zeroCh := by unfold getS; rw [h]; rfl
/-- a key's number behind an act -/
def refsA (r : Int) (kd : Nat) : Int := if kd = 0 then (if r = 0 then 1 else r) else if kd = 1 then (if r > 0 then r + 1 else r) else if kd = 2 then (if r > 0 then r - 1 else r) else r
def okA (r : Int) (kd : Nat) : Bool := if kd = 0 then decide (r = 0) else decide (r > 0)
structure Refs (l : List Ch) (a : ActD) : Prop where
  same : (getS (doAct l a).1 a.k).refs = refsA (getS l a.k).refs (a.kind.toNat % 4)
  is : isAt (doAct l a).1 a.k = decide (refsA (getS l a.k).refs (a.kind.toNat % 4) > 0)
  other : ∀ k, k ≠ a.k → getS (doAct l a).1 k = getS l k
  gone : (doAct l a).2.1 = (decide (a.kind.toNat % 4 = 2) && decide ((getS l a.k).refs = 1))
  err : decide ((doAct l a).2.2 = 0) = okA (getS l a.k).refs (a.kind.toNat % 4)
end Sto
end Go.Proofs.Ytepbdjgfaljbgaa

end
section
namespace Go.Proofs.Ytepbdjgfaljbgaa
open Go.RowKit Go.Own
namespace Sto
open Go.StoM Byt
theorem below_setCells {B : Nat} {a : World} : ∀ {r : List Value} {w : World} {b : Nat}, Below B a w → B ≤ b → ∀ o : Nat, ∀ _ : Unit, Below B a (w.setCells b o r)
  | [], _, _, h, _, _, _ => h
  | _ :: r, w, b, h, hb, o, _ => below_setCells (r := r) (h.setCell hb _) hb (o + 1) ()
section
variable {B : Nat} {w0 w : World} {Ps : List Asn} {p : Nat} {v : Value} {l : List Ch}
theorem built_zch : Try.prog.built 74 [] = some zC.toArray := by kernel_rfl
set_option maxRecDepth 10000 in
set_option maxHeartbeats 6400000 in
theorem getR_any (H : Own.St B w0 w (ARef p v l :: Ps)) (ok : Ok l) (hn : l.length ≤ 100000) {k : Ky} (hk : FitK k) : Calls Try.prog 52 #[ptr p, kV k] w fun e w' => e = .returned (.tuple #[chV (getS l k), .bool (isAt l k)]) ∧ Below w.heap.size w w' := by
  obtain ⟨kc, hkc⟩ : ∃ x, x = kC k := ⟨_, rfl⟩
  have KL : Hid (kc.length = 33) := by show _ = _; rw [hkc]; exact kC_len hk
  have hb0 := H.boxV 36 kc
  obtain ⟨bk, hbk⟩ : ∃ b, b = w.heap.size := ⟨_, rfl⟩
  obtain ⟨W1, hW1⟩ : ∃ W, W = w.alloc (.cells kc.toArray 36) := ⟨_, rfl⟩
  rw [← hW1, ← hbk] at hb0
  have hb1 := hb0
  have H1 := Lib.hid hb1
  have E1 := hW1.symm
  have EK := hbk.symm
  have CA : Hid (Calls Try.prog 50 #[ptr p, .agg kc.toArray] W1 fun e w' => e = .returned (.tuple #[.int .i64 (posK k l : Int), .bool (isAt l k)]) ∧ Below W1.heap.size W1 w') := by
    rw [hkc]
    exact atR_any (hb1.front 1 rfl) ok hn hk
  obtain ⟨z, hz⟩ : ∃ z, z = zC := ⟨_, rfl⟩
  have ZL : Hid (z.length = 37) := by show z.length = 37; rw [hz]; exact zC_len
  have ZP : Hid ((Try.prog.info? 74).bind (·.zero) = some (.agg z.toArray)) := by rw [hz]; exact zero_ch
  have ZB : Hid (Try.prog.built 74 [] = some z.toArray) := by rw [hz]; exact built_zch
  have ZO : Hid (z.toArray.all (·.oneCell') = true) := by show _ = true; rw [hz]; exact all_oneCell_toArray (chC_one _)
  have BW : Hid (Below w.heap.size w W1) := by rw [hW1]; exact ((Own.St.start w).alloc _).below
  have hb2 := hb1.boxV 74 z
  obtain ⟨b4, hb4⟩ : ∃ b, b = W1.heap.size := ⟨_, rfl⟩
  obtain ⟨W2, hW2⟩ : ∃ W, W = W1.alloc (.cells z.toArray 74) := ⟨_, rfl⟩
  rw [← hb4, ← hW2] at hb2
  have HB4 := Lib.hid hb4
  have HW2 := Lib.hid hW2
  have BW2 : Hid (Below w.heap.size w W2) := by rw [hW2, hW1]; exact (((Own.St.start w).alloc _).alloc _).below
  have H2' := Lib.hid hb2
  have CA2 : Hid (Calls Try.prog 50 #[ptr p, .agg kc.toArray] W2 fun e w' => e = .returned (.tuple #[.int .i64 (posK k l : Int), .bool (isAt l k)]) ∧ Below W2.heap.size W2 w') := by
    rw [hkc]
    exact atR_any (hb2.front 2 rfl) ok hn hk
  clear CA BW
  have BWs : Hid (w.heap.size ≤ W2.heap.size) := BW2.out.size
  have BG : w.heap.size ≤ b4 := by rw [hb4, hW1]; exact (((Own.St.start w).alloc (.cells kc.toArray 36)).below).size
  show Calls Try.prog _ #[_, .agg (kC k).toArray] w _
  rw [← hkc]
  have hfg := getS_fit ok k
  obtain ⟨F, hF⟩ : ∃ F, F = chC (getS l k) := ⟨_, rfl⟩
  have FL : Hid (F.length = 37) := by show _ = _; rw [hF]; exact chC_len hfg.key
  have FO : Hid (F.toArray.all (·.oneCell') = true) := by show _ = true; rw [hF]; exact all_oneCell_toArray (chC_one _)
  have IW := Lib.hid (info_chA F FL.out)
  have IZ := Lib.hid (info_chA z ZL.out)
  show Calls Try.prog _ _ w fun e w' => e = .returned (.tuple #[.agg (chC (getS l k)).toArray, .bool (isAt l k)]) ∧ _
  rw [← hF]
  cases his : isAt l k
  · have hFz : F = z := by rw [hF, hz, getS_none his]
    have FZ := Lib.hid (hFz.trans hz)
    rw [his] at CA2
    clear ok hk H hkc his hz hb2 hb4 hW2 hF hfg hb0 hbk hb1 hW1
    subst hFz
    go_enter Try.func52, Try.ntmps52
    go_wp2_with (first
      | (refine Own.wpList_allocZ rfl 74 rfl F.toArray ZP.out ?_; rw [← HB4.out, ← HW2.out])
      | (refine wpList_val rfl (Rec.load_key kc KL.out rfl _ (b := bk) (k := 0) (H2'.out.boxRange 1 rfl) rfl) ?_))
    refine CA2.out.mono ?_
    rintro e w3 ⟨rfl, h3⟩
    have H3 := Lib.hid (H2'.out.later h3)
    have BW3 := Lib.hid (BW2.out.trans (h3.mono BWs.out))
    have hs := ch_store H3.out 0 rfl FL.out F FL.out
    have T := Lib.hid hs.1
    have H4 := Lib.hid hs.2
    obtain ⟨w4, hw4⟩ : ∃ W, W = w3.setCells b4 0 F.toArray.toList := ⟨_, rfl⟩
    have HW4 := Lib.hid hw4
    rw [← hw4] at H4
    have BW4 : Hid (Below w.heap.size w w4) := by rw [hw4]; exact below_setCells BW3.out BG _ ()
    clear h3 hs hw4 CA2
    go_wp2_with (first
      | (refine Own.wpList_built rfl 74 #[] rfl F.toArray ?_ ?_; · exact ZB.out)
      | (refine wpList_store_mid rfl 74 (.tmp 4) (.tmp 16) rfl b4 0 F.toArray rfl (by rw [FZ.out]; kernel_rfl) T.out IW.out FO.out ?_; rw [← HW4.out]))
    refine bodyPost_ret (results_cell_two rfl _ _ b4 74 _ (0, 0) _ _ rfl rfl (H4.out.rowV 0 rfl) Try.underlying74 rfl (info_ch F FL.out)) rfl ?_
    exact ⟨rfl, BW4.out⟩
  · rw [his] at CA2
    obtain ⟨ps, hps⟩ : ∃ x, x = posK k l := ⟨_, rfl⟩
    rw [← hps] at CA2
    obtain ⟨hlt, hat, hkk⟩ := at_some his
    rw [← hps] at hlt hat
    obtain ⟨d, hd⟩ : ∃ d, d = atS l k := ⟨_, rfl⟩
    rw [← hd] at hat hkk
    have hfd : Fit d := ok.fit d (List.mem_of_getElem? hat)
    have hgd : getS l k = d := by rw [getS_at his, hd]
    have hFd : F = chC d := by rw [hF, hgd]
    have h0 := ref_open (hb2.front 2 rfl)
    obtain ⟨ao, c, hv⟩ := h0.rowForm 1 rfl
    subst hv
    obtain ⟨n, hnl⟩ : ∃ n, n = l.length := ⟨_, rfl⟩
    have h1 : Own.St B w0 W2 (AVals p 103 [.slice ao n c] :: ARow 74 37 (.slice ao n c) n (l.flatMap chC) :: AVals b4 74 z :: AVals bk 36 kc :: Ps) := by rw [hnl]; exact h0
    obtain ⟨g, hg, _⟩ := h1.rowAt 1 rfl 0 (by omega)
    subst hg
    have hpn : ps < n := by omega
    have H2 := Lib.hid h1
    have RI : Hid (∀ wx, Below W2.heap.size W2 wx → wx.rangeAt g (ps * 37) F) := fun wx h => by rw [hFd]; exact row_range (h1.later h) 1 rfl ok.fit hnl.symm hat
    clear ok hk H hkc his hz hb2 hb4 hW2 hF hfg h0 h1 hat hkk hd hfd hgd hFd hnl hlt hps H2' hb0 hbk hb1 hW1
    go_enter Try.func52, Try.ntmps52
    go_wp2_with (first
      | (refine Own.wpList_allocZ rfl 74 rfl z.toArray ZP.out ?_; rw [← HB4.out, ← HW2.out])
      | (refine wpList_val rfl (Rec.load_key kc KL.out rfl _ (b := bk) (k := 0) (H2.out.boxRange 3 rfl) rfl) ?_))
    refine CA2.out.mono ?_
    rintro e w3 ⟨rfl, h3⟩
    have H3 := Lib.hid (H2.out.later h3)
    have R3 := Lib.hid (RI.out w3 h3)
    have c3 := (H3.out.cellV 0 rfl 0 rfl).1
    have BW3 := Lib.hid (BW2.out.trans (h3.mono BWs.out))
    have hs := ch_store H3.out 2 rfl ZL.out F FL.out
    have T := Lib.hid hs.1
    have H4 := Lib.hid hs.2
    obtain ⟨w4, hw4⟩ : ∃ W, W = w3.setCells b4 0 F.toArray.toList := ⟨_, rfl⟩
    have HW4 := Lib.hid hw4
    rw [← hw4] at H4
    have BW4 : Hid (Below w.heap.size w w4) := by rw [hw4]; exact below_setCells BW3.out BG _ ()
    clear h3 hs hw4 CA2 RI
    go_wp2_with (first
      | (refine wpList_val rfl (idx_ch rfl hpn _ _ rfl rfl) ?_)
      | (refine wpList_val rfl (load_ch F FL.out rfl _ (b := g) (k := ps * 37) R3.out rfl) ?_)
      | (refine wpList_store_mid rfl 74 (.tmp 4) (.tmp 23) rfl b4 0 F.toArray rfl rfl T.out IW.out FO.out ?_; rw [← HW4.out]))
    refine bodyPost_ret (results_cell_two rfl _ _ b4 74 _ (0, 0) _ _ rfl rfl (H4.out.rowV 2 rfl) Try.underlying74 rfl (info_ch F FL.out)) rfl ?_
    exact ⟨rfl, BW4.out⟩
end
end Sto
end Go.Proofs.Ytepbdjgfaljbgaa

end
section
namespace Go.Proofs.Ytepbdjgfaljbgaa
open Go.RowKit Go.Own
namespace Sto
open Go.StoM Byt
section
variable {B : Nat} {w0 w : World} {Ps : List Asn} {p : Nat} {v : Value} {l : List Ch}
theorem row_refs (H : Own.St B w0 w Ps) (j : Nat) {g n c : Nat} (hj : Ps[j]? = some (ARow 74 37 (.slice (some ⟨g, 0, none⟩) n c) n (l.flatMap chC))) (hf : ∀ c ∈ l, Fit c) (hl : l.length = n) {i : Nat} {d : Ch} (hi : l[i]? = some d) :
    w.cell? ⟨g, i * 37 + 36, none⟩ = some (iS d.refs) ∧ w.frozen? ⟨g, i * 37 + 36, none⟩ = false ∧ ∀ x : Int, Own.St B w0 (w.setCell ⟨g, i * 37 + 36, none⟩ (iS x)) (Ps.set j (ARow 74 37 (.slice (some ⟨g, 0, none⟩) n c) n ((l.set i (wR d x)).flatMap chC))) := by
  have hil := (List.getElem?_eq_some_iff.1 hi).1
  have hfd := hf d (List.mem_of_getElem? hi)
  obtain ⟨g', hg', _, h3, _⟩ := H.rowAt j hj (i * 37 + 36) (by omega)
  have h1 := row_range H j hj hf hl hi 36 (iS d.refs) (chC_rest hfd.key 3)
  refine ⟨h1, by cases hg'; exact h3, fun x => ?_⟩
  have hr := St.rowCells j [iS x] (i * 37 + 36) w _ _ H hj (by simp only [List.length_cons, List.length_nil]; omega)
  have e := chC_set_refs hfd.key x
  rw [List.set_eq_take_append_cons_drop, if_pos (by rw [chC_len hfd.key]; omega)] at e
  rw [flat_set l hf i d (wR d x) hi hfd.key 36 [iS x] (by simp) (by rw [← e]; simp)] at hr
  exact hr
end
end Sto
end Go.Proofs.Ytepbdjgfaljbgaa

end
section
namespace Go.Proofs.Ytepbdjgfaljbgaa
open Go.RowKit Go.Own
namespace Sto
open Go.StoM Byt
theorem fld_plO {o : Oper} {X : Operand} (ho : o.op = .fieldAddr 74 X 1) {p i : Nat} (ρ : Operand → Value) (w : World) (h0 : ρ X = .pointer (some ⟨p, i, none⟩)) : (execOp ρ o).run Try.prog w = .ok (.value (.pointer (some ⟨p, i + 33, none⟩))) w := by
  simp [execOp, ho, h0, go_sem, add_of]
section
variable {B : Nat} {w0 w : World} {Ps : List Asn} {p : Nat} {v : Value} {l : List Ch}
end
end Sto
end Go.Proofs.Ytepbdjgfaljbgaa

end
section
namespace Go.Proofs.Ytepbdjgfaljbgaa
open Go.RowKit Go.Own
namespace Sto
open Go.StoM Byt
/-- the document's store at p, to be read -/
def Rd (w : World) (p : Nat) (v : Value) (l : List Ch) : Prop := p < w.heap.size ∧ w.cell? ⟨p, 0, none⟩ = some v ∧ RdWin w v l.length (l.flatMap chC)
theorem Rd.later {W w : World} {p : Nat} {v : Value} {l : List Ch} (h : Rd W p v l) (hb : Below W.heap.size W w) : Rd w p v l := ⟨Nat.lt_of_lt_of_le h.1 hb.size, cellLater' h.2.1 hb, h.2.2.later hb⟩
theorem rd_ref {B : Nat} {w0 w : World} {Ps : List Asn} {p : Nat} {v : Value} {l : List Ch} (H : Own.St B w0 w (ARef p v l :: Ps)) : Rd w p v l := by
  have h := ref_open H
  exact ⟨(h.ltV 0 rfl).2, (h.cellV 0 rfl 0 rfl).1, rd_rowW h 1 rfl⟩
theorem fld_ks {o : Oper} {X : Operand} (ho : o.op = .fieldAddr 36 X 0) {p i : Nat} (ρ : Operand → Value) (w : World) (h0 : ρ X = .pointer (some ⟨p, i, none⟩)) : (execOp ρ o).run Try.prog w = .ok (.value (.pointer (some ⟨p, i, none⟩))) w := by
  simp [execOp, ho, h0, go_sem, add_of]
theorem twins_step (l : List Ch) (d : List UInt8) {i : Nat} {e : Ch} (hi : l[i]? = some e) : twins (l.take (i + 1)) d = if e.key.sum = d then twins (l.take i) d ++ [e] else twins (l.take i) d := by
  unfold twins
  rw [List.take_add_one, hi, List.filter_append]
  by_cases h : e.key.sum = d
  · rw [if_pos h]; simp [h]
  · rw [if_neg h]; simp [h]
set_option maxRecDepth 10000 in
set_option maxHeartbeats 6400000 in
theorem twinsR_any {w : World} {p : Nat} {v : Value} {l : List Ch} (R : Rd w p v l) (hf : ∀ c ∈ l, Fit c) (hn : l.length ≤ 100000) (d : List UInt8) (hd : d.length = 32) : Calls Try.prog 55 #[ptr p, .agg (d.map byteV).toArray] w fun e w' => ∃ ao c, e = .returned (.slice ao (twins l d).length c) ∧ Own.St w.heap.size w w' [ARow 74 37 (.slice ao (twins l d).length c) (twins l d).length ((twins l d).flatMap chC)] := by
  obtain ⟨hpl, hc, ao0, c, rfl, hrd⟩ := R
  obtain ⟨n, hnl⟩ : ∃ n, n = l.length := ⟨_, rfl⟩
  have HNL : Hid (l.length = n) := hnl.symm
  rw [← hnl] at hc hrd hn
  have CELL : Hid (∀ wx, Below w.heap.size w wx → wx.cell? ⟨p, 0, none⟩ = some (.slice ao0 n c)) := fun wx h => cellLater' hc h
  have RDW : Hid (∀ wx, Below w.heap.size w wx → n = 0 ∨ ∃ g o, ao0 = some ⟨g, o, none⟩ ∧ ∀ j u, (l.flatMap chC)[j]? = some u → wx.cell? ⟨g, o + j, none⟩ = some u) := fun wx h => by
    have z : RdWin w (.slice ao0 n c) n (l.flatMap chC) := ⟨ao0, c, rfl, hrd⟩
    obtain ⟨a, c', e, q⟩ := z.later h
    cases e
    exact q
  have HF := Lib.hid hf
  have HD := Lib.hid hd
  have DL : Hid ((d.map byteV).length = 32) := by show _ = _; rw [List.length_map, hd]
  obtain ⟨ds, hds⟩ : ∃ x, x = d.map byteV := ⟨_, rfl⟩
  have hb0 := (Own.St.start w).boxV 34 ds
  obtain ⟨b3, hb3⟩ : ∃ b, b = w.heap.size := ⟨_, rfl⟩
  obtain ⟨W1, hW1⟩ : ∃ W, W = w.alloc (.cells ds.toArray 34) := ⟨_, rfl⟩
  have hb1 : Own.St w.heap.size w W1 [AVals b3 34 ds] := by rw [hb3, hW1]; exact hb0
  have H1 := Lib.hid (hb1.rowFresh (e := 74) (size := 37))
  have E1 := hW1.symm
  have EB := hb3.symm
  have HDS := Lib.hid hds
  rw [← hds]
  clear hpl hc hrd hf hd hb0 hb1 hb3 hW1 hds hnl
  go_enter Try.func55, Try.ntmps55
  go_wp2
  go_loopw [5, 6] (fun v5 v6 wr => ∃ (i : Nat) (a : Option Addr) (c5 : Nat) (tw : List Ch), i ≤ n ∧ tw = twins (l.take i) d ∧ v5 = .slice a tw.length c5 ∧ v6 = .int .i64 (i : Int) ∧ Own.St w.heap.size w wr [ARow 74 37 (.slice a tw.length c5) tw.length (tw.flatMap chC), AVals b3 34 ds]) (fun _ v6 _ => n - (intOf v6).toNat)
  case atStart => exact ⟨0, none, 0, [], Nat.zero_le _, by simp [twins], rfl, rfl, H1.out⟩
  case round =>
    obtain ⟨i, a, c5, tw, hin, htw, rfl, rfl, hst⟩ := hrel
    have H := Lib.hid hst
    have TW := Lib.hid htw
    have c0 := CELL.out wr hst.below
    clear hst htw H1
    by_cases hi : (i : Int) < (n : Int)
    · have hin2 : i < n := by omega
      rcases RDW.out wr H.out.below with h0 | ⟨g, o, hg, hcells⟩
      · omega
      subst hg
      obtain ⟨e, he⟩ : ∃ e, l[i]? = some e := ⟨_, List.getElem?_eq_getElem (by rw [HNL.out]; exact hin2)⟩
      have hfe := HF.out e (List.mem_of_getElem? he)
      obtain ⟨cs, hcs⟩ : ∃ x, x = chC e := ⟨_, rfl⟩
      have CL : Hid (cs.length = 37) := by show _ = _; rw [hcs]; exact chC_len hfe.key
      have CO : Hid (∀ u ∈ cs, u.oneCell' = true) := by show ∀ u ∈ cs, _; rw [hcs]; exact chC_one _
      have SL : Hid ((e.key.sum.map byteV).length = 32) := by show _ = _; rw [List.length_map]; exact hfe.key.sum
      have EL : Hid (e.key.sum.length = 32) := hfe.key.sum
      have RG : Hid (∀ wx, Below w.heap.size w wx → wx.rangeAt g (o + i * 37) cs) := fun wx h => by
        rcases RDW.out wx h with q | ⟨g', o', hg', q⟩
        · omega
        · cases hg'
          rw [hcs]
          exact rd_range q HF.out HNL.out he
      obtain ⟨t, ht⟩ : ∃ t, decide (e.key.sum = d) = t := ⟨_, rfl⟩
      have HT := Lib.hid ht
      have F : Hid (∀ wx, Below wr.heap.size wr wx → wx.cell? ⟨p, 0, none⟩ = some (.slice (some ⟨g, o, none⟩) n c) ∧ wx.rangeAt g (o + i * 37) (e.key.sum.map byteV) ∧ wx.rangeAt b3 0 (d.map byteV)) := fun wx h => ⟨CELL.out wx (H.out.later h).below, fun j u hu => by
          refine RG.out wx (H.out.later h).below j u ?_
          rw [hcs]
          refine chC_key hfe.key j u ?_
          show (e.key.sum.map byteV ++ _)[j]? = some u
          rw [List.getElem?_append_left (List.getElem?_eq_some_iff.1 hu).1]
          exact hu, by rw [← HDS.out]; exact (H.out.later h).boxRange 1 rfl⟩
      have ST := Lib.hid (twins_step l d he)
      have TL : Hid (tw.length ≤ n) := by
        show _ ≤ _
        rw [TW.out]
        unfold twins
        refine Nat.le_trans (List.length_filter_le _ _) ?_
        rw [List.length_take]
        omega
      have ECS := Lib.hid hcs
      clear he hfe hcs ht hcells
      go_wp2_with (fail)
      refine wp_lax_list (by kernel_rfl) (by kernel_rfl) (by kernel_rfl) ?_
      refine wpL_move (ptr p) rfl (by kernel_rfl) (by kernel_rfl) (by kernel_rfl) (by kernel_rfl) ?_
      refine wpL_run1 (x := .tmp 16) (ptr p) (ptr p) (by kernel_rfl) (by kernel_rfl) (by kernel_rfl) (by kernel_rfl) (by kernel_rfl) (fun wx ρ hwx h0 hc => by simp [go_sem, h0]) ?_
      refine wpL_run1 (x := .tmp 17) (ptr p) (ptr p) (by kernel_rfl) (by kernel_rfl) (by kernel_rfl) (by kernel_rfl) (by kernel_rfl) (fun wx ρ hwx h0 hc => fld_rL rfl ρ wx h0) ?_
      refine wpL_run1 (x := .tmp 18) (ptr p) (.slice (some ⟨g, o, none⟩) n c) (by kernel_rfl) (by kernel_rfl) (by kernel_rfl) (by kernel_rfl) (by kernel_rfl) (fun wx ρ hwx h0 hc => ld_rL rfl ρ (F.out wx hwx).1 h0) ?_
      refine wpL_move (.int .i64 (i : Int)) rfl (by kernel_rfl) (by kernel_rfl) (by kernel_rfl) (by kernel_rfl) ?_
      refine wpL_run2 (x := .tmp 19) (y := .tmp 20) (.slice (some ⟨g, o, none⟩) n c) (.int .i64 (i : Int)) (.pointer (some ⟨g, o + i * 37, none⟩)) (by kernel_rfl) (by kernel_rfl) (by kernel_rfl) (by kernel_rfl) (by kernel_rfl) (by kernel_rfl) (fun wx ρ hwx h0 h1 hc => idx_chO rfl hin2 ρ wx h0 h1) ?_
      refine wpL_run1 (x := .tmp 21) (.pointer (some ⟨g, o + i * 37, none⟩)) (.pointer (some ⟨g, o + i * 37, none⟩)) (by kernel_rfl) (by kernel_rfl) (by kernel_rfl) (by kernel_rfl) (by kernel_rfl) (fun wx ρ hwx h0 hc => fld_k rfl ρ wx h0) ?_
      refine wpL_run1 (x := .tmp 22) (.pointer (some ⟨g, o + i * 37, none⟩)) (.pointer (some ⟨g, o + i * 37, none⟩)) (by kernel_rfl) (by kernel_rfl) (by kernel_rfl) (by kernel_rfl) (by kernel_rfl) (fun wx ρ hwx h0 hc => fld_ks rfl ρ wx h0) ?_
      refine wpL_run1 (x := .tmp 23) (.pointer (some ⟨g, o + i * 37, none⟩)) (.agg (e.key.sum.map byteV).toArray) (by kernel_rfl) (by kernel_rfl) (by kernel_rfl) (by kernel_rfl) (by kernel_rfl) (fun wx ρ hwx h0 hc => load_sum _ SL.out rfl ρ (F.out wx hwx).2.1 h0) ?_
      refine wpL_run1 (x := .tmp 3) (ptr b3) (.agg (d.map byteV).toArray) (by kernel_rfl) (by kernel_rfl) (by kernel_rfl) (by kernel_rfl) (by kernel_rfl) (fun wx ρ hwx h0 hc => load_sum _ DL.out rfl ρ (F.out wx hwx).2.2 h0) ?_
      refine wpL_run2 (x := .tmp 24) (y := .tmp 25) (.agg (e.key.sum.map byteV).toArray) (.agg (d.map byteV).toArray) (.bool t) (by kernel_rfl) (by kernel_rfl) (by kernel_rfl) (by kernel_rfl) (by kernel_rfl) (by kernel_rfl) (fun wx ρ hwx h0 h1 hc => eql_sum rfl EL.out HD.out HT.out ρ wx h0 h1) ?_
      refine wpL_end (by kernel_rfl) (fun w2 hw2 => ?_)
      simp only [FinL, setL, List.set_cons_zero, List.set_cons_succ]
      have H2 := Lib.hid (H.out.later hw2)
      have RG2 := Lib.hid (RG.out w2 H2.out.below)
      have c2 := CELL.out w2 H2.out.below
      clear F H hw2
      cases t with
      | true =>
        have hb := H2.out.boxV 74 cs
        have HBX := Lib.hid hb
        have NC : Hid (∀ a, some (⟨w2.heap.size, 0, none⟩ : Addr) = some a → ∀ j u, cs[j]? = some u → (w2.alloc (.cells cs.toArray 74)).cell? (a.add j) = some u) := by
          intro a ha j u hu
          cases ha
          rw [add_of, Nat.zero_add]
          exact (HBX.out.cellV 0 rfl j hu).1
        have hcap := TL.out
        clear hb
        go_wp2_with (first
          | (refine wpList_val rfl (idx_chO rfl hin2 _ _ rfl rfl) ?_)
          | (refine wpList_val rfl (load_ch cs CL.out rfl _ (b := g) (k := o + i * 37) RG2.out rfl) ?_)
          | (refine wpList_slot_one rfl 64 (.tmp 34) rfl cs 74 rfl (slot_ch cs CL.out _) ?_)
          | (at_builtin; refine wpList_many_append many_ch rfl (.tmp 27) (.tmp 35) rfl HBX.out 1 rfl rfl (some ⟨w2.heap.size, 0, none⟩) 1 1 cs rfl (by intro h; cases h) (by rw [CL.out]) NC.out CO.out (by omega) (by decide) ?_; intro a2 c2' w5 h5; simp only [List.set_cons_zero, List.set_cons_succ] at h5 ⊢; have H5 := Lib.hid (h5.drop 1); clear h5))
        go_roundw
        case rel =>
          refine ⟨i + 1, a2, c2', tw ++ [e], by omega, ?_, by rw [List.length_append]; rfl, by go_num, ?_⟩
          · rw [ST.out, if_pos (of_decide_eq_true HT.out), TW.out]
          · rw [List.length_append, List.flatMap_append]
            have h := H5.out
            rw [ECS.out] at h
            simpa using h
        case measure => simp [intOf]; omega
      | false =>
        go_wp2_with (fail)
        go_roundw
        case rel => exact ⟨i + 1, a, c5, tw, by omega, by rw [ST.out, if_neg (of_decide_eq_false HT.out), TW.out], rfl, by go_num, H2.out⟩
        case measure => simp [intOf]; omega
    · have hi2 : i = n := by omega
      subst hi2
      have EX : Hid (tw = twins l d) := by show _ = _; rw [TW.out, List.take_of_length_le (by rw [HNL.out]; exact Nat.le_refl _)]
      go_wp2_with (fail)
      go_ret
      rw [← EX.out]
      exact ⟨a, c5, rfl, by first | exact H.out.drop2 | (rw [← EB]; exact H.out.drop2)⟩
end Sto
end Go.Proofs.Ytepbdjgfaljbgaa

end
