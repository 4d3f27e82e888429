/- Merged: StbH StbI StbJ StbK StbL StoD StoE StbN LawStoA StoF LawStoB StoI -/
import Derived.Test.YtcfdjoohbicomaaQ1
import Derived.Test.YtcfdjoohbicomaaQ2
import Derived.Test.YtcfdjoohbicomaaQ3
set_option linter.unusedVariables false
section
namespace Go.Proofs.Ytcfdjoohbicomaa
open Go.RowKit Go.Own Go.Maps
namespace Sto
open Go.StoM Byt
/-- a map that is ranged over, and its iterator -/
def ARng (b r : Nat) (l : List Ch) (left : Lit → Bool) (cnt : Nat) : Asn where
  holds S w := (∃ (D : DataW Value) (n : Nat), w.ranges Try.prog 35 rawV b r n D left cnt ∧ Reads D l) ∧ ∀ k, S k ↔ (k = b ∨ k = r)
  keep h gs hd := by
    obtain ⟨⟨D, n, hr, h1⟩, h5⟩ := h
    have l1 := hr.owns.lt
    have l2 := hr.lt
    obtain ⟨es, clock, since, seen, c0, hb, F, hs, hD, hi, rest⟩ := hr
    exact ⟨⟨D, n, ⟨es, clock, since, seen, c0, (gs.block _ l1 (hd _ ((h5 _).2 (.inl rfl)))).trans hb, F, hs, hD, (gs.block _ l2 (hd _ ((h5 _).2 (.inr rfl)))).trans hi, rest⟩, h1⟩, h5⟩
  lt h k hk := by
    obtain ⟨⟨D, n, hr, h1⟩, h5⟩ := h
    rcases (h5 k).1 hk with rfl | rfl
    · exact hr.owns.lt
    · exact hr.lt
section
variable {B : Nat} {w0 w : World} {Ps : List Asn} {b r : Nat} {l : List Ch} {left : Lit → Bool} {cnt : Nat}
theorem rng_start (H : Own.St B w0 w Ps) (i : Nat) (hi : Ps[i]? = some (ACh b l)) : ∃ w' left cnt, (Instr.range 69 (.map (some b))).run Try.prog w = .ok (.pointer (some ⟨w.heap.size, 0, none⟩)) w' ∧ Own.St B w0 w' (Ps.set i (ARng b w.heap.size l left cnt)) ∧ ∀ c ∈ l, left (kLit c.key) = true := by
  obtain ⟨S, ⟨⟨D, hm, hr⟩, h5⟩, _, put⟩ := H.at i hi
  obtain ⟨w', hrun, r1, g, hsz⟩ := hm.range keyed mapT
  refine ⟨w', _, _, hrun, put (fun k => k = b ∨ k = w.heap.size) w' (ARng b _ l _ _) ⟨⟨D, _, r1, hr⟩, fun _ => Iff.rfl⟩ ?_, fun c hc => (hr.has _).2 ⟨c, hc, rfl⟩⟩
  refine ⟨g.os, g.tape, g.output, g.size, fun k hk _ => g.block k hk (by simp), fun k hk => ?_⟩
  rcases hk with rfl | rfl
  · exact .inl ((h5 _).2 rfl)
  · exact .inr (Nat.le_refl _)
theorem rng_left (H : Own.St B w0 w Ps) (i : Nat) (hi : Ps[i]? = some (ARng b r l left cnt)) : w.rangeLeft b r = cnt := by
  obtain ⟨S, ⟨⟨D, n, hr, _⟩, _⟩, _⟩ := H.at i hi
  exact hr.left_eq
theorem rng_next (H : Own.St B w0 w Ps) (i : Nat) (hi : Ps[i]? = some (ARng b r l left cnt)) (ok : Ok l) (ty : TypeId) :
    ((∀ kl, left kl = false) ∧ (Instr.next (.pointer (some ⟨r, 0, none⟩)) false ty).run Try.prog w = .ok (.tuple #[.bool false]) w) ∨
    ∃ c w' left' cnt', c ∈ l ∧ left (kLit c.key) = true ∧ (Instr.next (.pointer (some ⟨r, 0, none⟩)) false ty).run Try.prog w = .ok (.tuple #[.bool true, kV c.key, chV c]) w' ∧ Own.St B w0 w' (Ps.set i (ARng b r l left' cnt')) ∧ cnt' < cnt ∧
      (∀ d ∈ l, d ≠ c → left' (kLit d.key) = left (kLit d.key)) ∧ left' (kLit c.key) = false ∧ (Instr.entry (.pointer (some ⟨r, 0, none⟩))).run Try.prog w' = .ok (.tuple #[kV c.key, chV c]) w' := by
  obtain ⟨S, ⟨⟨D, n, hr, hd⟩, h5⟩, _, put⟩ := H.at i hi
  rcases hr.next keyed ty with ⟨_, hl, hrun⟩ | ⟨key, v, kl, y, w', cnt', hkey, hlk, hv, hat, hrun, hrg, hlt, hgr, hsz, hen⟩
  · exact .inl ⟨hl, hrun⟩
  · right
    have hh := has_true_of_atKey hat
    obtain ⟨c, hc, e⟩ := (hd.has kl).1 hh
    have hck := key_of (ok.fit c hc).key
    rw [e] at hck
    have ek := keyed.inj hkey hck
    have h1 := hd.at_ c hc (.held v)
    rw [e, hat] at h1
    simp only [rawV, Option.some.injEq] at hv
    rw [← hv] at h1
    simp only [DataW.held.injEq] at h1
    rw [ek, h1] at hrun hen
    refine ⟨c, w', _, cnt', hc, by rw [e]; exact hlk, hrun, put (fun k => k = b ∨ k = r) w' (ARng b r l _ cnt') ⟨⟨D, n, hrg, hd⟩, fun _ => Iff.rfl⟩ ?_, hlt, fun d hd2 hne => ?_, ?_, hen⟩
    · exact ⟨hgr.os, hgr.tape, hgr.output, hgr.size, fun k hk hn => hgr.block k hk (fun e => hn ((h5 k).2 (.inr (by cases e; rfl)))), fun k hk => .inl ((h5 k).2 hk)⟩
    · have hkd : kLit d.key ≠ kl := fun e2 => hne (key_inj ok.sorted hd2 hc (kLit_inj (ok.fit d hd2).key (ok.fit c hc).key (by rw [e2, e])))
      show (left (kLit d.key) && !(kLit d.key).sameKey kl) = _
      rw [Maps.sameKey_ne hkd]
      simp
    · show (left (kLit c.key) && !(kLit c.key).sameKey kl) = false
      rw [← e, WideAt.sameKey_self (isKey (ok.fit c hc).key)]
      simp
theorem rng_end (H : Own.St B w0 w Ps) (i : Nat) (hi : Ps[i]? = some (ARng b r l left cnt)) : Own.St B w0 w (Ps.set i (ACh b l)) := by
  obtain ⟨S, ⟨⟨D, n, hr, hd⟩, h5⟩, _, put⟩ := H.at i hi
  exact put (fun k => k = b) w (ACh b l) ⟨⟨D, tight hr.owns hd, hd⟩, fun _ => Iff.rfl⟩ ((Step.refl S w).to fun k hk => .inl ((h5 k).2 (.inl hk)))
end
/-- an operation whose run is known -/
theorem wpList_runs {P : Program} {ops : Array Oper} {rest : List Oper} {o : Oper} {a : Go.Act} {w w' : World} {v : Value} {Q : Exit → Go.Act → World → Prop} (hgd : o.guard = none) (hrun : (execOp a.eval o).run P w = .ok (.value v) w') (h : wpList P ops Q rest (a.put o.dst v) w') : wpList P ops Q (o :: rest) a w := by
  refine wpList_plain hgd fun K hK => ?_
  unfold Oper.wp
  rw [hrun]
  exact hK _ _ h
theorem range_E {P : Program} {o : Oper} {x : Operand} {t : TypeId} (ho : o.op = .range t x) {ρ : Operand → Value} {w w' : World} {vm v : Value} (h0 : ρ x = vm) (hrun : (Instr.range t vm).run P w = .ok v w') : (execOp ρ o).run P w = .ok (.value v) w' := by
  simp [execOp, ho, h0, hrun, Result.andThen]
end Sto
end Go.Proofs.Ytcfdjoohbicomaa

end
section
namespace Go.Proofs.Ytcfdjoohbicomaa
open Go.RowKit Go.Own Go.Maps
namespace Sto
open Go.StoM Byt
/-- what has been met -/
noncomputable def met (left : Lit → Bool) (l : List Ch) : List Ch := l.filter fun c => !left (kLit c.key)
theorem met_step {l : List Ch} (ok : Ok l) {left left' : Lit → Bool} {c : Ch} (hc : c ∈ l) (h0 : left (kLit c.key) = true) (h1 : left' (kLit c.key) = false) (h2 : ∀ d ∈ l, d ≠ c → left' (kLit d.key) = left (kLit d.key)) : (met left' l).Perm (c :: met left l) :=
  filter_one (sorted_nodup ok.sorted) hc (by simp [h0]) (by simp [h1]) (fun d hd hne => by rw [h2 d hd hne])
section
variable {B : Nat} {w0 w : World} {Ps : List Asn} {p : Nat} {l : List Ch}
set_option maxRecDepth 10000 in
set_option maxHeartbeats 6400000 in
theorem chosen_some (g gs : Nat) (cb : Array Value) (q : Ch → Bool) (cf : Ch → Ch → Int) (eg : ∀ args w, (callFunc g args).run Try.prog w = .ok (.enter g args) w) (es : ∀ args w, (callFunc gs args).run Try.prog w = .ok (.enter gs args) w)
    (hO : Sort.SWO (ltOf fun x y : FC => cf x.1 y.1)) (hcf : ∀ a b : Ch, Fit a → Fit b → ∀ W, Calls Try.prog gs #[chV a, chV b] W fun e w' => e = .returned (iS (cf a b)) ∧ ∃ q os', w' = Sort.grow (W.drewN q) os')
    {b : Nat} (H : Own.St B w0 w (ACh b l :: AVals p 71 [.map (some b)] :: Ps)) (ok : Ok l) (hn : l.length ≤ 100000)
    (hw : ∀ c, Fit c → ∀ (Qs : List Asn) wx, Own.St B w0 wx (Qs ++ Ps) → Calls Try.prog g (#[chV c] ++ cb) wx fun e w' => e = .returned (.bool (q c)) ∧ Below wx.heap.size wx w')
    (R : List Ch) (hR : ∀ m : List Ch, m.Perm (l.filter q) → m.Pairwise (fun a b => ¬ cf b a < 0) → m = R) :
    Calls Try.prog 38 #[ptr p, .func (.func g) #[] cb, .func (.func gs) #[] #[]] w fun e w' => ∃ ao c, e = .returned (.slice ao R.length c) ∧ Own.St B w0 w' (ARow 51 37 (.slice ao R.length c) R.length (R.flatMap chC) :: ACh b l :: AVals p 71 [.map (some b)] :: Ps) := by
  have c0 := (H.cellV 1 rfl 0 rfl).1
  obtain ⟨w1, left0, cnt0, e1, h1, hl0⟩ := rng_start H 0 rfl
  simp only [List.set_cons_zero] at h1
  obtain ⟨r, hr⟩ : ∃ r, r = w.heap.size := ⟨_, rfl⟩
  rw [← hr] at e1 h1
  have HR := hr.symm
  have E1 := Lib.hid e1
  have h2 := h1.rowFresh (e := 51) (size := 37)
  have H2 := Lib.hid h2
  have HL0 := Lib.hid hl0
  have OK := Lib.hid ok
  clear e1 h1 h2 hl0 H hr
  go_enter Try.func38, Try.ntmps38
  go_wp2_with (refine wpList_runs rfl (range_E rfl rfl E1.out) ?_)

  go_loopw [7] (fun v7 wr => ∃ (acc : List Ch) (ao : Option Addr) (cap : Nat) (left : Lit → Bool) (cnt : Nat), v7 = .slice ao acc.length cap ∧ Own.St B w0 wr (ARow 51 37 (.slice ao acc.length cap) acc.length (acc.flatMap chC) :: ARng b r l left cnt :: AVals p 71 [.map (some b)] :: Ps) ∧ acc.Perm ((met left l).filter q)) (fun _ wr => wr.rangeLeft b r)
  case atStart =>
    refine ⟨[], none, 0, left0, cnt0, rfl, H2.out, ?_⟩
    have e : met left0 l = [] := by
      unfold met
      rw [List.filter_eq_nil_iff]
      intro c hc
      rw [HL0.out c hc]
      simp
    rw [e]
    exact List.Perm.refl _
  case round =>
    obtain ⟨acc, ao, cap, left, cnt, rfl, hst, hpm⟩ := hrel
    have H := Lib.hid hst
    have HP := Lib.hid hpm
    have hac : ∀ c ∈ acc, c ∈ l := fun c hc => (List.mem_filter.1 (List.mem_filter.1 (hpm.mem_iff.1 hc)).1).1
    have HAC := Lib.hid hac
    have hlen : acc.length ≤ l.length := by
      rw [hpm.length_eq]
      exact Nat.le_trans (List.length_filter_le _ _) (List.length_filter_le _ _)
    have HLN := Lib.hid hlen
    clear hst hpm H2 HL0 E1 hac hlen
    rcases rng_next H.out 1 rfl OK.out 0 with ⟨hno, hrun⟩ | ⟨c, w2, left', cnt', hc, hlc, hrun, h2, hlt, hoth, hl2, hen⟩
    · have HN := Lib.hid hno
      clear hno
      have hpf : acc.Perm (l.filter q) := by
        have e : met left l = l := by
          unfold met
          rw [List.filter_eq_self]
          intro c _
          rw [HN.out]
          rfl
        have := HP.out
        rwa [e] at this
      have hfit : ∀ c ∈ acc, Fit c := fun c hc => OK.out.fit c (HAC.out c hc)
      have hH := rng_end H.out 1 rfl
      simp only [List.set_cons_zero, List.set_cons_succ] at hH
      have CS := Lib.hid (sort_any gs cf hO hcf es hfit rfl (by have := HLN.out; omega) hH)
      have HPF := Lib.hid hpf
      clear hpf hfit hH
      go_wp2_with (fail)
      refine CS.out.mono ?_
      rintro e w3 ⟨rfl, m, hm1, hm2, h3⟩
      have hmR := hR m (hm1.trans HPF.out) hm2
      subst hmR
      have hln : acc.length = m.length := hm1.length_eq.symm
      rw [hln] at h3
      have H3 := Lib.hid h3
      have HLL := Lib.hid hln
      clear h3 hm1 hm2 hln CS hR hO hcf hw HP
      go_wp2_with (fail)
      go_ret
      exact ⟨ao, cap, by rw [HLL.out]; rfl, H3.out⟩
    · simp only [List.set_cons_zero, List.set_cons_succ] at h2
      have hfc := OK.out.fit c hc
      obtain ⟨cs, hcs⟩ : ∃ x, x = chC c := ⟨_, rfl⟩
      obtain ⟨kc, hkc⟩ : ∃ x, x = kV c.key := ⟨_, rfl⟩
      have ecs : chV c = .agg cs.toArray := by rw [hcs]; rfl
      rw [ecs, ← hkc] at hrun hen
      have CL : Hid (cs.length = 37) := by show _ = _; rw [hcs]; exact chC_len hfc.key
      have CO : Hid (∀ u ∈ cs, u.oneCell' = true) := by show ∀ u ∈ cs, _; rw [hcs]; exact chC_one _
      have H2 := Lib.hid h2
      have CW : Hid (∀ (Qs : List Asn) wx, Own.St B w0 wx (Qs ++ Ps) → Calls Try.prog g (#[.agg cs.toArray] ++ cb) wx fun e w' => e = .returned (.bool (q c)) ∧ Below wx.heap.size wx w') := by
        rw [hcs]
        exact fun Qs wx hwx => hw c hfc Qs wx hwx
      have MT := Lib.hid (met_step OK.out hc hlc hl2 hoth)
      have HLT : Hid (w2.rangeLeft b r < wr.rangeLeft b r) := by
        show _ < _
        rw [rng_left H.out 1 rfl, rng_left h2 1 rfl]
        exact hlt
      have HCL : Hid (wr.rangeLeft b r = cnt) := rng_left H.out 1 rfl
      have HCC := Lib.hid hlt
      have HQ := Lib.hid hcs
      clear hcs hkc ecs h2 hlt hlc hoth hl2 hfc H
      go_wp2_with (first
        | (refine wpList_box2 boxy_ch rfl rfl rfl (.tmp 9) (.tmp 20) rfl rfl cs (fun _ => rfl) (fun _ => rfl) CL.out CO.out H2.out ?_; intro b9 w3 h; have H3 := Lib.hid h; clear h)
        | (refine wpList_val rfl (load_ch cs CL.out rfl _ (b := b9) (k := 0) (H3.out.boxRange 0 rfl) rfl) ?_))
      refine (CW.out [_, _, _, _] w3 H3.out).mono ?_
      rintro e w4 ⟨rfl, h4⟩
      have H4 := Lib.hid (H3.out.later h4)
      clear h4 CW H3 H2
      cases hq : q c
      · have HMT : Hid (acc.Perm ((met left' l).filter q)) := by
          have h1 := MT.out.filter q
          rw [List.filter_cons_of_neg (by simp [hq])] at h1
          exact HP.out.trans h1.symm
        clear hq
        go_wp2_with (fail)
        go_roundw
        case rel => exact ⟨acc, ao, cap, left', cnt', rfl, H4.out.drop 1, HMT.out⟩
        case measure =>
          have h1 := rng_left H4.out 2 rfl
          rw [h1, HCL.out]
          exact HCC.out
      · have HMT : Hid ((acc ++ [c]).Perm ((met left' l).filter q)) := by
          have h1 := MT.out.filter q
          rw [List.filter_cons_of_pos hq] at h1
          exact (List.perm_append_comm.trans (HP.out.cons c)).trans h1.symm
        have hb := H4.out.boxV 51 cs
        have HBX := Lib.hid hb
        have HC : Hid (∀ a, some (⟨w4.heap.size, 0, none⟩ : Addr) = some a → ∀ j u, cs[j]? = some u → (w4.alloc (.cells cs.toArray 51)).cell? (a.add j) = some u) := by
          intro a ha j u hu
          cases ha
          rw [add_of, Nat.zero_add]
          exact (HBX.out.cellV 0 rfl j hu).1
        have hcap := HLN.out
        clear hq hb
        go_wp2_with (first
          | (refine wpList_val rfl (load_ch cs CL.out rfl _ (b := b9) (k := 0) (H4.out.boxRange 0 rfl) rfl) ?_)
          | (refine wpList_slot_one rfl 27 (.tmp 25) rfl cs 51 rfl (slot_ch cs CL.out _) ?_)
          | (at_builtin; refine wpList_many_append many_ch rfl (.tmp 24) (.tmp 26) rfl HBX.out 2 rfl rfl (some ⟨w4.heap.size, 0, none⟩) 1 1 cs rfl (by intro h; cases h) (by rw [CL.out]) HC.out CO.out (by omega) (by decide) ?_; intro a2 c2 w5 h5; simp only [List.set_cons_zero, List.set_cons_succ] at h5 ⊢; have H5 := Lib.hid h5; clear h5))
        go_roundw
        case rel =>
          refine ⟨acc ++ [c], a2, c2, left', cnt', by rw [List.length_append]; rfl, ?_, HMT.out⟩
          have h := H5.out.drop 2
          simp only [List.drop_succ_cons, List.drop_zero] at h
          rw [List.length_append, List.flatMap_append, List.flatMap_singleton, ← HQ.out]
          exact h
        case measure =>
          have h1 := rng_left H5.out 3 rfl
          rw [h1, HCL.out]
          exact HCC.out
set_option maxRecDepth 10000 in
set_option maxHeartbeats 6400000 in
theorem chosen_nil (g gs : Nat) (cb : Array Value) (H : Own.St B w0 w (AVals p 71 [.map none] :: Ps)) :
    Calls Try.prog 38 #[ptr p, .func (.func g) #[] cb, .func (.func gs) #[] #[]] w fun e w' => e = .returned (.slice none 0 0) ∧ Own.St B w0 w' (AVals p 71 [.map none] :: Ps) := by
  have c0 := (H.cellV 0 rfl 0 rfl).1
  have e1 := run_range_nilMap (P := Try.prog) w 69 35 51 mapT
  have e2 := run_next_nilMap (P := Try.prog) w 0 0 0 #[]
  have HS : Hid (Calls Try.prog 44 #[.slice none 0 0, .func (.func gs) #[] #[]] (w.alloc (.mapIter none 0 #[] 0)) fun e w' => e = .returned (.tuple #[]) ∧ w' = w.alloc (.mapIter none 0 #[] 0)) := AnyF.slices_SortFunc_none sortCh none 0 _ _
  have H1 := Lib.hid (H.alloc (.mapIter none 0 #[] 0))
  clear H
  go_enter Try.func38, Try.ntmps38
  go_wp2
  go_simp
  go_loopw [7] (fun v7 wr => v7 = .slice none 0 0 ∧ wr = w.alloc (.mapIter none 0 #[] 0)) (fun _ wr => 0)
  case atStart => exact ⟨rfl, rfl⟩
  case round =>
    obtain ⟨rfl, rfl⟩ := hrel
    go_wp2_with (fail)
    refine HS.out.mono ?_
    rintro e w3 ⟨rfl, rfl⟩
    go_wp2_with (fail)
    go_ret
    exact ⟨rfl, H1.out⟩
/-- the same of a store as it stands -/
theorem chosen_any (g gs : Nat) (cb : Array Value) (q : Ch → Bool) (cf : Ch → Ch → Int) (eg : ∀ args w, (callFunc g args).run Try.prog w = .ok (.enter g args) w) (es : ∀ args w, (callFunc gs args).run Try.prog w = .ok (.enter gs args) w)
    (hO : Sort.SWO (ltOf fun x y : FC => cf x.1 y.1)) (hcf : ∀ a b : Ch, Fit a → Fit b → ∀ W, Calls Try.prog gs #[chV a, chV b] W fun e w' => e = .returned (iS (cf a b)) ∧ ∃ q os', w' = Sort.grow (W.drewN q) os')
    (H : Own.St B w0 w (AS p l :: Ps)) (ok : Ok l) (hn : l.length ≤ 100000)
    (hw : ∀ c, Fit c → ∀ (Qs : List Asn) wx, Own.St B w0 wx (Qs ++ Ps) → Calls Try.prog g (#[chV c] ++ cb) wx fun e w' => e = .returned (.bool (q c)) ∧ Below wx.heap.size wx w')
    (R : List Ch) (hR : ∀ m : List Ch, m.Perm (l.filter q) → m.Pairwise (fun a b => ¬ cf b a < 0) → m = R) :
    Calls Try.prog 38 #[ptr p, .func (.func g) #[] cb, .func (.func gs) #[] #[]] w fun e w' => ∃ ao c, e = .returned (.slice ao R.length c) ∧ Own.St B w0 w' (ARow 51 37 (.slice ao R.length c) R.length (R.flatMap chC) :: AS p l :: Ps) := by
  obtain ⟨m, hm, h⟩ := as_open H
  cases m with
  | some b =>
    refine (chosen_some (p := p) g gs cb q cf eg es hO hcf (b := b) h.swap2 ok hn hw R hR).mono ?_
    rintro e w' ⟨ao, c, rfl, h2⟩
    refine ⟨ao, c, rfl, ?_⟩
    have h3 := Own.St.perm_app (Xs := [ARow 51 37 (.slice ao R.length c) R.length (R.flatMap chC)]) (Ys := [ACh b l, AVals p 71 [.map (some b)]]) (Zs := Ps) h2
    have h4 : Own.St B w0 w' (AS p l :: (Ps ++ [ARow 51 37 (.slice ao R.length c) R.length (R.flatMap chC)])) := as_close (m := some b) (fun h => by cases h) (Own.St.swap2 h3)
    exact h4.perm (by
      rw [← List.cons_append]
      exact List.perm_append_comm)
  | none =>
    have hl := hm rfl
    subst hl
    have hR0 : R = [] := (hR [] (by simp) List.Pairwise.nil).symm
    subst hR0
    refine (chosen_nil g gs cb h).mono ?_
    rintro e w' ⟨rfl, h2⟩
    exact ⟨none, 0, rfl, Own.St.rowFresh (as_close (m := none) (fun _ => rfl) h2)⟩
end
end Sto
end Go.Proofs.Ytcfdjoohbicomaa

end
section
namespace Go.Proofs.Ytcfdjoohbicomaa
open Go.RowKit Go.Own Go.Maps
namespace Sto
open Go.StoM Byt
theorem order_k {l m : List Ch} {q : Ch → Bool} (hs : Sorted l) (hp : m.Perm (l.filter q)) (h : m.Pairwise fun a b => ¬ keyCmp b.key a.key < 0) : m = l.filter q := by
  refine filter_eq hs ?_ hp
  have hn : m.Nodup := hp.nodup_iff.2 ((sorted_nodup hs).filter _)
  refine List.Pairwise.imp_of_mem ?_ (h.and hn)
  rintro a b ha hb ⟨h1, h2⟩
  have ha2 := (List.mem_filter.1 (hp.mem_iff.1 ha)).1
  have hb2 := (List.mem_filter.1 (hp.mem_iff.1 hb)).1
  rw [keyCmp_neg] at h1
  rcases less_total a.key b.key with g | g | g
  · exact g
  · exact absurd (key_inj hs ha2 hb2 g) h2
  · exact absurd g h1
theorem info_sumA (cs : List Value) (h : cs.length = 32) : (Try.prog.info? 32).map (·.size) = some cs.length := by
  have h0 : (Try.prog.info? 32).map (fun i => i.size) = some 32 := by kernel_rfl
  rw [h]; exact h0
theorem load_sum (cs : List Value) (hl : cs.length = 32) {o : Oper} {x : Tmp} (ho : o.op = .load 32 (.tmp x)) {b k : Nat} (ρ : Operand → Value) {w : World} (hr : w.rangeAt b k cs) (h0 : ρ (.tmp x) = .pointer (some ⟨b, k, none⟩)) : (execOp ρ o).run Try.prog w = .ok (.value (.agg cs.toArray)) w := by
  have := run_loadAt_mid (P := Try.prog) w b k 32 cs _ hr Try.underlying32 rfl (info_sumA cs hl)
  unfold execOp
  simp only [ho, h0, Sem.run_bind, this, Result.andThen_ok, Sem.run_pure]
section
variable {B : Nat} {w0 w : World} {Ps : List Asn} {p : Nat} {l : List Ch}
/-- the closures -/
theorem all_cl (c : Ch) (w : World) : Calls Try.prog 41 #[chV c] w fun e w' => e = .returned (.bool true) ∧ Below w.heap.size w w' := by
  obtain ⟨cs, hcs⟩ : ∃ x, x = chC c := ⟨_, rfl⟩
  have HB : Hid (Below w.heap.size w (w.alloc (.cells cs.toArray 51))) := ((Own.St.start w).alloc _).below
  show Calls Try.prog _ #[.agg (chC c).toArray] w _
  rw [← hcs]
  clear hcs
  go_enter Try.func41, Try.ntmps41
  go_wp2
  go_ret
  exact ⟨rfl, HB.out⟩
theorem all_any (H : Own.St B w0 w (AS p l :: Ps)) (ok : Ok l) (hn : l.length ≤ 100000) : Calls Try.prog 20 #[ptr p] w fun e w' => ∃ ao c, e = .returned (.slice ao l.length c) ∧ Own.St B w0 w' (ARow 51 37 (.slice ao l.length c) l.length (l.flatMap chC) :: AS p l :: Ps) := by
  have C := Lib.hid (chosen_any 41 42 #[] (fun _ => true) (fun a b => keyCmp a.key b.key) (enters_of Try.func41 (by kernel_rfl) rfl) (enters_of Try.func42 (by kernel_rfl) rfl) swoK byKey_any H ok hn
    (fun c _ _ wx _ => all_cl c wx) l (fun m hp hs => by
      have := order_k ok.sorted hp hs
      rwa [List.filter_eq_self.2 (fun _ _ => rfl)] at this))
  clear H
  go_enter Try.func20, Try.ntmps20
  go_wp2_with (fail)
  refine C.out.mono ?_
  rintro e w1 ⟨ao, c, rfl, h⟩
  have H1 := Lib.hid h
  clear h C
  go_wp2
  go_ret
  exact ⟨ao, c, rfl, H1.out⟩
theorem idx_ch {o : Oper} {x y : Tmp} (ho : o.op = .indexAddr 27 (.tmp x) (.tmp y)) {g n c k : Nat} (hk : k < n) (ρ : Operand → Value) (w : World) (h0 : ρ (.tmp x) = .slice (some ⟨g, 0, none⟩) n c) (h1 : ρ (.tmp y) = .int .i64 (k : Int)) : (execOp ρ o).run Try.prog w = .ok (.value (.pointer (some ⟨g, k * 37, none⟩))) w := by
  have hk' : (k : Int) < (n : Int) := by omega
  have hs : ∀ w, (sizeOf 51).run Try.prog w = .ok 37 w := fun w => by kernel_rfl
  simp [execOp, ho, h0, h1, go_sem, hk', add_of, hs]
end
end Sto
end Go.Proofs.Ytcfdjoohbicomaa

end
section
namespace Go.Proofs.Ytcfdjoohbicomaa
open Go.RowKit Go.Own Go.Maps
namespace Sto
open Go.StoM Byt
/-- the store of some chunks, behind others -/
def loadF : List Ch → List Ch → Option (List Ch)
  | acc, [] => some acc
  | acc, c :: r => if isAt acc c.key || decide (c.refs < 1) then none else loadF (putS acc c) r
/-- what Load leaves -/
def LoadDone (B : Nat) (w0 : World) (Ps : List Asn) (row : Asn) (X : Option (List Ch)) (e : Ending) (w' : World) : Prop := match X with
  | some l => ∃ p, e = .returned (.tuple #[ptr p, errS 0]) ∧ Own.St B w0 w' (AS p l :: row :: Ps)
  | none => e = .returned (.tuple #[.pointer none, errS 1]) ∧ Own.St B w0 w' (row :: Ps)
section
variable {B : Nat} {w0 w : World} {Ps : List Asn} {p : Nat} {l : List Ch}
set_option maxRecDepth 10000 in
set_option maxHeartbeats 6400000 in
theorem load_any (L : List Ch) (hf : ∀ c ∈ L, Fit c) (ao : Option Addr) (n cap : Nat) (hl : L.length = n) (hn : n ≤ 10000) (H : Own.St B w0 w (ARow 51 37 (.slice ao n cap) n (L.flatMap chC) :: Ps)) :
    Calls Try.prog 16 #[.slice ao n cap] w fun e w' => LoadDone B w0 Ps (ARow 51 37 (.slice ao n cap) n (L.flatMap chC)) (loadF [] L) e w' := by
  obtain ⟨X, hX⟩ : ∃ X, X = loadF [] L := ⟨_, rfl⟩
  rw [← hX]
  have HX := Lib.hid hX
  have HL := Lib.hid hl
  have HF := Lib.hid hf
  have CN := Lib.hid (new_any H)
  clear hX H hl hf
  go_enter Try.func16, Try.ntmps16
  go_wp2_with (fail)
  refine CN.out.mono ?_
  rintro e w1 ⟨p, rfl, h1⟩
  have H1 := Lib.hid h1
  clear h1 CN
  go_wp2_with (fail)
  go_loopw [12] (fun v12 wr => ∃ (i : Nat) (acc : List Ch), i ≤ n ∧ v12 = .int .i64 (i : Int) ∧ Own.St B w0 wr (AS p acc :: ARow 51 37 (.slice ao n cap) n (L.flatMap chC) :: Ps) ∧ Ok acc ∧ acc.length ≤ i ∧ loadF [] L = loadF acc (L.drop i)) (fun v12 _ => n - (intOf v12).toNat)
  case atStart => exact ⟨0, [], Nat.zero_le _, rfl, H1.out, ok_nil, Nat.le_refl _, rfl⟩
  case round =>
    obtain ⟨i, acc, hin, rfl, hst, hok, hal, hx⟩ := hrel
    have H := Lib.hid hst
    have HC := Lib.hid hx
    have OK := Lib.hid hok
    have HAL := Lib.hid hal
    clear hst hx hok hal H1
    by_cases hi : (i : Int) < (n : Int)
    · have hin2 : i < n := by omega
      have hil : i < L.length := by rw [HL.out]; exact hin2
      obtain ⟨g, hg, _, _⟩ := H.out.rowAt 1 rfl (i * 37) (by omega)
      subst hg
      obtain ⟨c, hc⟩ : ∃ c, c = L[i] := ⟨_, rfl⟩
      have hcm : c ∈ L := by rw [hc]; exact List.getElem_mem hil
      have hfc := HF.out c hcm
      obtain ⟨cs, hcs⟩ : ∃ x, x = chC c := ⟨_, rfl⟩
      obtain ⟨kc, hkc⟩ : ∃ x, x = kC c.key := ⟨_, rfl⟩
      have CL : Hid (cs.length = 37) := by show _ = _; rw [hcs]; exact chC_len hfc.key
      have KL : Hid (kc.length = 33) := by show _ = _; rw [hkc]; exact kC_len hfc.key
      have CO : Hid (∀ u ∈ cs, u.oneCell' = true) := by show ∀ u ∈ cs, _; rw [hcs]; exact chC_one _
      have RG : Hid (wr.rangeAt g (i * 37) cs) := by
        intro k u hu
        have hk : k < 37 := by rw [← CL.out]; exact (List.getElem?_eq_some_iff.1 hu).1
        obtain ⟨g', hg', ⟨u', h1, h2⟩, _⟩ := H.out.rowAt 1 rfl (i * 37 + k) (by omega)
        cases hg'
        rw [flat_at chC 37 L (fun c hc => chC_len (HF.out c hc).key) i c (by rw [hc]; exact List.getElem?_eq_getElem hil) k hk, ← hcs, hu] at h1
        cases h1
        exact h2
      have KR : Hid (∀ {b : Nat} {Qs : List Asn} (wx : World), Own.St B w0 wx (AVals b 51 cs :: Qs) → wx.rangeAt b 0 kc) := fun {b Qs} wx h j v hv => by
        rw [Nat.zero_add]
        exact (h.cellV 0 rfl j (by rw [hcs]; exact chC_key hfc.key j v (by rw [← hkc]; exact hv))).1
      obtain ⟨rf, hrf⟩ : ∃ x, x = c.refs := ⟨_, rfl⟩
      have C36 : Hid (cs[36]? = some (iS rf)) := by show _ = _; rw [hcs, hrf]; exact chC_rest hfc.key 3
      obtain ⟨F, hF⟩ : ∃ x, x = chC (getS acc c.key) := ⟨_, rfl⟩
      have FL : Hid (F.length = 37) := by show _ = _; rw [hF]; exact chC_len (getS_fit OK.out _).key
      have FO : Hid (∀ u ∈ F, u.oneCell' = true) := by show ∀ u ∈ F, _; rw [hF]; exact chC_one _
      obtain ⟨is, his⟩ : ∃ x, x = isAt acc c.key := ⟨_, rfl⟩
      have CG : Hid (∀ {Qs : List Asn} (wx : World), Own.St B w0 wx (AS p acc :: Qs) → Calls Try.prog 18 #[ptr p, .agg kc.toArray] wx fun e w' => e = .returned (.tuple #[.agg F.toArray, .bool is]) ∧ Below wx.heap.size wx w') := by
        rw [hkc, hF, his]
        exact fun {Qs} wx h => get_any h OK.out hfc.key
      have CP : Hid (∀ {Qs : List Asn} (wx : World), Own.St B w0 wx (AS p acc :: Qs) → Calls Try.prog 35 #[ptr p, .agg cs.toArray] wx fun e w' => e = .returned (.tuple #[]) ∧ Own.St B w0 w' (AS p (putS acc c) :: Qs)) := by
        rw [hcs]
        exact fun {Qs} wx h => put_any h OK.out (by have := HAL.out; omega) hfc
      have HNX : Hid (loadF [] L = if is || decide (rf < 1) then none else loadF (putS acc c) (L.drop (i + 1))) := by
        show _ = _
        rw [HC.out, List.drop_eq_getElem_cons hil, ← hc, his, hrf]
        rfl
      have OK2 := Lib.hid (ok_put OK.out hfc)
      have LN2 : Hid ((putS acc c).length ≤ i + 1) := by
        show _ ≤ _
        rw [putS_len]
        have := HAL.out
        split <;> omega
      clear hc hcm hfc hcs hkc hrf hF his HC hil
      go_wp2_with (first
        | (refine wpList_val rfl (idx_ch rfl hin2 _ _ rfl rfl) ?_)
        | (refine wpList_val rfl (load_ch cs CL.out rfl _ (b := g) (k := i * 37) RG.out rfl) ?_)
        | (refine wpList_box2 boxy_ch rfl rfl rfl (.tmp 6) (.tmp 15) rfl rfl cs (fun _ => rfl) (fun _ => rfl) CL.out CO.out H.out ?_; intro b6 w3 h; have H3 := Lib.hid h; clear h)
        | (refine wpList_val rfl (Rec.load_key kc KL.out rfl _ (b := b6) (k := 0) (KR.out w3 H3.out) rfl) ?_))
      refine (CG.out w3 (H3.out.swap2)).mono ?_
      rintro e w4 ⟨rfl, h4⟩
      have H4 := Lib.hid (H3.out.later h4)
      clear h4 CG H3 H KR RG
      cases is with
      | true =>
        have HXN : Hid (X = none) := by
          show _ = _
          rw [HX.out, HNX.out]
          rfl
        go_wp2_with (refine wpList_box2 boxy_ch rfl rfl rfl (.tmp 7) (.tmp 21) rfl rfl F (fun _ => rfl) (fun _ => rfl) FL.out FO.out H4.out ?_; intro b7 w5 h; have H5 := Lib.hid h; clear h)
        go_ret2
        rw [HXN.out]
        exact ⟨rfl, H5.out.drop 3⟩
      | false =>
        by_cases hr : rf < 1
        · have HXN : Hid (X = none) := by
            show _ = _
            rw [HX.out, HNX.out, decide_eq_true hr]
            rfl
          go_wp2_with (refine wpList_box2 boxy_ch rfl rfl rfl (.tmp 7) (.tmp 21) rfl rfl F (fun _ => rfl) (fun _ => rfl) FL.out FO.out H4.out ?_; intro b7 w5 h; have q0 := (h.cellV 1 rfl 36 (v := .int .i64 rf) C36.out).1; have H5 := Lib.hid h; clear h)
          go_ret2
          rw [HXN.out]
          exact ⟨rfl, H5.out.drop 3⟩
        · have HNY : Hid (loadF [] L = loadF (putS acc c) (L.drop (i + 1))) := by
            show _ = _
            rw [HNX.out, decide_eq_false hr]
            rfl
          go_wp2_with (first
            | (refine wpList_box2 boxy_ch rfl rfl rfl (.tmp 7) (.tmp 21) rfl rfl F (fun _ => rfl) (fun _ => rfl) FL.out FO.out H4.out ?_; intro b7 w5 h; have q0 := (h.cellV 1 rfl 36 (v := .int .i64 rf) C36.out).1; have H5 := Lib.hid h; clear h)
            | (refine wpList_val rfl (load_ch cs CL.out rfl _ (b := b6) (k := 0) (H5.out.boxRange 1 rfl) rfl) ?_))
          refine (CP.out _ (H5.out.perm (rot2 _ _ _ _))).mono ?_
          rintro e w6 ⟨rfl, h6⟩
          have H6 := Lib.hid (tail2 h6)
          clear h6 CP H5 H4
          go_wp2_with (fail)
          go_roundw
          case rel => exact ⟨i + 1, putS acc c, by omega, by go_num, H6.out, OK2.out, LN2.out, HNY.out⟩
          case measure => simp [intOf]; omega
    · have hi2 : i = n := by omega
      subst hi2
      have HXS : Hid (X = some acc) := by
        show _ = _
        rw [HX.out, HC.out, ← HL.out, List.drop_length]
        rfl
      clear HC
      go_wp2_with (fail)
      go_ret2
      rw [HXS.out]
      exact ⟨p, rfl, H.out⟩
end
end Sto
end Go.Proofs.Ytcfdjoohbicomaa

end
section
namespace Go.Proofs.Ytcfdjoohbicomaa
open Go.RowKit Go.Own Go.Maps
namespace Sto
open Go.StoM Byt
set_option maxRecDepth 10000 in
theorem nil_get {k : Ky} (hk : FitK k) (w : World) : Calls Try.prog 18 #[.pointer none, kV k] w fun e w' => e = .returned (.tuple #[chV zeroCh, .bool false]) ∧ Below w.heap.size w w' := by
  obtain ⟨kc, hkc⟩ : ∃ c, c = kC k := ⟨_, rfl⟩
  obtain ⟨z, hz⟩ : ∃ z, z = zC := ⟨_, rfl⟩
  have ZL : Hid (z.length = 37) := by show z.length = 37; rw [hz]; exact zC_len
  have ZP : Hid ((Try.prog.info? 51).bind (·.zero) = some (.agg z.toArray)) := by rw [hz]; exact zero_ch
  have ZB : Hid (Try.prog.built 51 [] = some z.toArray) := by rw [hz]; exact built_ch
  have ZO : Hid (z.toArray.all (·.oneCell') = true) := by show _ = true; rw [hz]; exact all_oneCell_toArray (chC_one _)
  have hb1 := (Own.St.start w).boxV 35 kc
  obtain ⟨W1, hW1⟩ : ∃ W, W = w.alloc (.cells kc.toArray 35) := ⟨_, rfl⟩
  rw [← hW1] at hb1
  have hb2 := hb1.boxV 51 z
  obtain ⟨b4, hb4⟩ : ∃ b, b = W1.heap.size := ⟨_, rfl⟩
  obtain ⟨W2, hW2⟩ : ∃ W, W = W1.alloc (.cells z.toArray 51) := ⟨_, rfl⟩
  rw [← hb4, ← hW2] at hb2
  have hs := ch_store hb2 0 rfl ZL.out z ZL.out
  obtain ⟨W3, hW3⟩ : ∃ W, W = W2.setCells b4 0 z.toArray.toList := ⟨_, rfl⟩
  rw [← hW3] at hs
  have TH := Lib.hid hs.1
  have H3 := Lib.hid hs.2
  have E1 := hW1.symm
  have HB4 := Lib.hid hb4
  have HW2 := Lib.hid hW2
  have HW3 := Lib.hid hW3
  have IW := Lib.hid (info_chA z ZL.out)
  show Calls Try.prog _ #[_, .agg (kC k).toArray] w fun e w' => e = .returned (.tuple #[.agg zC.toArray, _]) ∧ _
  rw [← hkc, ← hz]
  clear hkc hz hb1 hW1 hb2 hb4 hW2 hs hW3 hk
  go_enter Try.func18, Try.ntmps18
  go_wp2_with (first
    | (refine Own.wpList_allocZ rfl 51 rfl z.toArray ZP.out ?_; rw [← HB4.out, ← HW2.out])
    | (refine Own.wpList_built rfl 51 #[] rfl z.toArray ?_ ?_; · (simp only [List.map_toArray, List.map_nil, List.toList_toArray]; exact ZB.out))
    | (refine wpList_store_mid rfl 51 (.tmp 4) (.tmp 10) rfl b4 0 z.toArray rfl rfl TH.out IW.out ZO.out ?_; rw [← HW3.out]))
  refine bodyPost_ret (results_cell_two rfl _ _ b4 51 _ (0, 0) _ _ rfl rfl (H3.out.rowV 0 rfl) Try.underlying51 rfl (info_ch z ZL.out)) rfl ?_
  exact ⟨rfl, H3.out.below⟩
theorem nil_add {k : Ky} {q : Pl} (w : World) : Calls Try.prog 25 #[.pointer none, kV k, pV q] w fun e w' => e = .returned (errS 2) ∧ Below w.heap.size w w' := by
  obtain ⟨kc, hkc⟩ : ∃ c, c = kC k := ⟨_, rfl⟩
  obtain ⟨qc, hqc⟩ : ∃ c, c = pC q := ⟨_, rfl⟩
  show Calls Try.prog _ #[_, .agg (kC k).toArray, .agg (pC q).toArray] w _
  rw [← hkc, ← hqc]
  have HB : Hid (Below w.heap.size w ((w.alloc (.cells kc.toArray 35)).alloc (.cells qc.toArray 37))) := (((Own.St.start w).alloc _).alloc _).below
  clear hkc hqc
  go_enter Try.func25, Try.ntmps25
  go_wp2
  go_ret
  exact ⟨rfl, HB.out⟩
set_option maxRecDepth 10000 in
theorem nil_ref {k : Ky} (hk : FitK k) (w : World) : Calls Try.prog 26 #[.pointer none, kV k] w fun e w' => e = .returned (errS 2) ∧ Below w.heap.size w w' := by
  obtain ⟨kc, hkc⟩ : ∃ c, c = kC k := ⟨_, rfl⟩
  obtain ⟨z, hz⟩ : ∃ z, z = zC := ⟨_, rfl⟩
  have ZL : Hid (z.length = 37) := by show z.length = 37; rw [hz]; exact zC_len
  have ZO : Hid (∀ u ∈ z, u.oneCell' = true) := by show ∀ u ∈ z, _; rw [hz]; exact chC_one _
  have KL : Hid (kc.length = 33) := by show _ = _; rw [hkc]; exact kC_len hk
  have CG : Hid (∀ wx, Calls Try.prog 18 #[.pointer none, .agg kc.toArray] wx fun e w' => e = .returned (.tuple #[.agg z.toArray, .bool false]) ∧ Below wx.heap.size wx w') := by
    rw [hkc, hz]
    exact fun wx => nil_get hk wx
  have hb1 := (Own.St.start w).boxV 35 kc
  obtain ⟨bk, hbk⟩ : ∃ b, b = w.heap.size := ⟨_, rfl⟩
  obtain ⟨W1, hW1⟩ : ∃ W, W = w.alloc (.cells kc.toArray 35) := ⟨_, rfl⟩
  rw [← hW1] at hb1
  have H1 : Hid (Own.St w.heap.size w W1 [AVals bk 35 kc]) := by rw [hbk]; exact hb1
  have E1 := hW1.symm
  have EK := hbk.symm
  show Calls Try.prog _ #[_, .agg (kC k).toArray] w _
  rw [← hkc]
  clear hkc hz hb1 hbk hW1 hk
  go_enter Try.func26, Try.ntmps26
  go_wp2_with (refine wpList_val rfl (Rec.load_key kc KL.out rfl _ (b := bk) (k := 0) (H1.out.boxRange 0 rfl) rfl) ?_)
  refine (CG.out _).mono ?_
  rintro e w2 ⟨rfl, h2⟩
  have H2 := Lib.hid (H1.out.later h2)
  clear h2 CG
  go_wp2_with (refine wpList_box2 boxy_ch rfl rfl rfl (.tmp 5) (.tmp 11) rfl rfl z (fun _ => rfl) (fun _ => rfl) ZL.out ZO.out H2.out ?_; intro b7 w3 h; have H3 := Lib.hid h; clear h)
  go_ret
  exact ⟨rfl, H3.out.below⟩
set_option maxRecDepth 10000 in
theorem nil_unref {k : Ky} (hk : FitK k) (w : World) : Calls Try.prog 27 #[.pointer none, kV k] w fun e w' => e = .returned (.tuple #[.bool false, errS 2]) ∧ Below w.heap.size w w' := by
  obtain ⟨kc, hkc⟩ : ∃ c, c = kC k := ⟨_, rfl⟩
  obtain ⟨z, hz⟩ : ∃ z, z = zC := ⟨_, rfl⟩
  have ZL : Hid (z.length = 37) := by show z.length = 37; rw [hz]; exact zC_len
  have ZO : Hid (∀ u ∈ z, u.oneCell' = true) := by show ∀ u ∈ z, _; rw [hz]; exact chC_one _
  have KL : Hid (kc.length = 33) := by show _ = _; rw [hkc]; exact kC_len hk
  have CG : Hid (∀ wx, Calls Try.prog 18 #[.pointer none, .agg kc.toArray] wx fun e w' => e = .returned (.tuple #[.agg z.toArray, .bool false]) ∧ Below wx.heap.size wx w') := by
    rw [hkc, hz]
    exact fun wx => nil_get hk wx
  have hb1 := (Own.St.start w).boxV 35 kc
  obtain ⟨bk, hbk⟩ : ∃ b, b = w.heap.size := ⟨_, rfl⟩
  obtain ⟨W1, hW1⟩ : ∃ W, W = w.alloc (.cells kc.toArray 35) := ⟨_, rfl⟩
  rw [← hW1] at hb1
  have H1 : Hid (Own.St w.heap.size w W1 [AVals bk 35 kc]) := by rw [hbk]; exact hb1
  have E1 := hW1.symm
  have EK := hbk.symm
  show Calls Try.prog _ #[_, .agg (kC k).toArray] w _
  rw [← hkc]
  clear hkc hz hb1 hbk hW1 hk
  go_enter Try.func27, Try.ntmps27
  go_wp2_with (refine wpList_val rfl (Rec.load_key kc KL.out rfl _ (b := bk) (k := 0) (H1.out.boxRange 0 rfl) rfl) ?_)
  refine (CG.out _).mono ?_
  rintro e w2 ⟨rfl, h2⟩
  have H2 := Lib.hid (H1.out.later h2)
  clear h2 CG
  go_wp2_with (refine wpList_box2 boxy_ch rfl rfl rfl (.tmp 6) (.tmp 12) rfl rfl z (fun _ => rfl) (fun _ => rfl) ZL.out ZO.out H2.out ?_; intro b7 w3 h; have H3 := Lib.hid h; clear h)
  go_ret2
  exact ⟨rfl, H3.out.below⟩
set_option maxRecDepth 10000 in
theorem nil_move {k : Ky} (hk : FitK k) (q : Pl) (w : World) : Calls Try.prog 24 #[.pointer none, kV k, pV q] w fun e w' => e = .returned (errS 2) ∧ Below w.heap.size w w' := by
  obtain ⟨kc, hkc⟩ : ∃ c, c = kC k := ⟨_, rfl⟩
  obtain ⟨z, hz⟩ : ∃ z, z = zC := ⟨_, rfl⟩
  have ZL : Hid (z.length = 37) := by show z.length = 37; rw [hz]; exact zC_len
  have ZO : Hid (∀ u ∈ z, u.oneCell' = true) := by show ∀ u ∈ z, _; rw [hz]; exact chC_one _
  have KL : Hid (kc.length = 33) := by show _ = _; rw [hkc]; exact kC_len hk
  have CG : Hid (∀ wx, Calls Try.prog 18 #[.pointer none, .agg kc.toArray] wx fun e w' => e = .returned (.tuple #[.agg z.toArray, .bool false]) ∧ Below wx.heap.size wx w') := by
    rw [hkc, hz]
    exact fun wx => nil_get hk wx
  obtain ⟨qc, hqc⟩ : ∃ c, c = pC q := ⟨_, rfl⟩
  have hb0 := (Own.St.start w).boxV 35 kc
  obtain ⟨bk, hbk⟩ : ∃ b, b = w.heap.size := ⟨_, rfl⟩
  obtain ⟨W0, hW0⟩ : ∃ W, W = w.alloc (.cells kc.toArray 35) := ⟨_, rfl⟩
  rw [← hW0] at hb0
  have hb1 := hb0.boxV 37 qc
  obtain ⟨bq, hbq⟩ : ∃ b, b = W0.heap.size := ⟨_, rfl⟩
  obtain ⟨W1, hW1⟩ : ∃ W, W = W0.alloc (.cells qc.toArray 37) := ⟨_, rfl⟩
  rw [← hW1] at hb1
  have H1 : Hid (Own.St w.heap.size w W1 [AVals bq 37 qc, AVals bk 35 kc]) := by rw [hbk, hbq]; exact hb1
  have E0 := hW0.symm
  have E1 := hW1.symm
  have EK := hbk.symm
  have EQ := hbq.symm
  show Calls Try.prog _ #[_, .agg (kC k).toArray, .agg (pC q).toArray] w _
  rw [← hkc, ← hqc]
  clear hkc hz hb0 hb1 hbk hW0 hW1 hbq hqc hk
  go_enter Try.func24, Try.ntmps24
  go_wp2_with (refine wpList_val rfl (Rec.load_key kc KL.out rfl _ (b := bk) (k := 0) (H1.out.boxRange 1 rfl) rfl) ?_)
  refine (CG.out _).mono ?_
  rintro e w2 ⟨rfl, h2⟩
  have H2 := Lib.hid (H1.out.later h2)
  clear h2 CG
  go_wp2_with (refine wpList_box2 boxy_ch rfl rfl rfl (.tmp 7) (.tmp 13) rfl rfl z (fun _ => rfl) (fun _ => rfl) ZL.out ZO.out H2.out ?_; intro b7 w3 h; have H3 := Lib.hid h; clear h)
  go_ret
  exact ⟨rfl, H3.out.below⟩
theorem nil_chosen (g gs : Nat) (cb : Array Value) (w : World) : Calls Try.prog 38 #[.pointer none, .func (.func g) #[] cb, .func (.func gs) #[] #[]] w fun e w' => e = .returned (.slice none 0 0) ∧ w = w' := by
  go_enter Try.func38, Try.ntmps38
  go_wp2
  go_ret
  exact ⟨rfl, rfl⟩
theorem nil_all (w : World) : Calls Try.prog 20 #[.pointer none] w fun e w' => e = .returned (.slice none 0 0) ∧ Below w.heap.size w w' := by
  have C := Lib.hid (nil_chosen 41 42 #[] w)
  go_enter Try.func20, Try.ntmps20
  go_wp2_with (fail)
  refine C.out.mono ?_
  rintro e w1 ⟨rfl, rfl⟩
  go_wp2
  go_ret
  exact ⟨rfl, Below.refl _ _⟩
theorem nil_twins (d : List UInt8) (w : World) : Calls Try.prog 21 #[.pointer none, .agg (d.map byteV).toArray] w fun e w' => e = .returned (.slice none 0 0) ∧ Below w.heap.size w w' := by
  obtain ⟨ds, hds⟩ : ∃ x, x = d.map byteV := ⟨_, rfl⟩
  rw [← hds]
  have C := Lib.hid (nil_chosen 43 42 #[ptr w.heap.size] (w.alloc (.cells ds.toArray 32)))
  have HB : Hid (Below w.heap.size w (w.alloc (.cells ds.toArray 32))) := ((Own.St.start w).alloc _).below
  clear hds
  go_enter Try.func21, Try.ntmps21
  go_wp2_with (fail)
  refine C.out.mono ?_
  rintro e w1 ⟨rfl, rfl⟩
  go_wp2
  go_ret
  exact ⟨rfl, HB.out⟩
theorem nil_live (seg : Int) (w : World) : Calls Try.prog 19 #[.pointer none, iS seg] w fun e w' => e = .returned (.tuple #[.slice none 0 0, iS 0]) ∧ Below w.heap.size w w' := by
  have C := Lib.hid (nil_chosen 39 40 #[ptr w.heap.size] (w.alloc (.cells #[.int .i64 seg] 3)))
  have HB : Hid (Below w.heap.size w (w.alloc (.cells #[.int .i64 seg] 3))) := ((Own.St.start w).alloc _).below
  go_enter Try.func19, Try.ntmps19
  go_wp2_with (fail)
  refine C.out.mono ?_
  rintro e w1 ⟨rfl, rfl⟩
  clear C
  have d0 : decide ((0 : Int) < 0) = false := rfl
  go_wp2
  go_loopw [7, 15] (fun v7 v15 wr => v7 = .int .i64 0 ∧ v15 = .int .i64 0 ∧ wr = w.alloc (.cells #[.int .i64 seg] 3)) (fun _ _ _ => 0)
  case atStart => exact ⟨rfl, rfl, rfl⟩
  case round =>
    obtain ⟨rfl, rfl, rfl⟩ := hrel
    go_wp2
    go_ret2
    exact ⟨rfl, HB.out⟩
end Sto
end Go.Proofs.Ytcfdjoohbicomaa

end
section
namespace Go.Proofs.Ytcfdjoohbicomaa
open Go.RowKit Go.Own Go.Maps
namespace Sto
open Go.StoM Byt
def actC (a : ActD) : List Value := .int .u8 (a.kind.toNat : Int) :: (kC a.k ++ pC a.p)
structure FitA (a : ActD) : Prop where
  k : FitK a.k
  p : FitP a.p
theorem actC_len {a : ActD} (h : FitA a) : (actC a).length = 37 := by unfold actC; simp [kC_len h.k, pC]
theorem actC_one (a : ActD) : ∀ u ∈ actC a, u.oneCell' = true := by
  intro u hu
  unfold actC pC at hu
  simp only [List.mem_cons, List.mem_append, List.not_mem_nil, or_false] at hu
  rcases hu with rfl | h | rfl | rfl | rfl
  · rfl
  · exact kC_one _ u h
  all_goals rfl
theorem info_act (cs : List Value) (h : cs.length = 37) : (Try.prog.info? 39).map (·.size) = some cs.length := by
  have h0 : (Try.prog.info? 39).map (fun i => i.size) = some 37 := by kernel_rfl
  rw [h]; exact h0
theorem load_act (cs : List Value) (hl : cs.length = 37) {o : Oper} {x : Tmp} (ho : o.op = .load 39 (.tmp x)) {b k : Nat} (ρ : Operand → Value) {w : World} (hr : w.rangeAt b k cs) (h0 : ρ (.tmp x) = .pointer (some ⟨b, k, none⟩)) : (execOp ρ o).run Try.prog w = .ok (.value (.agg cs.toArray)) w := by
  have := run_loadAt_mid (P := Try.prog) w b k 39 cs _ hr Try.underlying39 rfl (info_act cs hl)
  unfold execOp
  simp only [ho, h0, Sem.run_bind, this, Result.andThen_ok, Sem.run_pure]
def zA : ActD := ⟨0, zeroCh.key, zeroCh.place⟩
theorem boxy_act : Boxy Try.prog 39 37 := boxy_of (actC zA).toArray (by kernel_rfl) (by kernel_rfl) (by kernel_rfl)
theorem idx_act {o : Oper} {x y : Tmp} (ho : o.op = .indexAddr 22 (.tmp x) (.tmp y)) {b o' n c k : Nat} (hk : k < n) (ρ : Operand → Value) (w : World) (h0 : ρ (.tmp x) = .slice (some ⟨b, o', none⟩) n c) (h1 : ρ (.tmp y) = .int .i64 (k : Int)) : (execOp ρ o).run Try.prog w = .ok (.value (.pointer (some ⟨b, o' + k * 37, none⟩))) w := by
  have hk' : (k : Int) < (n : Int) := by omega
  have hs : ∀ w, (sizeOf 39).run Try.prog w = .ok 37 w := fun w => by kernel_rfl
  simp [execOp, ho, h0, h1, go_sem, hk', add_of, hs]
theorem actC_key {a : ActD} (j : Nat) (u : Value) (hu : (kC a.k)[j]? = some u) : (actC a)[1 + j]? = some u := by
  unfold actC
  rw [Nat.add_comm, List.getElem?_cons_succ, List.getElem?_append_left (List.getElem?_eq_some_iff.1 hu).1]
  exact hu
theorem actC_pl {a : ActD} (h : FitA a) (j : Nat) : (actC a)[34 + j]? = (pC a.p)[j]? := by
  unfold actC
  rw [show 34 + j = (33 + j) + 1 by omega, List.getElem?_cons_succ, List.getElem?_append_right (by rw [kC_len h.k]; omega), kC_len h.k]
  congr 1
  omega
/-- the bounds of what some acts leave -/
structure Lim (l : List Ch) (N : Nat) : Prop where
  len : l.length ≤ N
  refs : ∀ c ∈ l, 1 ≤ c.refs ∧ c.refs ≤ N
theorem Lim.more {l : List Ch} {N M : Nat} (h : Lim l N) (hm : N ≤ M) : Lim l M := ⟨Nat.le_trans h.len hm, fun c hc => ⟨(h.refs c hc).1, by have := (h.refs c hc).2; omega⟩⟩
theorem lim_put {l : List Ch} {N : Nat} (ok : Ok l) (h : Lim l N) {c : Ch} (hr : 1 ≤ c.refs ∧ c.refs ≤ (N : Int) + 1) : Lim (putS l c) (N + 1) := by
  refine ⟨?_, fun d hd => ?_⟩
  · rw [putS_len]
    have := h.len
    split <;> omega
  · rcases (mem_putS ok.sorted).1 hd with g | g
    · have := h.refs d g.1
      exact ⟨this.1, by have := this.2; omega⟩
    · rw [g]; exact ⟨hr.1, by have := hr.2; omega⟩
theorem ok_erase {l : List Ch} (ok : Ok l) (i : Nat) : Ok (l.eraseIdx i) := ⟨sorted_erase ok.sorted i, fun c hc => ok.fit c ((List.eraseIdx_sublist _ _).subset hc)⟩
theorem lim_erase {l : List Ch} {N : Nat} (h : Lim l N) (i : Nat) : Lim (l.eraseIdx i) (N + 1) := by
  refine ⟨?_, fun c hc => ?_⟩
  · have := h.len
    have := (List.eraseIdx_sublist l i).length_le
    omega
  · have := h.refs c ((List.eraseIdx_sublist _ _).subset hc)
    exact ⟨this.1, by have := this.2; omega⟩
theorem get_lim {l : List Ch} {N : Nat} (h : Lim l N) {k : Ky} (hk : isAt l k = true) : 1 ≤ (getS l k).refs ∧ (getS l k).refs ≤ N := by
  rw [getS_at hk]
  exact h.refs _ (at_mem hk).1
theorem get_key {l : List Ch} {k : Ky} (hk : isAt l k = true) : (getS l k).key = k := by rw [getS_at hk]; exact (at_mem hk).2
theorem fit_wR {l : List Ch} (ok : Ok l) (k : Ky) {x : Int} (hx : i64S x) : Fit (wR (getS l k) x) := ⟨(getS_fit ok k).key, (getS_fit ok k).place, hx⟩
theorem act_ok {l : List Ch} {N : Nat} (ok : Ok l) (h : Lim l N) (hN : N ≤ 1000000) {a : ActD} (fa : FitA a) : Ok (doAct l a).1 ∧ Lim (doAct l a).1 (N + 1) := by
  unfold doAct
  split
  · simp only
    rw [addS_fst]
    split
    · exact ⟨ok, h.more (Nat.le_succ _)⟩
    · exact ⟨ok_put ok ⟨fa.k, fa.p, ⟨by show (-9223372036854775808 : Int) ≤ 1; decide, by show (1 : Int) ≤ 9223372036854775807; decide⟩⟩, lim_put ok h ⟨by show (1 : Int) ≤ 1; decide, by show (1 : Int) ≤ N + 1; omega⟩⟩
  · simp only
    cases hk : isAt l a.k
    · rw [refS_no hk]; exact ⟨ok, h.more (Nat.le_succ _)⟩
    · rw [refS_yes hk]
      have := get_lim h hk
      exact ⟨ok_put ok (fit_wR ok _ ⟨by omega, by omega⟩), lim_put ok h ⟨by show 1 ≤ (getS l a.k).refs + 1; omega, by show (getS l a.k).refs + 1 ≤ _; omega⟩⟩
  · cases hk : isAt l a.k
    · rw [unrefS_no hk]; exact ⟨ok, h.more (Nat.le_succ _)⟩
    · have := get_lim h hk
      by_cases h2 : (getS l a.k).refs - 1 > 0
      · rw [unrefS_more hk h2]
        exact ⟨ok_put ok (fit_wR ok _ ⟨by omega, by omega⟩), lim_put ok h ⟨by show 1 ≤ (getS l a.k).refs - 1; omega, by show (getS l a.k).refs - 1 ≤ _; omega⟩⟩
      · rw [unrefS_last hk h2]
        exact ⟨ok_erase ok _, lim_erase h _⟩
  · simp only
    cases hk : isAt l a.k
    · rw [moveS_no hk]; exact ⟨ok, h.more (Nat.le_succ _)⟩
    · rw [moveS_yes hk]
      have := get_lim h hk
      have hf := getS_fit ok a.k
      exact ⟨ok_put ok ⟨hf.key, fa.p, hf.refs⟩, lim_put ok h ⟨this.1, by have := this.2; show (getS l a.k).refs ≤ _; omega⟩⟩
theorem act_add {l : List Ch} {a : ActD} (h : a.kind.toNat % 4 = 0) : doAct l a = ((addS l a.k a.p).1, false, (addS l a.k a.p).2) := by unfold doAct; rw [h]; rfl
theorem act_ref {l : List Ch} {a : ActD} (h : a.kind.toNat % 4 = 1) : doAct l a = ((refS l a.k).1, false, (refS l a.k).2) := by unfold doAct; rw [h]; rfl
theorem act_unref {l : List Ch} {a : ActD} (h : a.kind.toNat % 4 = 2) : doAct l a = unrefS l a.k := by unfold doAct; rw [h]; rfl
theorem act_move {l : List Ch} {a : ActD} (h : a.kind.toNat % 4 = 3) : doAct l a = ((moveS l a.k a.p).1, false, (moveS l a.k a.p).2) := by unfold doAct; rw [h]; rfl
def actV (x : List Ch × Bool × Nat) : Value := .tuple #[.bool x.2.1, errS x.2.2]
section
variable {B : Nat} {w0 w : World} {Ps : List Asn} {p : Nat} {l : List Ch} {N : Nat}
set_option maxRecDepth 10000 in
set_option maxHeartbeats 6400000 in
theorem does_any (H : Own.St B w0 w (AS p l :: Ps)) (ok : Ok l) (lim : Lim l N) (hN : N ≤ 100000) (a : ActD) (fa : FitA a) : Calls Try.prog 13 #[ptr p, .agg (actC a).toArray] w fun e w' => e = .returned (actV (doAct l a)) ∧ Own.St B w0 w' (AS p (doAct l a).1 :: Ps) := by
  obtain ⟨cs, hcs⟩ : ∃ x, x = actC a := ⟨_, rfl⟩
  obtain ⟨kc, hkc⟩ : ∃ x, x = kC a.k := ⟨_, rfl⟩
  have KL : Hid (kc.length = 33) := by show _ = _; rw [hkc]; exact kC_len fa.k
  obtain ⟨qs, hqs⟩ : ∃ x, x = a.p.seg := ⟨_, rfl⟩
  obtain ⟨qg, hqg⟩ : ∃ x, x = a.p.page := ⟨_, rfl⟩
  obtain ⟨qn, hqn⟩ : ∃ x, x = a.p.pages := ⟨_, rfl⟩
  obtain ⟨kd, hkd⟩ : ∃ x, x = a.kind.toNat := ⟨_, rfl⟩
  obtain ⟨r, hr⟩ : ∃ r, r = kd % 4 := ⟨_, rfl⟩
  have hr4 : r < 4 := by omega
  have hri : (kd : Int) % 4 = (r : Int) := by omega
  have hkb : kd < 256 := by rw [hkd]; exact a.kind.toNat_lt
  have hbox := (H.boxV 39 cs)
  obtain ⟨X, hX⟩ : ∃ X, X = doAct l a := ⟨_, rfl⟩
  rw [← hX]
  have HX := Lib.hid hX
  obtain ⟨b, hb⟩ : ∃ b, b = w.heap.size := ⟨_, rfl⟩
  obtain ⟨W1, hW1⟩ : ∃ W, W = w.alloc (.cells cs.toArray 39) := ⟨_, rfl⟩
  rw [← hb, ← hW1] at hbox
  have H1 := Lib.hid hbox
  have c0 := (hbox.cellV 0 rfl 0 (v := .int .u8 (kd : Int)) (by rw [hcs, hkd]; rfl)).1
  have d0 := (hbox.cellV 0 rfl 34 (v := .int .i64 qs) (by rw [hcs, hqs]; exact actC_pl fa 0)).1
  have d1 := (hbox.cellV 0 rfl 35 (v := .int .i64 qg) (by rw [hcs, hqg]; exact actC_pl fa 1)).1
  have d2 := (hbox.cellV 0 rfl 36 (v := .int .i64 qn) (by rw [hcs, hqn]; exact actC_pl fa 2)).1
  have RK : Hid (W1.rangeAt b 1 kc) := fun j v hv => (hbox.cellV 0 rfl (1 + j) (by rw [hcs]; exact actC_key j v (by rw [← hkc]; exact hv))).1
  have E1 := hW1.symm
  have EB := hb.symm
  have HR := Lib.hid hr
  have HKD := Lib.hid hkd
  have C0 : Hid (r = 0 → Calls Try.prog 25 #[ptr p, .agg kc.toArray, .agg #[.int .i64 qs, .int .i64 qg, .int .i64 qn]] W1 fun e w' => e = .returned (errS X.2.2) ∧ Own.St B w0 w' (AS p X.1 :: Ps)) := by
    intro h
    rw [HX.out, act_add (by rw [← HKD.out, ← HR.out]; exact h), hkc, hqs, hqg, hqn]
    refine ((add_any (q := a.p) hbox.swap2 ok (by have := lim.len; omega) fa.k fa.p)).mono ?_
    rintro e w' ⟨rfl, h'⟩
    exact ⟨rfl, h'.drop2⟩
  have C1 : Hid (r = 1 → Calls Try.prog 26 #[ptr p, .agg kc.toArray] W1 fun e w' => e = .returned (errS X.2.2) ∧ Own.St B w0 w' (AS p X.1 :: Ps)) := by
    intro h
    rw [HX.out, act_ref (by rw [← HKD.out, ← HR.out]; exact h), hkc]
    refine ((ref_any hbox.swap2 ok (by have := lim.len; omega) fa.k (fun hk => by have := get_lim lim hk; omega))).mono ?_
    rintro e w' ⟨rfl, h'⟩
    exact ⟨rfl, h'.drop2⟩
  have C2 : Hid (r = 2 → Calls Try.prog 27 #[ptr p, .agg kc.toArray] W1 fun e w' => e = .returned (.tuple #[.bool X.2.1, errS X.2.2]) ∧ Own.St B w0 w' (AS p X.1 :: Ps)) := by
    intro h
    rw [HX.out, act_unref (by rw [← HKD.out, ← HR.out]; exact h), hkc]
    refine ((unref_any hbox.swap2 ok (by have := lim.len; omega) fa.k (fun hk => (get_lim lim hk).1))).mono ?_
    rintro e w' ⟨rfl, h'⟩
    exact ⟨rfl, h'.drop2⟩
  have C3 : Hid (r = 3 → Calls Try.prog 24 #[ptr p, .agg kc.toArray, .agg #[.int .i64 qs, .int .i64 qg, .int .i64 qn]] W1 fun e w' => e = .returned (errS X.2.2) ∧ Own.St B w0 w' (AS p X.1 :: Ps)) := by
    intro h
    rw [HX.out, act_move (by rw [← HKD.out, ← HR.out]; exact h), hkc, hqs, hqg, hqn]
    refine ((move_any (q := a.p) hbox.swap2 ok (by have := lim.len; omega) fa.k fa.p)).mono ?_
    rintro e w' ⟨rfl, h'⟩
    exact ⟨rfl, h'.drop2⟩
  have HB0 : Hid (r ≠ 2 → X.2.1 = false) := by
    intro h
    rw [HX.out]
    rcases (show r = 0 ∨ r = 1 ∨ r = 3 by omega) with g | g | g
    · rw [act_add (by rw [← HKD.out, ← HR.out]; exact g)]
    · rw [act_ref (by rw [← HKD.out, ← HR.out]; exact g)]
    · rw [act_move (by rw [← HKD.out, ← HR.out]; exact g)]
  rw [← hcs]
  clear hcs hkc hqs hqg hqn hbox hb hW1 hX hr hkd H ok lim fa
  rcases (show r = 0 ∨ r = 1 ∨ r = 2 ∨ r = 3 by omega) with h | h | h | h
  · have CX := Lib.hid (C0.out h)
    clear C0 C1 C2 C3 HR
    subst h
    clear hr4
    go_enter Try.func13, Try.ntmps13
    go_wp2_with (refine wpList_val rfl (Rec.load_key kc KL.out rfl _ (b := b) (k := 1) RK.out rfl) ?_)
    refine CX.out.mono ?_
    rintro e w2 ⟨rfl, h⟩
    have H2 := Lib.hid h
    clear h CX
    go_wp2_with (fail)
    go_ret2
    exact ⟨by unfold actV; rw [HB0.out (by decide)]; rfl, H2.out⟩
  · have CX := Lib.hid (C1.out h)
    clear C0 C1 C2 C3 HR
    subst h
    clear hr4
    go_enter Try.func13, Try.ntmps13
    go_wp2_with (refine wpList_val rfl (Rec.load_key kc KL.out rfl _ (b := b) (k := 1) RK.out rfl) ?_)
    refine CX.out.mono ?_
    rintro e w2 ⟨rfl, h⟩
    have H2 := Lib.hid h
    clear h CX
    go_wp2_with (fail)
    go_ret2
    exact ⟨by unfold actV; rw [HB0.out (by decide)]; rfl, H2.out⟩
  · have CX := Lib.hid (C2.out h)
    clear C0 C1 C2 C3 HR
    subst h
    clear hr4
    go_enter Try.func13, Try.ntmps13
    go_wp2_with (refine wpList_val rfl (Rec.load_key kc KL.out rfl _ (b := b) (k := 1) RK.out rfl) ?_)
    refine CX.out.mono ?_
    rintro e w2 ⟨rfl, h⟩
    have H2 := Lib.hid h
    clear h CX
    go_wp2_with (fail)
    go_ret2
    exact ⟨rfl, H2.out⟩
  · have CX := Lib.hid (C3.out h)
    clear C0 C1 C2 C3 HR
    subst h
    clear hr4
    go_enter Try.func13, Try.ntmps13
    go_wp2_with (refine wpList_val rfl (Rec.load_key kc KL.out rfl _ (b := b) (k := 1) RK.out rfl) ?_)
    refine CX.out.mono ?_
    rintro e w2 ⟨rfl, h⟩
    have H2 := Lib.hid h
    clear h CX
    go_wp2_with (fail)
    go_ret2
    exact ⟨by unfold actV; rw [HB0.out (by decide)]; rfl, H2.out⟩
set_option maxRecDepth 10000 in
set_option maxHeartbeats 6400000 in
theorem does_nil (a : ActD) (fa : FitA a) : Calls Try.prog 13 #[.pointer none, .agg (actC a).toArray] w fun e w' => e = .returned (.tuple #[.bool false, errS 2]) ∧ Below w.heap.size w w' := by
  obtain ⟨cs, hcs⟩ : ∃ x, x = actC a := ⟨_, rfl⟩
  obtain ⟨kc, hkc⟩ : ∃ x, x = kC a.k := ⟨_, rfl⟩
  have KL : Hid (kc.length = 33) := by show _ = _; rw [hkc]; exact kC_len fa.k
  obtain ⟨qs, hqs⟩ : ∃ x, x = a.p.seg := ⟨_, rfl⟩
  obtain ⟨qg, hqg⟩ : ∃ x, x = a.p.page := ⟨_, rfl⟩
  obtain ⟨qn, hqn⟩ : ∃ x, x = a.p.pages := ⟨_, rfl⟩
  obtain ⟨kd, hkd⟩ : ∃ x, x = a.kind.toNat := ⟨_, rfl⟩
  obtain ⟨r, hr⟩ : ∃ r, r = kd % 4 := ⟨_, rfl⟩
  have hr4 : r < 4 := by omega
  have hri : (kd : Int) % 4 = (r : Int) := by omega
  have hkb : kd < 256 := by rw [hkd]; exact a.kind.toNat_lt
  have hbox := ((Own.St.start w).boxV 39 cs)
  obtain ⟨b, hb⟩ : ∃ b, b = w.heap.size := ⟨_, rfl⟩
  obtain ⟨W1, hW1⟩ : ∃ W, W = w.alloc (.cells cs.toArray 39) := ⟨_, rfl⟩
  rw [← hb, ← hW1] at hbox
  have H1 := Lib.hid hbox
  have c0 := (hbox.cellV 0 rfl 0 (v := .int .u8 (kd : Int)) (by rw [hcs, hkd]; rfl)).1
  have d0 := (hbox.cellV 0 rfl 34 (v := .int .i64 qs) (by rw [hcs, hqs]; exact actC_pl fa 0)).1
  have d1 := (hbox.cellV 0 rfl 35 (v := .int .i64 qg) (by rw [hcs, hqg]; exact actC_pl fa 1)).1
  have d2 := (hbox.cellV 0 rfl 36 (v := .int .i64 qn) (by rw [hcs, hqn]; exact actC_pl fa 2)).1
  have RK : Hid (W1.rangeAt b 1 kc) := fun j v hv => (hbox.cellV 0 rfl (1 + j) (by rw [hcs]; exact actC_key j v (by rw [← hkc]; exact hv))).1
  have E1 := hW1.symm
  have EB := hb.symm
  have HR := Lib.hid hr
  have HKD := Lib.hid hkd
  have C0 : Hid (r = 0 → Calls Try.prog 25 #[.pointer none, .agg kc.toArray, .agg #[.int .i64 qs, .int .i64 qg, .int .i64 qn]] W1 fun e w' => e = .returned (errS 2) ∧ Below w.heap.size w w') := by
    intro _
    rw [hkc, hqs, hqg, hqn]
    refine (nil_add (k := a.k) (q := a.p) W1).mono ?_
    rintro e w' ⟨rfl, h'⟩
    exact ⟨rfl, by rw [← hb]; exact hbox.below.trans (h'.mono hbox.size)⟩
  have C1 : Hid (r = 1 → Calls Try.prog 26 #[.pointer none, .agg kc.toArray] W1 fun e w' => e = .returned (errS 2) ∧ Below w.heap.size w w') := by
    intro _
    rw [hkc]
    refine (nil_ref fa.k W1).mono ?_
    rintro e w' ⟨rfl, h'⟩
    exact ⟨rfl, by rw [← hb]; exact hbox.below.trans (h'.mono hbox.size)⟩
  have C2 : Hid (r = 2 → Calls Try.prog 27 #[.pointer none, .agg kc.toArray] W1 fun e w' => e = .returned (.tuple #[.bool false, errS 2]) ∧ Below w.heap.size w w') := by
    intro _
    rw [hkc]
    refine (nil_unref fa.k W1).mono ?_
    rintro e w' ⟨rfl, h'⟩
    exact ⟨rfl, by rw [← hb]; exact hbox.below.trans (h'.mono hbox.size)⟩
  have C3 : Hid (r = 3 → Calls Try.prog 24 #[.pointer none, .agg kc.toArray, .agg #[.int .i64 qs, .int .i64 qg, .int .i64 qn]] W1 fun e w' => e = .returned (errS 2) ∧ Below w.heap.size w w') := by
    intro _
    rw [hkc, hqs, hqg, hqn]
    refine (nil_move fa.k a.p W1).mono ?_
    rintro e w' ⟨rfl, h'⟩
    exact ⟨rfl, by rw [← hb]; exact hbox.below.trans (h'.mono hbox.size)⟩
  rw [← hcs]
  clear hcs hkc hqs hqg hqn hbox hb hW1 hr hkd fa
  rcases (show r = 0 ∨ r = 1 ∨ r = 2 ∨ r = 3 by omega) with h | h | h | h
  · have CX := Lib.hid (C0.out h)
    clear C0 C1 C2 C3 HR
    subst h
    clear hr4
    go_enter Try.func13, Try.ntmps13
    go_wp2_with (refine wpList_val rfl (Rec.load_key kc KL.out rfl _ (b := b) (k := 1) RK.out rfl) ?_)
    refine CX.out.mono ?_
    rintro e w2 ⟨rfl, h⟩
    have H2 := Lib.hid h
    clear h CX
    go_wp2_with (fail)
    go_ret2
    exact ⟨rfl, H2.out⟩
  · have CX := Lib.hid (C1.out h)
    clear C0 C1 C2 C3 HR
    subst h
    clear hr4
    go_enter Try.func13, Try.ntmps13
    go_wp2_with (refine wpList_val rfl (Rec.load_key kc KL.out rfl _ (b := b) (k := 1) RK.out rfl) ?_)
    refine CX.out.mono ?_
    rintro e w2 ⟨rfl, h⟩
    have H2 := Lib.hid h
    clear h CX
    go_wp2_with (fail)
    go_ret2
    exact ⟨rfl, H2.out⟩
  · have CX := Lib.hid (C2.out h)
    clear C0 C1 C2 C3 HR
    subst h
    clear hr4
    go_enter Try.func13, Try.ntmps13
    go_wp2_with (refine wpList_val rfl (Rec.load_key kc KL.out rfl _ (b := b) (k := 1) RK.out rfl) ?_)
    refine CX.out.mono ?_
    rintro e w2 ⟨rfl, h⟩
    have H2 := Lib.hid h
    clear h CX
    go_wp2_with (fail)
    go_ret2
    exact ⟨rfl, H2.out⟩
  · have CX := Lib.hid (C3.out h)
    clear C0 C1 C2 C3 HR
    subst h
    clear hr4
    go_enter Try.func13, Try.ntmps13
    go_wp2_with (refine wpList_val rfl (Rec.load_key kc KL.out rfl _ (b := b) (k := 1) RK.out rfl) ?_)
    refine CX.out.mono ?_
    rintro e w2 ⟨rfl, h⟩
    have H2 := Lib.hid h
    clear h CX
    go_wp2_with (fail)
    go_ret2
    exact ⟨rfl, H2.out⟩
end
theorem few_any (ao : Option Addr) (n cap : Nat) (hn : n ≤ cap) (hc : cap ≤ maxLen) (w : World) :
    Calls Try.prog 12 #[.slice ao n cap] w fun e w' => e = .returned (.slice ao (min n 200) cap) ∧ w = w' := by
  unfold maxLen at hc
  obtain ⟨k, hk⟩ : ∃ k, k = min n 200 := ⟨_, rfl⟩
  have hmin : ∀ wx, (Builtin.min_ #[3, 3] 3 #[.int .i64 (n : Int), .int .i64 200]).run Try.prog wx = .ok (.int .i64 (k : Int)) wx := by
    intro wx
    rw [show (k : Int) = min (n : Int) 200 by omega]
    simp [Builtin.min_, Builtin.min2, go_sem]
    try omega
  have hkn : k ≤ n := by omega
  have hkc : k ≤ cap := by omega
  rw [← hk]
  clear hk
  go_enter Try.func12, Try.ntmps12
  go_wp2
  go_ret
  exact ⟨rfl, rfl⟩
end Sto
end Go.Proofs.Ytcfdjoohbicomaa

end
section
namespace Go.Proofs.Ytcfdjoohbicomaa
open Go.RowKit Go.Own Go.Maps
namespace Sto
open Go.StoM Byt
/-- returns true, and old memory is as it was -/
def RetYes (w : World) (e : Ending) (w' : World) : Prop := e = .returned (.bool true) ∧ Below w.heap.size w w'
def xK : Ky := ⟨RecM.zsum, 3⟩
def xP : Pl := ⟨1, 0, 0⟩
theorem xK_fit : FitK xK := ⟨by simp [xK, RecM.zsum], by decide⟩
theorem xP_fit : FitP xP := ⟨by decide, by decide, by decide⟩
def x1 : List Ch := [⟨xK, xP, 1⟩]
def x2 : List Ch := [⟨xK, xP, 2⟩]
theorem x_ok (n : Int) (hn : i64S n) : Ok [⟨xK, xP, n⟩] := ⟨List.pairwise_singleton _ _, fun c hc => by rw [List.mem_singleton.1 hc]; exact ⟨xK_fit, xP_fit, hn⟩⟩
theorem built_xK : Try.prog.built 35 [(1, .int .u32 3)] = some (kC xK).toArray := by kernel_rfl
set_option maxRecDepth 10000 in
set_option maxHeartbeats 6400000 in
theorem shown_any (w : World) : Calls Try.prog 10 #[] w (RetYes w) := by
  obtain ⟨kc, hkc⟩ : ∃ c, c = kC xK := ⟨_, rfl⟩
  have KL : Hid (kc.length = 33) := by show _ = _; rw [hkc]; exact kC_len xK_fit
  have KO : Hid (∀ u ∈ kc, u.oneCell' = true) := by show ∀ u ∈ kc, _; rw [hkc]; exact kC_one _
  have KB : Hid (Try.prog.built 35 [(1, .int .u32 3)] = some kc.toArray) := by rw [hkc]; exact built_xK
  have CA : Hid (∀ {B : Nat} {Qs : List Asn} {p : Nat} (wx : World), Own.St B w wx (AS p [] :: Qs) → Calls Try.prog 25 #[ptr p, .agg kc.toArray, .agg #[.int .i64 1, .int .i64 0, .int .i64 0]] wx fun e w' => e = .returned (.int .i64 0) ∧ Own.St B w w' (AS p x1 :: Qs)) := by
    rw [hkc]
    intro B Qs p wx h
    exact add_any (q := xP) h ok_nil (by decide) xK_fit xP_fit
  have CR : Hid (∀ {B : Nat} {Qs : List Asn} {p : Nat} (wx : World), Own.St B w wx (AS p x1 :: Qs) → Calls Try.prog 26 #[ptr p, .agg kc.toArray] wx fun e w' => e = .returned (.int .i64 0) ∧ Own.St B w w' (AS p x2 :: Qs)) := by
    rw [hkc]
    intro B Qs p wx h
    have e : refS x1 xK = (x2, 0) := by kernel_rfl
    have g : (getS x1 xK).refs = 1 := by
      have : isAt x1 xK = true := by kernel_rfl
      rw [getS_at this]
      rfl
    have := ref_any h (x_ok 1 (by decide)) (by decide) xK_fit (fun _ => by rw [g]; decide)
    rw [e] at this
    exact this
  have CU1 : Hid (∀ {B : Nat} {Qs : List Asn} {p : Nat} (wx : World), Own.St B w wx (AS p x2 :: Qs) → Calls Try.prog 27 #[ptr p, .agg kc.toArray] wx fun e w' => e = .returned (.tuple #[.bool false, .int .i64 0]) ∧ Own.St B w w' (AS p x1 :: Qs)) := by
    rw [hkc]
    intro B Qs p wx h
    have e : unrefS x2 xK = (x1, false, 0) := by kernel_rfl
    have g : (getS x2 xK).refs = 2 := by
      have : isAt x2 xK = true := by kernel_rfl
      rw [getS_at this]
      rfl
    have := unref_any h (x_ok 2 (by decide)) (by decide) xK_fit (fun _ => by rw [g]; decide)
    rw [e] at this
    exact this
  have CU2 : Hid (∀ {B : Nat} {Qs : List Asn} {p : Nat} (wx : World), Own.St B w wx (AS p x1 :: Qs) → Calls Try.prog 27 #[ptr p, .agg kc.toArray] wx fun e w' => e = .returned (.tuple #[.bool true, .int .i64 0]) ∧ Own.St B w w' (AS p [] :: Qs)) := by
    rw [hkc]
    intro B Qs p wx h
    have e : unrefS x1 xK = ([], true, 0) := by kernel_rfl
    have g : (getS x1 xK).refs = 1 := by
      have : isAt x1 xK = true := by kernel_rfl
      rw [getS_at this]
      rfl
    have := unref_any h (x_ok 1 (by decide)) (by decide) xK_fit (fun _ => by rw [g]; decide)
    rw [e] at this
    exact this
  have CU3 : Hid (∀ {B : Nat} {Qs : List Asn} {p : Nat} (wx : World), Own.St B w wx (AS p [] :: Qs) → Calls Try.prog 27 #[ptr p, .agg kc.toArray] wx fun e w' => e = .returned (.tuple #[.bool false, .int .i64 2]) ∧ Own.St B w w' (AS p [] :: Qs)) := by
    rw [hkc]
    intro B Qs p wx h
    exact unref_any h ok_nil (by decide) xK_fit (fun h => by cases h)
  have CN := Lib.hid (new_any (Own.St.start w))
  clear hkc
  go_enter Try.func10, Try.ntmps10
  go_wp2_with (fail)
  refine CN.out.mono ?_
  rintro e w1 ⟨p, rfl, h⟩
  have H1 := Lib.hid h
  clear h CN
  go_wp2_with (first
    | (refine Own.wpList_built rfl 35 #[(1, .const (.int .u32 3))] rfl kc.toArray ?_ ?_; · (simp only [List.map_toArray, List.map_cons, List.map_nil, List.toList_toArray]; exact KB.out))
    | (refine wpList_box2 boxy_key rfl rfl rfl (.tmp 2) (.tmp 10) rfl rfl kc (fun _ => rfl) (fun _ => rfl) KL.out KO.out H1.out ?_; intro b2 w2 h; have H2 := Lib.hid h; clear h)
    | (refine wpList_val rfl (Rec.load_key kc KL.out rfl _ (b := b2) (k := 0) (H2.out.boxRange 0 rfl) rfl) ?_))
  refine (CA.out _ H2.out.swap2).mono ?_
  rintro e w3 ⟨rfl, h⟩
  have H3 := Lib.hid h
  clear h CA H2 H1
  go_wp2_with (refine wpList_val rfl (Rec.load_key kc KL.out rfl _ (b := b2) (k := 0) (H3.out.boxRange 1 rfl) rfl) ?_)
  refine (CR.out _ H3.out).mono ?_
  rintro e w4 ⟨rfl, h⟩
  have H4 := Lib.hid h
  clear h CR H3
  go_wp2_with (refine wpList_val rfl (Rec.load_key kc KL.out rfl _ (b := b2) (k := 0) (H4.out.boxRange 1 rfl) rfl) ?_)
  refine (CU1.out _ H4.out).mono ?_
  rintro e w5 ⟨rfl, h⟩
  have H5 := Lib.hid h
  clear h CU1 H4
  go_wp2_with (refine wpList_val rfl (Rec.load_key kc KL.out rfl _ (b := b2) (k := 0) (H5.out.boxRange 1 rfl) rfl) ?_)
  refine (CU2.out _ H5.out).mono ?_
  rintro e w6 ⟨rfl, h⟩
  have H6 := Lib.hid h
  clear h CU2 H5
  go_wp2_with (refine wpList_val rfl (Rec.load_key kc KL.out rfl _ (b := b2) (k := 0) (H6.out.boxRange 1 rfl) rfl) ?_)
  refine (CU3.out _ H6.out).mono ?_
  rintro e w7 ⟨rfl, h⟩
  have H7 := Lib.hid h
  clear h CU3 H6
  go_wp2_with (fail)
  go_ret
  exact ⟨rfl, H7.out.below⟩
set_option maxRecDepth 10000 in
set_option maxHeartbeats 6400000 in
theorem walk_nil (a : ActD) (fa : FitA a) (w : World) : Calls Try.prog 8 #[.agg (actC a).toArray] w (RetYes w) := by
  obtain ⟨cs, hcs⟩ : ∃ x, x = actC a := ⟨_, rfl⟩
  obtain ⟨kc, hkc⟩ : ∃ x, x = kC a.k := ⟨_, rfl⟩
  obtain ⟨sc, hsc⟩ : ∃ x, x = a.k.sum.map byteV := ⟨_, rfl⟩
  obtain ⟨z, hz⟩ : ∃ z, z = zC := ⟨_, rfl⟩
  obtain ⟨sg, hsg⟩ : ∃ x, x = a.p.seg := ⟨_, rfl⟩
  have AL : Hid (cs.length = 37) := by show _ = _; rw [hcs]; exact actC_len fa
  have KL : Hid (kc.length = 33) := by show _ = _; rw [hkc]; exact kC_len fa.k
  have SL : Hid (sc.length = 32) := by show _ = _; rw [hsc, List.length_map]; exact fa.k.sum
  have ZL : Hid (z.length = 37) := by show _ = _; rw [hz]; exact zC_len
  have ZO : Hid (∀ u ∈ z, u.oneCell' = true) := by show ∀ u ∈ z, _; rw [hz]; exact chC_one _
  have hbox := (Own.St.start w).boxV 39 cs
  obtain ⟨b, hb⟩ : ∃ b, b = w.heap.size := ⟨_, rfl⟩
  obtain ⟨W1, hW1⟩ : ∃ W, W = w.alloc (.cells cs.toArray 39) := ⟨_, rfl⟩
  rw [← hW1] at hbox
  have H1 : Hid (Own.St w.heap.size w W1 [AVals b 39 cs]) := by rw [hb]; exact hbox
  have RK : Hid (∀ {Qs : List Asn} (wx : World) (i : Nat), Own.St w.heap.size w wx Qs → Qs[i]? = some (AVals b 39 cs) → wx.rangeAt b 1 kc ∧ wx.rangeAt b 1 sc ∧ wx.cell? ⟨b, 34, none⟩ = some (.int .i64 sg) ∧ wx.rangeAt b 0 cs) := by
    intro Qs wx i h hi
    refine ⟨fun j v hv => (h.cellV i hi (1 + j) (by rw [hcs]; exact actC_key j v (by rw [← hkc]; exact hv))).1, fun j v hv => (h.cellV i hi (1 + j) (by rw [hcs]; exact actC_key j v (kC_sum j v (by rw [← hsc]; exact hv)))).1, (h.cellV i hi 34 (by rw [hcs, hsg]; exact actC_pl fa 0)).1, h.boxRange i hi⟩
  have E1 := hW1.symm
  have EB := hb.symm
  have SH := Lib.hid (shown_any W1)
  have CD : Hid (∀ wx, Calls Try.prog 13 #[.pointer none, .agg cs.toArray] wx fun e w' => e = .returned (.tuple #[.bool false, .int .i64 2]) ∧ Below wx.heap.size wx w') := by rw [hcs]; exact fun wx => does_nil a fa
  have CG : Hid (∀ wx, Calls Try.prog 18 #[.pointer none, .agg kc.toArray] wx fun e w' => e = .returned (.tuple #[.agg z.toArray, .bool false]) ∧ Below wx.heap.size wx w') := by rw [hkc, hz]; exact fun wx => nil_get fa.k wx
  have CT : Hid (∀ wx, Calls Try.prog 21 #[.pointer none, .agg sc.toArray] wx fun e w' => e = .returned (.slice none 0 0) ∧ Below wx.heap.size wx w') := by rw [hsc]; exact fun wx => nil_twins _ wx
  show Calls Try.prog _ #[.agg (actC a).toArray] w _
  rw [← hcs]
  clear hcs hkc hsc hz hsg hbox hb hW1 fa
  have c34 := (RK.out W1 0 H1.out rfl).2.2.1
  clear c34
  go_enter Try.func8, Try.ntmps8
  go_wp2_with (fail)
  refine SH.out.mono ?_
  rintro e w1 ⟨rfl, h⟩
  have H2 := Lib.hid (H1.out.later h)
  clear h SH H1
  go_wp2_with (refine wpList_val rfl (load_act cs AL.out rfl _ (b := b) (k := 0) (RK.out _ 0 H2.out rfl).2.2.2 rfl) ?_)
  refine (CD.out _).mono ?_
  rintro e w2 ⟨rfl, h⟩
  have H3 := Lib.hid (H2.out.later h)
  clear h CD H2
  go_wp2_with (refine wpList_val rfl (Rec.load_key kc KL.out rfl _ (b := b) (k := 1) (RK.out _ 0 H3.out rfl).1 rfl) ?_)
  refine (CG.out _).mono ?_
  rintro e w3 ⟨rfl, h⟩
  have H4 := Lib.hid (H3.out.later h)
  clear h CG H3
  go_wp2_with (refine wpList_box2 boxy_ch rfl rfl rfl (.tmp 7) (.tmp 23) rfl rfl z (fun _ => rfl) (fun _ => rfl) ZL.out ZO.out H4.out ?_; intro b7 w4 h; have H5 := Lib.hid h; have c34 := (RK.out _ 1 h rfl).2.2.1; clear h)
  refine (nil_live sg _).mono ?_
  rintro e w5 ⟨rfl, h⟩
  have H6 := Lib.hid (H5.out.later h)
  clear h H5 c34
  go_wp2_with (refine wpList_val rfl (load_sum sc SL.out rfl _ (b := b) (k := 1) (RK.out _ 1 H6.out rfl).2.1 rfl) ?_)
  refine (CT.out _).mono ?_
  rintro e w6 ⟨rfl, h⟩
  have H7 := Lib.hid (H6.out.later h)
  clear h H6 CT
  go_wp2_with (fail)
  refine (nil_all _).mono ?_
  rintro e w7 ⟨rfl, h⟩
  have H8 := Lib.hid (H7.out.later h)
  clear h H7
  go_wp2_with (fail)
  go_ret
  exact ⟨rfl, H8.out.below⟩
end Sto
end Go.Proofs.Ytcfdjoohbicomaa

end
section
namespace Go.Proofs.Ytcfdjoohbicomaa
open Go.RowKit Go.Own Go.Maps
namespace Sto
open Go.StoM Byt
theorem moveS_at {l : List Ch} (hs : Sorted l) (k : Ky) (q : Pl) (i : Nat) : (moveS l k q).1[i]? = l[i]?.map fun c => if c.key = k then wP c q else c := by
  cases h : isAt l k
  · rw [moveS_no h]
    show l[i]? = _
    cases hc : l[i]? with
    | none => rfl
    | some c =>
      have hne : c.key ≠ k := fun e => by
        rw [(at_iff hs).2 ⟨c, List.mem_of_getElem? hc, e⟩] at h
        cases h
      simp [hne]
  · rw [moveS_yes h, putS_act h (wP (getS l k) q) (get_key h)]
    obtain ⟨hlt, h2, h3⟩ := at_some h
    by_cases hi : posK k l = i
    · subst hi
      rw [List.getElem?_set_self hlt, h2]
      simp [h3, getS_at h]
    · rw [List.getElem?_set_ne hi]
      cases hc : l[i]? with
      | none => rfl
      | some c =>
        have hne : c.key ≠ k := fun e => hi (by
          have hm := List.mem_of_getElem? hc
          have h5 := (mem_at hs hm).2.2
          rw [e] at h5
          have hil := (List.getElem?_eq_some_iff.1 hc).1
          rcases Nat.lt_trichotomy (posK k l) i with g | g | g
          · have := (List.pairwise_iff_getElem.1 hs) _ _ hlt hil g
            rw [(List.getElem?_eq_some_iff.1 hc).2, (List.getElem?_eq_some_iff.1 h5).2, less_irrefl] at this
            cases this
          · exact g
          · have := (List.pairwise_iff_getElem.1 hs) _ _ hil hlt g
            rw [(List.getElem?_eq_some_iff.1 hc).2, (List.getElem?_eq_some_iff.1 h5).2, less_irrefl] at this
            cases this)
        simp [hne]
where
  get_key {l : List Ch} {k : Ky} (hk : isAt l k = true) : (wP (getS l k) q).key = k := by rw [getS_at hk]; exact (at_mem hk).2
theorem moveS_len (l : List Ch) (k : Ky) (q : Pl) : (moveS l k q).1.length = l.length := by
  cases h : isAt l k
  · rw [moveS_no h]
  · rw [moveS_yes h, putS_len]
    have : isAt l (wP (getS l k) q).key = true := by
      have e : (wP (getS l k) q).key = k := by rw [getS_at h]; exact (at_mem h).2
      rw [e]; exact h
    rw [if_pos this]
theorem moveS_err {l : List Ch} (k : Ky) (q : Pl) : (moveS l k q).2 = if isAt l k = true then 0 else 2 := by
  cases h : isAt l k
  · rw [moveS_no h]; rfl
  · rw [moveS_yes h]; rfl
/-- a chunk of a row is another one -/
theorem flat_set (l : List Ch) (hf : ∀ c ∈ l, Fit c) (i : Nat) (c d : Ch) (hi : l[i]? = some c) (hd : FitK d.key) (o : Nat) (r : List Value) (ho : o + r.length ≤ 37) (he : (chC c).take o ++ r ++ (chC c).drop (o + r.length) = chC d) :
    (l.flatMap chC).take (i * 37 + o) ++ r ++ (l.flatMap chC).drop (i * 37 + o + r.length) = (l.set i d).flatMap chC := by
  have hl : ∀ a ∈ l, (chC a).length = 37 := fun a ha => chC_len (hf a ha).key
  obtain ⟨hil, hic⟩ := List.getElem?_eq_some_iff.1 hi
  have hcl : (chC c).length = 37 := hl c (List.mem_of_getElem? hi)
  have e1 : l = l.take i ++ c :: l.drop (i + 1) := by
    rw [← hic, List.getElem_cons_drop, List.take_append_drop]
  have hA : ((l.take i).flatMap chC).length = i * 37 := by
    rw [flat_length chC 37 (l.take i) (fun a ha => hl a (List.mem_of_mem_take ha)), List.length_take, Nat.min_eq_left (Nat.le_of_lt hil)]
  have e2 : l.flatMap chC = (l.take i).flatMap chC ++ (chC c ++ (l.drop (i + 1)).flatMap chC) := by
    conv => lhs; rw [e1]
    rw [List.flatMap_append, List.flatMap_cons]
  have e3 : (l.set i d).flatMap chC = (l.take i).flatMap chC ++ (chC d ++ (l.drop (i + 1)).flatMap chC) := by
    rw [List.set_eq_take_append_cons_drop, if_pos hil, List.flatMap_append, List.flatMap_cons]
  rw [e2, e3, ← he]
  rw [List.take_append, hA, List.take_of_length_le (by omega), List.take_append_of_le_length (by omega), show i * 37 + o - i * 37 = o by omega]
  rw [List.drop_append, hA, List.drop_of_length_le (by omega), List.nil_append, show i * 37 + o + r.length - i * 37 = o + r.length by omega, List.drop_append_of_le_length (by omega)]
  simp only [List.append_assoc]
end Sto
end Go.Proofs.Ytcfdjoohbicomaa

end
section
namespace Go.Proofs.Ytcfdjoohbicomaa
open Go.RowKit Go.Own Go.Maps
namespace Sto
open Go.StoM Byt
abbrev inAct : InT ActD := inE actC FitA
theorem fld_k {o : Oper} {X : Operand} (ho : o.op = .fieldAddr 51 X 0) {p i : Nat} (ρ : Operand → Value) (w : World) (h0 : ρ X = .pointer (some ⟨p, i, none⟩)) : (execOp ρ o).run Try.prog w = .ok (.value (.pointer (some ⟨p, i, none⟩))) w := by
  simp [execOp, ho, h0, go_sem, add_of]
/-- one chunk of a row of one's own -/
theorem row_range {B : Nat} {w0 w : World} {Ps : List Asn} (H : Own.St B w0 w Ps) (j : Nat) {g n cap : Nat} {l : List Ch} (hj : Ps[j]? = some (ARow 51 37 (.slice (some ⟨g, 0, none⟩) n cap) n (l.flatMap chC))) (hf : ∀ c ∈ l, Fit c) (hl : l.length = n) {i : Nat} {c : Ch} (hi : l[i]? = some c) :
    w.rangeAt g (i * 37) (chC c) := by
  have hil := (List.getElem?_eq_some_iff.1 hi).1
  intro k u hu
  have hk : k < 37 := by rw [← chC_len (hf c (List.mem_of_getElem? hi)).key]; exact (List.getElem?_eq_some_iff.1 hu).1
  obtain ⟨g', hg', ⟨u', h1, h2⟩, _⟩ := H.rowAt j hj (i * 37 + k) (by omega)
  cases hg'
  rw [flat_at chC 37 l (fun c hc => chC_len (hf c hc).key) i c hi k hk, hu] at h1
  cases h1
  exact h2
/-- what the loop has made of the first chunks -/
def moved (k : Ky) (q : Pl) (l : List Ch) (i : Nat) : List Ch := ((moveS l k q).1).take i ++ l.drop i
theorem moved_step {l : List Ch} (hs : Sorted l) (k : Ky) (q : Pl) {i : Nat} {c : Ch} (hi : l[i]? = some c) : moved k q l (i + 1) = (moved k q l i).set i (if c.key = k then wP c q else c) ∧ (moved k q l i)[i]? = some c := by
  obtain ⟨hil, hic⟩ := List.getElem?_eq_some_iff.1 hi
  have hlm := moveS_len l k q
  have hT := moveS_at hs k q i
  rw [hi] at hT
  simp only [Option.map_some] at hT
  have hlt : ((moveS l k q).1.take i).length = i := by rw [List.length_take]; omega
  constructor
  · unfold moved
    rw [List.set_append_right _ _ (by omega), hlt, Nat.sub_self, List.drop_eq_getElem_cons hil, List.set_cons_zero, List.take_add_one, hT]
    simp
  · unfold moved
    rw [List.getElem?_append_right (by omega), hlt, Nat.sub_self, List.getElem?_drop, Nat.add_zero]
    exact hi
def foundB (k : Ky) (l : List Ch) (i : Nat) : Bool := (l.take i).any fun c => decide (c.key = k)
theorem found_step {l : List Ch} (k : Ky) {i : Nat} {c : Ch} (hi : l[i]? = some c) : foundB k l (i + 1) = (foundB k l i || decide (c.key = k)) := by
  unfold foundB
  rw [List.take_add_one, hi]
  simp
theorem found_end {l : List Ch} (hs : Sorted l) (k : Ky) : foundB k l l.length = isAt l k := by
  unfold foundB
  rw [List.take_length]
  cases h : isAt l k
  · rw [List.any_eq_false]
    intro c hc
    simp only [decide_eq_true_eq]
    intro e
    rw [(at_iff hs).2 ⟨c, hc, e⟩] at h
    cases h
  · obtain ⟨c, hc, e⟩ := (at_iff hs).1 h
    rw [List.any_eq_true]
    exact ⟨c, hc, by simp [e]⟩
set_option maxRecDepth 10000 in
set_option maxHeartbeats 12800000 in
theorem walk_moves (a1 : Option Addr) (len1 cap1 : Nat) (l : List ActD) (k : Ky) (hk : FitK k) (q : Pl) (hq : FitP q) {w : World} (w1 : inSlice 37 inAct l w.heap.size w [.slice a1 len1 cap1]) :
    Calls Try.prog 9 #[.slice a1 len1 cap1, kV k, pV q] w (RetYes w) := by
  obtain ⟨hlen, hcap, hmax, hnil, hat⟩ := acts_inF (c := 37) (fun a fa => actC_len fa) w1
  have HF := Lib.hid (few_any a1 len1 cap1 hcap hmax)
  have HAT := Lib.hid hat
  have HLEN := Lib.hid hlen
  clear hat hlen hmax hnil w1
  obtain ⟨kc, hkc⟩ : ∃ x, x = kC k := ⟨_, rfl⟩
  have KL : Hid (kc.length = 33) := by show _ = _; rw [hkc]; exact kC_len hk
  obtain ⟨qs, qg, qn⟩ := q
  have hb0 := (Own.St.start w).boxV 35 kc
  obtain ⟨bk, hbk⟩ : ∃ b, b = w.heap.size := ⟨_, rfl⟩
  obtain ⟨W0, hW0⟩ : ∃ W, W = w.alloc (.cells kc.toArray 35) := ⟨_, rfl⟩
  rw [← hW0] at hb0
  have hb1 := hb0.boxV 37 [iS qs, iS qg, iS qn]
  obtain ⟨bq, hbq⟩ : ∃ b, b = W0.heap.size := ⟨_, rfl⟩
  obtain ⟨W1, hW1⟩ : ∃ W, W = W0.alloc (.cells #[iS qs, iS qg, iS qn] 37) := ⟨_, rfl⟩
  have hW1' : W0.alloc (.cells [iS qs, iS qg, iS qn].toArray 37) = W1 := hW1.symm
  rw [hW1'] at hb1
  have H1 : Hid (Own.St w.heap.size w W1 [AVals bq 37 [iS qs, iS qg, iS qn], AVals bk 35 kc]) := by rw [hbk, hbq]; exact hb1
  have E0 := hW0.symm
  have E1 := hW1.symm
  have EK := hbk.symm
  have EB := hbq.symm
  have FK := Lib.hid hk
  have FQ := Lib.hid hq
  have HKC := Lib.hid hkc
  have SH := Lib.hid (shown_any W1)
  show Calls Try.prog _ #[_, .agg (kC k).toArray, .agg #[iS qs, iS qg, iS qn]] w _
  rw [← hkc]
  clear hkc hb0 hb1 hbk hbq hW0 hW1 hW1' hk hq
  go_enter Try.func9, Try.ntmps9
  go_wp2_with (fail)
  refine SH.out.mono ?_
  rintro e wa ⟨rfl, h1⟩
  have H2 := Lib.hid (H1.out.later h1)
  clear h1 SH H1
  go_wp2_with (fail)
  refine (new_any H2.out).mono ?_
  rintro e wb ⟨p, rfl, h⟩
  have H3 := Lib.hid h
  clear h H2
  go_wp2_with (fail)
  refine (HF.out wb).mono ?_
  rintro e wf ⟨rfl, rfl⟩
  obtain ⟨n, hk⟩ : ∃ k, k = min len1 200 := ⟨_, rfl⟩
  rw [← hk]
  have hn1 : n ≤ len1 := by omega
  have hn2 : n ≤ 200 := by omega
  clear hk HF
  go_wp2
  go_loopw [23] (fun v23 wr => ∃ (i : Nat) (S : List Ch), i ≤ n ∧ v23 = .int .i64 (i : Int) ∧ Own.St w.heap.size w wr [AS p S, AVals bq 37 [iS qs, iS qg, iS qn], AVals bk 35 kc] ∧ Ok S ∧ Lim S i) (fun v23 _ => n - (intOf v23).toNat)
  case atStart => exact ⟨0, [], Nat.zero_le _, rfl, H3.out, ok_nil, ⟨Nat.le_refl _, fun c hc => by cases hc⟩⟩
  case round =>
    obtain ⟨i, S, hin, rfl, hst, hok, hlim⟩ := hrel
    have H := Lib.hid hst
    have OK := Lib.hid hok
    have LM := Lib.hid hlim
    clear hst hok hlim H3
    by_cases hi : (i : Int) < (n : Int)
    · skip
      have hik2 : i < n := by omega
      have hil : i < l.length := by rw [← HLEN.out]; omega
      obtain ⟨b, o, hbo, _, hra⟩ := HAT.out (by intro e; rw [e] at hil; exact absurd hil (Nat.not_lt_zero _))
      subst hbo
      have hr2 := hra wr (fun q hq => H.out.below.block q hq) i hil
      obtain ⟨a, ha⟩ : ∃ x, x = l[i] := ⟨_, rfl⟩
      rw [← ha] at hr2
      have fa : FitA a := hr2.2
      have FA := Lib.hid fa
      obtain ⟨cs, hcs⟩ : ∃ x, x = actC a := ⟨_, rfl⟩
      have RA : Hid (wr.rangeAt b (o + i * 37) cs) := by rw [hcs]; exact hr2.1
      have CSL : Hid (cs.length = 37) := by show _ = _; rw [hcs]; exact actC_len fa
      have CS1 : Hid (∀ u ∈ cs, u.oneCell' = true) := by rw [hcs]; exact actC_one _
      have CD : Hid (∀ {Q : List Asn} (wx : World), Own.St w.heap.size w wx (AS p S :: Q) → Calls Try.prog 13 #[ptr p, .agg cs.toArray] wx fun e w' => e = .returned (actV (doAct S a)) ∧ Own.St w.heap.size w w' (AS p (doAct S a).1 :: Q)) := by
        rw [hcs]
        exact fun {Q} wx h => does_any h OK.out LM.out (by omega) a FA.out
      have NX := Lib.hid (act_ok OK.out LM.out (by omega) fa)
      clear hra hr2 ha fa hcs hil
      go_wp2_with (first
        | (refine wpList_val rfl (idx_act rfl hik2 _ _ rfl rfl) ?_)
        | (refine wpList_val rfl (load_act cs CSL.out rfl _ (b := b) (k := o + i * 37) RA.out rfl) ?_)
        | (refine wpList_box2 boxy_act rfl rfl rfl (.tmp 10) (.tmp 26) rfl rfl cs (fun _ => rfl) (fun _ => rfl) CSL.out CS1.out H.out ?_; intro b10 w6 h; have H6 := Lib.hid h; clear h)
        | (refine wpList_val rfl (load_act cs CSL.out rfl _ (b := b10) (k := 0) (H6.out.boxRange 0 rfl) rfl) ?_))
      refine (CD.out _ H6.out.swap2).mono ?_
      rintro e w7 ⟨rfl, h⟩
      have H7 := Lib.hid h.drop2
      clear h CD H6
      go_wp2_with (fail)
      go_roundw
      case rel => exact ⟨i + 1, (doAct S a).1, by omega, by go_num, H7.out, NX.out.1, NX.out.2⟩
      case measure => simp [intOf]; omega
    · have hi2 : i = n := by omega
      subst hi2
      have hSl : S.length ≤ 100000 := by have := LM.out.len; omega
      go_wp2_with (fail)
      refine (all_any H.out OK.out hSl).mono ?_
      rintro e w2 ⟨ao, ca, rfl, h⟩
      have H4 := Lib.hid h.swap2
      have d0 := (H4.out.cellV 2 rfl 0 rfl).1
      have d1 := (H4.out.cellV 2 rfl 1 rfl).1
      have d2 := (H4.out.cellV 2 rfl 2 rfl).1
      have CM : Hid (∀ {Q : List Asn} (wx : World), Own.St w.heap.size w wx (AS p S :: Q) → Calls Try.prog 24 #[ptr p, .agg kc.toArray, .agg #[.int .i64 qs, .int .i64 qg, .int .i64 qn]] wx fun e w' => e = .returned (errS (moveS S k ⟨qs, qg, qn⟩).2) ∧ Own.St w.heap.size w w' (AS p (moveS S k ⟨qs, qg, qn⟩).1 :: Q)) := by
        rw [HKC.out]
        exact fun {Q} wx h => move_any (q := ⟨qs, qg, qn⟩) h OK.out (by omega) FK.out FQ.out
      clear h H
      go_wp2_with (refine wpList_val rfl (Rec.load_key kc KL.out rfl _ (b := bk) (k := 0) (H4.out.boxRange 3 rfl) rfl) ?_)
      refine (CM.out _ H4.out).mono ?_
      rintro e w3 ⟨rfl, h⟩
      have H5 := Lib.hid h
      clear h H4 CM d0 d1 d2
      obtain ⟨T, hT⟩ : ∃ T, T = (moveS S k ⟨qs, qg, qn⟩).1 := ⟨_, rfl⟩
      have HT := Lib.hid hT
      obtain ⟨er, her⟩ : ∃ x, x = (moveS S k ⟨qs, qg, qn⟩).2 := ⟨_, rfl⟩
      have HER := Lib.hid her
      rw [← hT] at H5
      have okT : Ok T := by
        rw [hT]
        cases h : isAt S k
        · rw [moveS_no h]; exact OK.out
        · rw [moveS_yes h]
          have hf := getS_fit OK.out k
          exact ok_put OK.out ⟨hf.key, FQ.out, hf.refs⟩
      have OKT := Lib.hid okT
      have hTl : T.length = S.length := by rw [hT]; exact moveS_len _ _ _
      have HTL := Lib.hid hTl
      rw [← her]
      clear hT her okT hTl
      go_wp2_with (fail)
      refine (all_any H5.out OKT.out (by have := HTL.out; omega)).mono ?_
      rintro e w4 ⟨ao2, ca2, rfl, h⟩
      rw [HTL.out] at h
      have H6 := Lib.hid h
      clear h H5
      obtain ⟨m, hm⟩ : ∃ m, m = S.length := ⟨_, rfl⟩
      have HM := Lib.hid hm
      rw [← hm] at H6
      rw [HTL.out, ← hm]
      rw [← hm] at hSl
      clear hm
      go_wp2
      go_loopw [14, 46] (fun v14 v46 wr => ∃ i : Nat, i ≤ m ∧ v14 = .bool (foundB k S i) ∧ v46 = .int .i64 (i : Int) ∧ Own.St w.heap.size w wr [ARow 51 37 (.slice ao2 m ca2) m (T.flatMap chC), AS p T, ARow 51 37 (.slice ao m ca) m ((moved k ⟨qs, qg, qn⟩ S i).flatMap chC), AVals bq 37 [iS qs, iS qg, iS qn], AVals bk 35 kc]) (fun _ v46 _ => m - (intOf v46).toNat)
      case atStart =>
        refine ⟨0, Nat.zero_le _, rfl, rfl, ?_⟩
        have e : moved k ⟨qs, qg, qn⟩ S 0 = S := by unfold moved; rw [List.take_zero, List.drop_zero]; rfl
        rw [e]
        exact H6.out
      case round =>
        obtain ⟨j, hjm0, rfl, rfl, hst⟩ := hrel
        have H7 := Lib.hid hst
        clear hst H6
        by_cases hj : (j : Int) < (m : Int)
        · have hjm : j < m := by omega
          have hjl : j < S.length := by rw [← HM.out]; exact hjm
          obtain ⟨c, hc⟩ : ∃ c, S[j]? = some c := ⟨_, List.getElem?_eq_getElem hjl⟩
          obtain ⟨st1, st2⟩ := moved_step OK.out.sorted k ⟨qs, qg, qn⟩ hc
          have hT := moveS_at OK.out.sorted k ⟨qs, qg, qn⟩ j
          rw [hc, ← HT.out] at hT
          simp only [Option.map_some] at hT
          have hfc := OK.out.fit c (List.mem_of_getElem? hc)
          have fitM : ∀ i, ∀ x ∈ moved k ⟨qs, qg, qn⟩ S i, Fit x := by
            intro i x hx
            unfold moved at hx
            rcases List.mem_append.1 hx with hx | hx
            · rw [← HT.out] at hx; exact OKT.out.fit x (List.mem_of_mem_take hx)
            · exact OK.out.fit x (List.mem_of_mem_drop hx)
          have lenM : ∀ i, i ≤ m → (moved k ⟨qs, qg, qn⟩ S i).length = m := by
            intro i hi
            unfold moved
            have := moveS_len S k ⟨qs, qg, qn⟩
            rw [List.length_append, List.length_take, List.length_drop, this, ← HM.out]
            omega
          have lenT : T.length = m := by rw [HTL.out, HM.out]
          obtain ⟨g1, hg1, _, _⟩ := H7.out.rowAt 2 rfl (j * 37) (by omega)
          subst hg1
          obtain ⟨g2, hg2, _, _⟩ := H7.out.rowAt 0 rfl (j * 37) (by omega)
          subst hg2
          have fstep := found_step k hc
          obtain ⟨t, ht⟩ : ∃ t, t = decide (c.key = k) := ⟨_, rfl⟩
          rw [← ht] at fstep
          obtain ⟨cc, hcc⟩ : ∃ x, x = kC c.key := ⟨_, rfl⟩
          have KCL : Hid (cc.length = 33) := by show _ = _; rw [hcc]; exact kC_len hfc.key
          have RK : Hid (∀ wx, Below wr.heap.size wr wx → wx.rangeAt g1 (j * 37) cc ∧ wx.rangeAt bk 0 kc) := by
            intro wx hwx
            have h := H7.out.later hwx
            have h2 := row_range h 2 rfl (fitM j) (lenM j (by omega)) st2
            refine ⟨fun x v hv => h2 x v (chC_key hfc.key x v (by rw [← hcc]; exact hv)), h.boxRange 4 rfl⟩
          have EQ : Hid (∀ (o : Oper) (x y : Operand), o.op = .binOp .eql 35 x y 35 → ∀ (ρ : Operand → Value) (w : World), ρ x = .agg cc.toArray → ρ y = .agg kc.toArray → (execOp ρ o).run Try.prog w = .ok (.value (.bool t)) w) := by
            intro o x y ho ρ w h0 h1
            rw [hcc] at h0
            rw [HKC.out] at h1
            exact eql_kk ho hfc.key FK.out ht.symm ρ w h0 h1
          obtain ⟨d, hd⟩ : ∃ d, d = if c.key = k then wP c ⟨qs, qg, qn⟩ else c := ⟨_, rfl⟩
          rw [← hd] at st1 hT
          have hfd : Fit d := OKT.out.fit d (List.mem_of_getElem? hT)
          obtain ⟨ds, hds⟩ : ∃ x, x = chC d := ⟨_, rfl⟩
          have DL : Hid (ds.length = 37) := by show _ = _; rw [hds]; exact chC_len hfd.key
          have NQ : Hid (∀ (o : Oper) (x y : Operand), o.op = .binOp .neq 51 x y 51 → ∀ (ρ : Operand → Value) (w : World), ρ x = .agg ds.toArray → ρ y = .agg ds.toArray → (execOp ρ o).run Try.prog w = .ok (.value (.bool false)) w) := by
            intro o x y ho ρ w h0 h1
            rw [hds] at h0 h1
            exact bin_ch (.inr rfl) ho hfd.key hfd.key (by simp) ρ w h0 h1
          have R8 : Hid (∀ wx, Own.St w.heap.size w wx [ARow 51 37 (.slice (some ⟨g2, 0, none⟩) m ca2) m (T.flatMap chC), AS p T, ARow 51 37 (.slice (some ⟨g1, 0, none⟩) m ca) m ((moved k ⟨qs, qg, qn⟩ S (j + 1)).flatMap chC), AVals bq 37 [iS qs, iS qg, iS qn], AVals bk 35 kc] → wx.rangeAt g1 (j * 37) ds ∧ wx.rangeAt g2 (j * 37) ds) := by
            intro wx h
            rw [hds]
            refine ⟨row_range h 2 rfl (fitM (j + 1)) (lenM (j + 1) (by omega)) ?_, row_range h 0 rfl OKT.out.fit lenT hT⟩
            rw [st1, List.getElem?_set_self (by rw [lenM j (by omega)]; exact hjm)]
          have FS := Lib.hid fstep
          have PUT : Hid (t = true → ∀ wx, Own.St w.heap.size w wx [ARow 51 37 (.slice (some ⟨g2, 0, none⟩) m ca2) m (T.flatMap chC), AS p T, ARow 51 37 (.slice (some ⟨g1, 0, none⟩) m ca) m ((moved k ⟨qs, qg, qn⟩ S j).flatMap chC), AVals bq 37 [iS qs, iS qg, iS qn], AVals bk 35 kc] →
              (∃ x, wx.cell? ⟨g1, j * 37 + 33, none⟩ = some x) ∧ wx.frozen? ⟨g1, j * 37 + 33, none⟩ = false ∧ (∃ x, wx.cell? ⟨g1, j * 37 + 34, none⟩ = some x) ∧ wx.frozen? ⟨g1, j * 37 + 34, none⟩ = false ∧ (∃ x, wx.cell? ⟨g1, j * 37 + 35, none⟩ = some x) ∧ wx.frozen? ⟨g1, j * 37 + 35, none⟩ = false ∧
              Own.St w.heap.size w (((wx.setCell ⟨g1, j * 37 + 33, none⟩ (iS qs)).setCell ⟨g1, j * 37 + 34, none⟩ (iS qg)).setCell ⟨g1, j * 37 + 35, none⟩ (iS qn)) [ARow 51 37 (.slice (some ⟨g2, 0, none⟩) m ca2) m (T.flatMap chC), AS p T, ARow 51 37 (.slice (some ⟨g1, 0, none⟩) m ca) m ((moved k ⟨qs, qg, qn⟩ S (j + 1)).flatMap chC), AVals bq 37 [iS qs, iS qg, iS qn], AVals bk 35 kc]) := by
            intro htt wx h
            have hkc2 : c.key = k := of_decide_eq_true (ht.symm.trans htt)
            rw [if_pos hkc2] at hd
            have at_ : ∀ x, x < 37 → (∃ u, wx.cell? ⟨g1, j * 37 + x, none⟩ = some u) ∧ wx.frozen? ⟨g1, j * 37 + x, none⟩ = false := by
              intro x hx
              obtain ⟨g', hg', ⟨u, _, h2⟩, h3, _⟩ := h.rowAt 2 rfl (j * 37 + x) (by omega)
              cases hg'
              exact ⟨⟨u, h2⟩, h3⟩
            refine ⟨(at_ 33 (by omega)).1, (at_ 33 (by omega)).2, (at_ 34 (by omega)).1, (at_ 34 (by omega)).2, (at_ 35 (by omega)).1, (at_ 35 (by omega)).2, ?_⟩
            have hr := St.rowCells 2 [iS qs, iS qg, iS qn] (j * 37 + 33) wx _ _ h rfl (by simp only [List.length_cons, List.length_nil]; omega)
            simp only [List.set_cons_zero, List.set_cons_succ] at hr
            rw [flat_set (moved k ⟨qs, qg, qn⟩ S j) (fitM j) j c d st2 hfd.key 33 [iS qs, iS qg, iS qn] (by simp) (by rw [hd]; exact chC_set_place hfc.key ⟨qs, qg, qn⟩), ← st1] at hr
            exact hr
          have SAME : Hid (t = false → moved k ⟨qs, qg, qn⟩ S (j + 1) = moved k ⟨qs, qg, qn⟩ S j) := by
            intro htt
            have hne : ¬ c.key = k := of_decide_eq_false (ht.symm.trans htt)
            rw [if_neg hne] at hd
            rw [st1, hd]
            apply List.ext_getElem?
            intro x
            by_cases hx : j = x
            · subst hx
              rw [List.getElem?_set_self (by rw [lenM j (by omega)]; exact hjm), st2]
            · rw [List.getElem?_set_ne hx]
          clear hc st1 st2 hT hfc fitM lenM lenT fstep ht hcc hd hfd hds hjl
          go_wp2_with (fail)
          refine wp_lax_list (by kernel_rfl) (by kernel_rfl) (by kernel_rfl) ?_
          refine wpL_move (.slice (some ⟨g1, 0, none⟩) m ca) rfl (by kernel_rfl) (by kernel_rfl) (by kernel_rfl) (by kernel_rfl) ?_
          refine wpL_move (.int .i64 (j : Int)) rfl (by kernel_rfl) (by kernel_rfl) (by kernel_rfl) (by kernel_rfl) ?_
          refine wpL_run2 (x := .tmp 49) (y := .tmp 50) (.slice (some ⟨g1, 0, none⟩) m ca) (.int .i64 (j : Int)) (.pointer (some ⟨g1, j * 37, none⟩)) (by kernel_rfl) (by kernel_rfl) (by kernel_rfl) (by kernel_rfl) (by kernel_rfl) (by kernel_rfl) (fun wx ρ hwx h0 h1 hc => idx_ch rfl hjm ρ wx h0 h1) ?_
          refine wpL_run1 (x := .tmp 51) (.pointer (some ⟨g1, j * 37, none⟩)) (.pointer (some ⟨g1, j * 37, none⟩)) (by kernel_rfl) (by kernel_rfl) (by kernel_rfl) (by kernel_rfl) (by kernel_rfl) (fun wx ρ hwx h0 hc => fld_k rfl ρ wx h0) ?_
          refine wpL_run1 (x := .tmp 52) (.pointer (some ⟨g1, j * 37, none⟩)) (.agg cc.toArray) (by kernel_rfl) (by kernel_rfl) (by kernel_rfl) (by kernel_rfl) (by kernel_rfl) (fun wx ρ hwx h0 hc => Rec.load_key cc KCL.out rfl ρ (RK.out wx hwx).1 h0) ?_
          refine wpL_run1 (x := .tmp 4) (.pointer (some ⟨bk, 0, none⟩)) (.agg kc.toArray) (by kernel_rfl) (by kernel_rfl) (by kernel_rfl) (by kernel_rfl) (by kernel_rfl) (fun wx ρ hwx h0 hc => Rec.load_key kc KL.out rfl ρ (RK.out wx hwx).2 h0) ?_
          refine wpL_run2 (x := .tmp 53) (y := .tmp 54) (.agg cc.toArray) (.agg kc.toArray) (.bool t) (by kernel_rfl) (by kernel_rfl) (by kernel_rfl) (by kernel_rfl) (by kernel_rfl) (by kernel_rfl) (fun wx ρ hwx h0 h1 hc => EQ.out _ _ _ rfl ρ wx h0 h1) ?_
          refine wpL_end (by kernel_rfl) (fun w8 hw8 => ?_)
          simp only [FinL, setL, List.set_cons_zero, List.set_cons_succ]
          have HA := Lib.hid (H7.out.later hw8)
          clear hw8 H7 RK EQ
          cases t with
          | true =>
            have hp := PUT.out rfl w8 HA.out
            obtain ⟨⟨x0, y0⟩, z0, ⟨x1, y1⟩, z1, ⟨x2, y2⟩, z2, hp2⟩ := hp
            have d0 := (HA.out.cellV 3 rfl 0 rfl).1
            have d1 := (HA.out.cellV 3 rfl 1 rfl).1
            have d2 := (HA.out.cellV 3 rfl 2 rfl).1
            have H8 := Lib.hid hp2
            clear hp2 PUT SAME HA
            go_wp2_with (refine wpList_val rfl (idx_ch rfl hjm _ _ rfl rfl) ?_)
            rw [Bool.or_true] at FS
            obtain ⟨W8, hW8⟩ : ∃ W, W = ((w8.setCell ⟨g1, j * 37 + 33, none⟩ (iS qs)).setCell ⟨g1, j * 37 + 34, none⟩ (iS qg)).setCell ⟨g1, j * 37 + 35, none⟩ (iS qn) := ⟨_, rfl⟩
            rw [← hW8] at H8
            have hW8' : ((w8.setCell ⟨g1, j * 37 + 33, none⟩ (.int .i64 qs)).setCell ⟨g1, j * 37 + 34, none⟩ (.int .i64 qg)).setCell ⟨g1, j * 37 + 35, none⟩ (.int .i64 qn) = W8 := hW8.symm
            rw [hW8']
            clear hW8 hW8' y0 z0 y1 z1 y2 z2 d0 d1 d2
            refine wp_lax_list (by kernel_rfl) (by kernel_rfl) (by kernel_rfl) ?_
            refine wpL_move (.slice (some ⟨g1, 0, none⟩) m ca) rfl (by kernel_rfl) (by kernel_rfl) (by kernel_rfl) (by kernel_rfl) ?_
            refine wpL_move (.int .i64 (j : Int)) rfl (by kernel_rfl) (by kernel_rfl) (by kernel_rfl) (by kernel_rfl) ?_
            refine wpL_run2 (x := .tmp 61) (y := .tmp 62) (.slice (some ⟨g1, 0, none⟩) m ca) (.int .i64 (j : Int)) (.pointer (some ⟨g1, j * 37, none⟩)) (by kernel_rfl) (by kernel_rfl) (by kernel_rfl) (by kernel_rfl) (by kernel_rfl) (by kernel_rfl) (fun wx ρ hwx h0 h1 hc => idx_ch rfl hjm ρ wx h0 h1) ?_
            refine wpL_run1 (x := .tmp 63) (.pointer (some ⟨g1, j * 37, none⟩)) (.agg ds.toArray) (by kernel_rfl) (by kernel_rfl) (by kernel_rfl) (by kernel_rfl) (by kernel_rfl) (fun wx ρ hwx h0 hc => load_ch ds DL.out rfl ρ (R8.out wx (H8.out.later hwx)).1 h0) ?_
            refine wpL_move (.slice (some ⟨g2, 0, none⟩) m ca2) rfl (by kernel_rfl) (by kernel_rfl) (by kernel_rfl) (by kernel_rfl) ?_
            refine wpL_move (.int .i64 (j : Int)) rfl (by kernel_rfl) (by kernel_rfl) (by kernel_rfl) (by kernel_rfl) ?_
            refine wpL_run2 (x := .tmp 65) (y := .tmp 66) (.slice (some ⟨g2, 0, none⟩) m ca2) (.int .i64 (j : Int)) (.pointer (some ⟨g2, j * 37, none⟩)) (by kernel_rfl) (by kernel_rfl) (by kernel_rfl) (by kernel_rfl) (by kernel_rfl) (by kernel_rfl) (fun wx ρ hwx h0 h1 hc => idx_ch rfl hjm ρ wx h0 h1) ?_
            refine wpL_run1 (x := .tmp 67) (.pointer (some ⟨g2, j * 37, none⟩)) (.agg ds.toArray) (by kernel_rfl) (by kernel_rfl) (by kernel_rfl) (by kernel_rfl) (by kernel_rfl) (fun wx ρ hwx h0 hc => load_ch ds DL.out rfl ρ (R8.out wx (H8.out.later hwx)).2 h0) ?_
            refine wpL_run2 (x := .tmp 64) (y := .tmp 68) (.agg ds.toArray) (.agg ds.toArray) (.bool false) (by kernel_rfl) (by kernel_rfl) (by kernel_rfl) (by kernel_rfl) (by kernel_rfl) (by kernel_rfl) (fun wx ρ hwx h0 h1 hc => NQ.out _ _ _ rfl ρ wx h0 h1) ?_
            refine wpL_end (by kernel_rfl) (fun w9 hw9 => ?_)
            simp only [FinL, setL, List.set_cons_zero, List.set_cons_succ]
            have H9 := Lib.hid (H8.out.later hw9)
            clear hw9 H8
            go_wp2_with (fail)
            go_roundw
            case rel => exact ⟨j + 1, by omega, by rw [FS.out], by go_num, H9.out⟩
            case measure => simp [intOf]; omega
          | false =>
            have hs := SAME.out rfl
            rw [← hs] at HA
            have H8 := Lib.hid HA.out
            rw [Bool.or_false] at FS
            clear hs SAME PUT HA
            go_wp2_with (fail)
            refine wp_lax_list (by kernel_rfl) (by kernel_rfl) (by kernel_rfl) ?_
            refine wpL_move (.slice (some ⟨g1, 0, none⟩) m ca) rfl (by kernel_rfl) (by kernel_rfl) (by kernel_rfl) (by kernel_rfl) ?_
            refine wpL_move (.int .i64 (j : Int)) rfl (by kernel_rfl) (by kernel_rfl) (by kernel_rfl) (by kernel_rfl) ?_
            refine wpL_run2 (x := .tmp 61) (y := .tmp 62) (.slice (some ⟨g1, 0, none⟩) m ca) (.int .i64 (j : Int)) (.pointer (some ⟨g1, j * 37, none⟩)) (by kernel_rfl) (by kernel_rfl) (by kernel_rfl) (by kernel_rfl) (by kernel_rfl) (by kernel_rfl) (fun wx ρ hwx h0 h1 hc => idx_ch rfl hjm ρ wx h0 h1) ?_
            refine wpL_run1 (x := .tmp 63) (.pointer (some ⟨g1, j * 37, none⟩)) (.agg ds.toArray) (by kernel_rfl) (by kernel_rfl) (by kernel_rfl) (by kernel_rfl) (by kernel_rfl) (fun wx ρ hwx h0 hc => load_ch ds DL.out rfl ρ (R8.out wx (H8.out.later hwx)).1 h0) ?_
            refine wpL_move (.slice (some ⟨g2, 0, none⟩) m ca2) rfl (by kernel_rfl) (by kernel_rfl) (by kernel_rfl) (by kernel_rfl) ?_
            refine wpL_move (.int .i64 (j : Int)) rfl (by kernel_rfl) (by kernel_rfl) (by kernel_rfl) (by kernel_rfl) ?_
            refine wpL_run2 (x := .tmp 65) (y := .tmp 66) (.slice (some ⟨g2, 0, none⟩) m ca2) (.int .i64 (j : Int)) (.pointer (some ⟨g2, j * 37, none⟩)) (by kernel_rfl) (by kernel_rfl) (by kernel_rfl) (by kernel_rfl) (by kernel_rfl) (by kernel_rfl) (fun wx ρ hwx h0 h1 hc => idx_ch rfl hjm ρ wx h0 h1) ?_
            refine wpL_run1 (x := .tmp 67) (.pointer (some ⟨g2, j * 37, none⟩)) (.agg ds.toArray) (by kernel_rfl) (by kernel_rfl) (by kernel_rfl) (by kernel_rfl) (by kernel_rfl) (fun wx ρ hwx h0 hc => load_ch ds DL.out rfl ρ (R8.out wx (H8.out.later hwx)).2 h0) ?_
            refine wpL_run2 (x := .tmp 64) (y := .tmp 68) (.agg ds.toArray) (.agg ds.toArray) (.bool false) (by kernel_rfl) (by kernel_rfl) (by kernel_rfl) (by kernel_rfl) (by kernel_rfl) (by kernel_rfl) (fun wx ρ hwx h0 h1 hc => NQ.out _ _ _ rfl ρ wx h0 h1) ?_
            refine wpL_end (by kernel_rfl) (fun w9 hw9 => ?_)
            simp only [FinL, setL, List.set_cons_zero, List.set_cons_succ]
            have H9 := Lib.hid (H8.out.later hw9)
            clear hw9 H8
            go_wp2_with (fail)
            go_roundw
            case rel => exact ⟨j + 1, by omega, by rw [FS.out], by go_num, H9.out⟩
            case measure => simp [intOf]; omega
        · have hj2 : j = m := by omega
          subst hj2
          have FE : Hid (foundB k S j = isAt S k) := by show _ = _; rw [HM.out]; exact found_end OK.out.sorted k
          have EE : Hid (er = if isAt S k = true then 0 else 2) := by show _ = _; rw [HER.out]; exact moveS_err k _
          cases his : isAt S k
          · rw [his] at FE EE
            simp only [Bool.false_eq_true, if_false] at EE
            rw [FE.out, EE.out]
            clear his
            go_wp2_with (fail)
            go_ret
            exact ⟨rfl, H7.out.below⟩
          · rw [his] at FE EE
            simp only [if_true] at EE
            rw [FE.out, EE.out]
            clear his
            go_wp2_with (fail)
            go_ret
            exact ⟨rfl, H7.out.below⟩
end Sto
end Go.Proofs.Ytcfdjoohbicomaa

end
section
namespace Go.Proofs.Ytcfdjoohbicomaa
open Go.RowKit Go.Own Go.Maps
namespace Sto
open Go.StoM Byt
theorem rd_range {w : World} {g o n : Nat} {l : List Ch} (h : ∀ j u, (l.flatMap chC)[j]? = some u → w.cell? ⟨g, o + j, none⟩ = some u) (hf : ∀ c ∈ l, Fit c) (hl : l.length = n) {i : Nat} {c : Ch} (hi : l[i]? = some c) : w.rangeAt g (o + i * 37) (chC c) := by
  intro k u hu
  have hk : k < 37 := by rw [← chC_len (hf c (List.mem_of_getElem? hi)).key]; exact (List.getElem?_eq_some_iff.1 hu).1
  rw [Nat.add_assoc]
  refine h (i * 37 + k) u ?_
  rw [flat_at chC 37 l (fun c hc => chC_len (hf c hc).key) i c hi k hk]
  exact hu
theorem idx_chO {o : Oper} {x y : Tmp} (ho : o.op = .indexAddr 27 (.tmp x) (.tmp y)) {g q n c k : Nat} (hk : k < n) (ρ : Operand → Value) (w : World) (h0 : ρ (.tmp x) = .slice (some ⟨g, q, none⟩) n c) (h1 : ρ (.tmp y) = .int .i64 (k : Int)) : (execOp ρ o).run Try.prog w = .ok (.value (.pointer (some ⟨g, q + k * 37, none⟩))) w := by
  have hk' : (k : Int) < (n : Int) := by omega
  have hs : ∀ w, (sizeOf 51).run Try.prog w = .ok 37 w := fun w => by kernel_rfl
  simp [execOp, ho, h0, h1, go_sem, hk', add_of, hs]
set_option maxRecDepth 10000 in
set_option maxHeartbeats 6400000 in
theorem same_any (l : List Ch) (hf : ∀ c ∈ l, Fit c) (v1 v2 : Value) (n : Nat) (hl : l.length = n) (hn : n ≤ 1000000) (w : World) (h1 : RdWin w v1 n (l.flatMap chC)) (h2 : RdWin w v2 n (l.flatMap chC)) :
    Calls Try.prog 23 #[v1, v2] w fun e w' => e = .returned (.bool true) ∧ Below w.heap.size w w' := by
  obtain ⟨a1, c1, rfl, h1⟩ := h1
  obtain ⟨a2, c2, rfl, h2⟩ := h2
  have H1 := Lib.hid h1
  have H2 := Lib.hid h2
  have HL := Lib.hid hl
  have HF := Lib.hid hf
  clear h1 h2 hl hf
  go_enter Try.func23, Try.ntmps23
  go_wp2
  go_loopw [5] (fun v5 wr => ∃ i : Nat, i ≤ n ∧ v5 = .int .i64 (i : Int) ∧ Below w.heap.size w wr) (fun v5 _ => n - (intOf v5).toNat)
  case atStart => exact ⟨0, Nat.zero_le _, rfl, Below.refl _ _⟩
  case round =>
    obtain ⟨i, hin, rfl, hbw⟩ := hrel
    have HB := Lib.hid hbw
    clear hbw
    by_cases hi : (i : Int) < (n : Int)
    · have hin2 : i < n := by omega
      rcases H1.out with h | ⟨g1, o1, rfl, hc1⟩
      · omega
      rcases H2.out with h | ⟨g2, o2, rfl, hc2⟩
      · omega
      have hil : i < l.length := by rw [HL.out]; exact hin2
      obtain ⟨c, hc⟩ : ∃ c, l[i]? = some c := ⟨_, List.getElem?_eq_getElem hil⟩
      have hfc := HF.out c (List.mem_of_getElem? hc)
      have r1 := rd_range hc1 HF.out HL.out hc
      have r2 := rd_range hc2 HF.out HL.out hc
      obtain ⟨ds, hds⟩ : ∃ x, x = chC c := ⟨_, rfl⟩
      rw [← hds] at r1 r2
      have DL : Hid (ds.length = 37) := by show _ = _; rw [hds]; exact chC_len hfc.key
      have R : Hid (∀ wx, Below wr.heap.size wr wx → wx.rangeAt g1 (o1 + i * 37) ds ∧ wx.rangeAt g2 (o2 + i * 37) ds) := fun wx hwx =>
        ⟨fun j v hv => cellLater' (r1 j v hv) (HB.out.trans (hwx.mono HB.out.size)), fun j v hv => cellLater' (r2 j v hv) (HB.out.trans (hwx.mono HB.out.size))⟩
      have NQ : Hid (∀ (o : Oper) (x y : Operand), o.op = .binOp .neq 51 x y 51 → ∀ (ρ : Operand → Value) (w : World), ρ x = .agg ds.toArray → ρ y = .agg ds.toArray → (execOp ρ o).run Try.prog w = .ok (.value (.bool false)) w) := by
        intro o x y ho ρ w h0 h1
        rw [hds] at h0 h1
        exact bin_ch (.inr rfl) ho hfc.key hfc.key (by simp) ρ w h0 h1
      clear hc1 hc2 hc hfc r1 r2 hds hil H1 H2
      go_wp2_with (fail)
      refine wp_lax_list (by kernel_rfl) (by kernel_rfl) (by kernel_rfl) ?_
      refine wpL_move (.slice (some ⟨g1, o1, none⟩) n c1) rfl (by kernel_rfl) (by kernel_rfl) (by kernel_rfl) (by kernel_rfl) ?_
      refine wpL_move (.int .i64 (i : Int)) rfl (by kernel_rfl) (by kernel_rfl) (by kernel_rfl) (by kernel_rfl) ?_
      refine wpL_run2 (x := .tmp 17) (y := .tmp 18) (.slice (some ⟨g1, o1, none⟩) n c1) (.int .i64 (i : Int)) (.pointer (some ⟨g1, o1 + i * 37, none⟩)) (by kernel_rfl) (by kernel_rfl) (by kernel_rfl) (by kernel_rfl) (by kernel_rfl) (by kernel_rfl) (fun wx ρ hwx h0 h1 hc => idx_chO rfl hin2 ρ wx h0 h1) ?_
      refine wpL_run1 (x := .tmp 19) (.pointer (some ⟨g1, o1 + i * 37, none⟩)) (.agg ds.toArray) (by kernel_rfl) (by kernel_rfl) (by kernel_rfl) (by kernel_rfl) (by kernel_rfl) (fun wx ρ hwx h0 hc => load_ch ds DL.out rfl ρ (R.out wx hwx).1 h0) ?_
      refine wpL_move (.slice (some ⟨g2, o2, none⟩) n c2) rfl (by kernel_rfl) (by kernel_rfl) (by kernel_rfl) (by kernel_rfl) ?_
      refine wpL_move (.int .i64 (i : Int)) rfl (by kernel_rfl) (by kernel_rfl) (by kernel_rfl) (by kernel_rfl) ?_
      refine wpL_run2 (x := .tmp 21) (y := .tmp 22) (.slice (some ⟨g2, o2, none⟩) n c2) (.int .i64 (i : Int)) (.pointer (some ⟨g2, o2 + i * 37, none⟩)) (by kernel_rfl) (by kernel_rfl) (by kernel_rfl) (by kernel_rfl) (by kernel_rfl) (by kernel_rfl) (fun wx ρ hwx h0 h1 hc => idx_chO rfl hin2 ρ wx h0 h1) ?_
      refine wpL_run1 (x := .tmp 23) (.pointer (some ⟨g2, o2 + i * 37, none⟩)) (.agg ds.toArray) (by kernel_rfl) (by kernel_rfl) (by kernel_rfl) (by kernel_rfl) (by kernel_rfl) (fun wx ρ hwx h0 hc => load_ch ds DL.out rfl ρ (R.out wx hwx).2 h0) ?_
      refine wpL_run2 (x := .tmp 20) (y := .tmp 24) (.agg ds.toArray) (.agg ds.toArray) (.bool false) (by kernel_rfl) (by kernel_rfl) (by kernel_rfl) (by kernel_rfl) (by kernel_rfl) (by kernel_rfl) (fun wx ρ hwx h0 h1 hc => NQ.out _ _ _ rfl ρ wx h0 h1) ?_
      refine wpL_end (by kernel_rfl) (fun w9 hw9 => ?_)
      simp only [FinL, setL, List.set_cons_zero, List.set_cons_succ]
      have H9 := Lib.hid (HB.out.trans (hw9.mono HB.out.size))
      clear hw9 HB R NQ
      go_wp2_with (fail)
      go_roundw
      case rel => exact ⟨i + 1, by omega, by go_num, H9.out⟩
      case measure => simp [intOf]; omega
    · go_wp2_with (fail)
      go_ret
      exact ⟨rfl, HB.out⟩
end Sto
end Go.Proofs.Ytcfdjoohbicomaa

end
section
namespace Go.Proofs.Ytcfdjoohbicomaa
open Go.RowKit Go.Own Go.Maps
namespace Sto
open Go.StoM Byt
theorem sorted_append_left {l r : List Ch} (h : Sorted (l ++ r)) : Sorted l := h.sublist (List.sublist_append_left l r)
/-- a list in order, each needed at least once, is loaded as it is -/
theorem loadF_sorted : ∀ (r acc : List Ch), Sorted (acc ++ r) → (∀ c ∈ r, 1 ≤ c.refs) → loadF acc r = some (acc ++ r)
  | [], acc, _, _ => by simp [loadF]
  | c :: r, acc, hs, h1 => by
    have hs1 : Sorted acc := sorted_append_left hs
    have hlt : ∀ d ∈ acc, lessK d.key c.key = true := fun d hd => (List.pairwise_append.1 hs).2.2 d hd c (List.mem_cons_self ..)
    have hno : isAt acc c.key = false := by
      cases h : isAt acc c.key
      · rfl
      · obtain ⟨d, hd, e⟩ := (at_iff hs1).1 h
        have := hlt d hd
        rw [e, less_irrefl] at this
        cases this
    have hpos : posK c.key acc = acc.length := by
      rcases Nat.lt_or_ge (posK c.key acc) acc.length with h | h
      · have := pos_behind c.key acc hs1 _ _ (List.getElem?_eq_getElem h) (Nat.le_refl _)
        rw [hlt _ (List.getElem_mem h)] at this
        cases this
      · exact Nat.le_antisymm (pos_le _ _) h
    have hr : ¬ c.refs < 1 := by have := h1 c (List.mem_cons_self ..); omega
    have e : putS acc c = acc ++ [c] := by
      rw [putS_new hno]
      unfold putAt
      rw [hpos, List.take_length, List.drop_length]
    unfold loadF
    rw [hno, decide_eq_false hr, e]
    simp only [Bool.or_self, Bool.false_eq_true, if_false]
    rw [loadF_sorted r (acc ++ [c]) (by rw [List.append_assoc]; exact hs) (fun d hd => h1 d (List.mem_cons_of_mem _ hd)), List.append_assoc]
    rfl
set_option maxRecDepth 10000 in
set_option maxHeartbeats 12800000 in
theorem walk_back (a1 : Option Addr) (len1 cap1 : Nat) (l : List ActD) (a2 : Option Addr) (len2 cap2 : Nat) (l2 : List ActD) {w : World} (w1 : inSlice 37 inAct l w.heap.size w [.slice a1 len1 cap1]) (w2 : inSlice 37 inAct l2 w.heap.size w [.slice a2 len2 cap2]) :
    Calls Try.prog 7 #[.slice a1 len1 cap1, .slice a2 len2 cap2] w (RetYes w) := by
  obtain ⟨hlen, hcap, hmax, hnil, hat⟩ := acts_inF (c := 37) (fun a fa => actC_len fa) w1
  have HF := Lib.hid (few_any a1 len1 cap1 hcap hmax)
  have HAT := Lib.hid hat
  have HLEN := Lib.hid hlen
  clear hat hlen hmax hnil w1
  obtain ⟨hlen2, hcap2, hmax2, hnil2, hat2⟩ := acts_inF (c := 37) (fun a fa => actC_len fa) w2
  have HF2 := Lib.hid (few_any a2 len2 cap2 hcap2 hmax2)
  have HAT2 := Lib.hid hat2
  have HLEN2 := Lib.hid hlen2
  clear hat2 hlen2 hmax2 hnil2 w2
  have SH := Lib.hid (shown_any w)
  go_enter Try.func7, Try.ntmps7
  go_wp2_with (fail)
  refine SH.out.mono ?_
  rintro e wa ⟨rfl, h1⟩
  have H2 := Lib.hid ((Own.St.start w).later h1)
  clear h1 SH
  go_wp2_with (fail)
  refine (new_any H2.out).mono ?_
  rintro e wb ⟨p, rfl, h⟩
  have H3 := Lib.hid h
  clear h H2
  go_wp2_with (fail)
  refine (HF.out wb).mono ?_
  rintro e wf ⟨rfl, rfl⟩
  obtain ⟨n, hk⟩ : ∃ k, k = min len1 200 := ⟨_, rfl⟩
  rw [← hk]
  have hn1 : n ≤ len1 := by omega
  have hn2 : n ≤ 200 := by omega
  clear hk HF
  go_wp2
  go_loopw [24] (fun v24 wr => ∃ (i : Nat) (S : List Ch), i ≤ n ∧ v24 = .int .i64 (i : Int) ∧ Own.St w.heap.size w wr [AS p S] ∧ Ok S ∧ Lim S i) (fun v24 _ => n - (intOf v24).toNat)
  case atStart => exact ⟨0, [], Nat.zero_le _, rfl, H3.out, ok_nil, ⟨Nat.le_refl _, fun c hc => by cases hc⟩⟩
  case round =>
    obtain ⟨i, S, hin, rfl, hst, hok, hlim⟩ := hrel
    have H := Lib.hid hst
    have OK := Lib.hid hok
    have LM := Lib.hid hlim
    clear hst hok hlim H3
    by_cases hi : (i : Int) < (n : Int)
    · skip
      have hik2 : i < n := by omega
      have hil : i < l.length := by rw [← HLEN.out]; omega
      obtain ⟨b, o, hbo, _, hra⟩ := HAT.out (by intro e; rw [e] at hil; exact absurd hil (Nat.not_lt_zero _))
      subst hbo
      have hr2 := hra wr (fun q hq => H.out.below.block q hq) i hil
      obtain ⟨a, ha⟩ : ∃ x, x = l[i] := ⟨_, rfl⟩
      rw [← ha] at hr2
      have fa : FitA a := hr2.2
      have FA := Lib.hid fa
      obtain ⟨cs, hcs⟩ : ∃ x, x = actC a := ⟨_, rfl⟩
      have RA : Hid (wr.rangeAt b (o + i * 37) cs) := by rw [hcs]; exact hr2.1
      have CSL : Hid (cs.length = 37) := by show _ = _; rw [hcs]; exact actC_len fa
      have CS1 : Hid (∀ u ∈ cs, u.oneCell' = true) := by rw [hcs]; exact actC_one _
      have CD : Hid (∀ {Q : List Asn} (wx : World), Own.St w.heap.size w wx (AS p S :: Q) → Calls Try.prog 13 #[ptr p, .agg cs.toArray] wx fun e w' => e = .returned (actV (doAct S a)) ∧ Own.St w.heap.size w w' (AS p (doAct S a).1 :: Q)) := by
        rw [hcs]
        exact fun {Q} wx h => does_any h OK.out LM.out (by omega) a FA.out
      have NX := Lib.hid (act_ok OK.out LM.out (by omega) fa)
      clear hra hr2 ha fa hcs hil
      go_wp2_with (first
        | (refine wpList_val rfl (idx_act rfl hik2 _ _ rfl rfl) ?_)
        | (refine wpList_val rfl (load_act cs CSL.out rfl _ (b := b) (k := o + i * 37) RA.out rfl) ?_)
        | (refine wpList_box2 boxy_act rfl rfl rfl (.tmp 8) (.tmp 27) rfl rfl cs (fun _ => rfl) (fun _ => rfl) CSL.out CS1.out H.out ?_; intro b10 w6 h; have H6 := Lib.hid h; clear h)
        | (refine wpList_val rfl (load_act cs CSL.out rfl _ (b := b10) (k := 0) (H6.out.boxRange 0 rfl) rfl) ?_))
      refine (CD.out _ H6.out.swap2).mono ?_
      rintro e w7 ⟨rfl, h⟩
      have H7 := Lib.hid h.drop2
      clear h CD H6
      go_wp2_with (fail)
      go_roundw
      case rel => exact ⟨i + 1, (doAct S a).1, by omega, by go_num, H7.out, NX.out.1, NX.out.2⟩
      case measure => simp [intOf]; omega
    · have hi2 : i = n := by omega
      subst hi2
      have hSl : S.length ≤ 100000 := by have := LM.out.len; omega
      have hSi : S.length ≤ 200 := by have := LM.out.len; omega
      go_wp2_with (fail)
      refine (all_any H.out OK.out hSl).mono ?_
      rintro e w3 ⟨ao, ca, rfl, h⟩
      have H4 := Lib.hid h
      clear h H
      go_wp2_with (fail)
      have hl := load_any S OK.out.fit ao S.length ca rfl (by omega) H4.out
      have e : loadF [] S = some S := loadF_sorted S [] OK.out.sorted (fun c hc => (LM.out.refs c hc).1)
      rw [e] at hl
      have CL := Lib.hid hl
      clear hl e H4
      refine CL.out.mono ?_
      rintro e w4 ⟨p2, rfl, h⟩
      have H5 := Lib.hid (h.drop2)
      clear h CL
      have LM2 := Lib.hid (LM.out.more (show i ≤ 200 from hn2))
      go_wp2_with (fail)
      refine (HF2.out w4).mono ?_
      rintro e wf ⟨rfl, rfl⟩
      obtain ⟨n2, hk⟩ : ∃ k, k = min len2 200 := ⟨_, rfl⟩
      rw [← hk]
      have hn21 : n2 ≤ len2 := by omega
      have hn22 : n2 ≤ 200 := by omega
      clear hk HF2
      go_wp2
      go_loopw [47] (fun v47 wr => ∃ (j : Nat) (S : List Ch), j ≤ n2 ∧ v47 = .int .i64 (j : Int) ∧ Own.St w.heap.size w wr [AS p2 S, AS p S] ∧ Ok S ∧ Lim S (200 + j)) (fun v47 _ => n2 - (intOf v47).toNat)
      case atStart => exact ⟨0, S, Nat.zero_le _, rfl, H5.out, OK.out, LM2.out⟩
      case round =>
        obtain ⟨j, T, hjn, rfl, hst, hok, hlim⟩ := hrel
        have H := Lib.hid hst
        have OKT := Lib.hid hok
        have LMT := Lib.hid hlim
        clear hst hok hlim H5
        by_cases hj : (j : Int) < (n2 : Int)
        · skip
          have hik2 : j < n2 := by omega
          have hil : j < l2.length := by rw [← HLEN2.out]; omega
          obtain ⟨b, o, hbo, _, hra⟩ := HAT2.out (by intro e; rw [e] at hil; exact absurd hil (Nat.not_lt_zero _))
          subst hbo
          have hr2 := hra wr (fun q hq => H.out.below.block q hq) j hil
          obtain ⟨a, ha⟩ : ∃ x, x = l2[j] := ⟨_, rfl⟩
          rw [← ha] at hr2
          have fa : FitA a := hr2.2
          have FA := Lib.hid fa
          obtain ⟨cs, hcs⟩ : ∃ x, x = actC a := ⟨_, rfl⟩
          have RA : Hid (wr.rangeAt b (o + j * 37) cs) := by rw [hcs]; exact hr2.1
          have CSL : Hid (cs.length = 37) := by show _ = _; rw [hcs]; exact actC_len fa
          have CS1 : Hid (∀ u ∈ cs, u.oneCell' = true) := by rw [hcs]; exact actC_one _
          have CD : Hid (∀ {Q : List Asn} {pp : Nat} (wx : World), Own.St w.heap.size w wx (AS pp T :: Q) → Calls Try.prog 13 #[ptr pp, .agg cs.toArray] wx fun e w' => e = .returned (actV (doAct T a)) ∧ Own.St w.heap.size w w' (AS pp (doAct T a).1 :: Q)) := by
            rw [hcs]
            exact fun {Q pp} wx h => does_any h OKT.out LMT.out (by omega) a FA.out
          have NX := Lib.hid (act_ok OKT.out LMT.out (by omega) fa)
          obtain ⟨x, hx⟩ : ∃ x, x = (doAct T a).2.1 := ⟨_, rfl⟩
          obtain ⟨er, her⟩ : ∃ x, x = (doAct T a).2.2 := ⟨_, rfl⟩
          have EV : actV (doAct T a) = .tuple #[.bool x, .int .i64 (er : Int)] := by unfold actV; rw [hx, her]
          rw [EV] at CD
          clear hra hr2 ha fa hcs hil hx her EV
          go_wp2_with (first
        | (refine wpList_val rfl (idx_act rfl hik2 _ _ rfl rfl) ?_)
        | (refine wpList_val rfl (load_act cs CSL.out rfl _ (b := b) (k := o + j * 37) RA.out rfl) ?_)
        | (refine wpList_box2 boxy_act rfl rfl rfl (.tmp 12) (.tmp 50) rfl rfl cs (fun _ => rfl) (fun _ => rfl) CSL.out CS1.out H.out ?_; intro b12 w6 h; have H6 := Lib.hid h; clear h)
        | (refine wpList_val rfl (load_act cs CSL.out rfl _ (b := b12) (k := 0) (H6.out.boxRange 0 rfl) rfl) ?_))
          refine (CD.out _ (H6.out.perm (rot2 _ _ _ _))).mono ?_
          rintro e w7 ⟨rfl, h⟩
          have H7 := Lib.hid h
          clear h H6
          go_wp2_with (refine wpList_val rfl (load_act cs CSL.out rfl _ (b := b12) (k := 0) (H7.out.boxRange 1 rfl) rfl) ?_)
          refine (CD.out _ (H7.out.perm (rot2 _ _ _ _))).mono ?_
          rintro e w8 ⟨rfl, h⟩
          have H8 := Lib.hid ((h.perm (rot2 _ _ _ _)).drop 1)
          clear h H7 CD
          have hxx : (x != x) = false := by simp
          go_wp2_with (fail)
          go_roundw
          case rel => exact ⟨j + 1, (doAct T a).1, by omega, by go_num, H8.out, NX.out.1, NX.out.2⟩
          case measure => simp [intOf]; omega
        · have hj2 : j = n2 := by omega
          subst hj2
          have hTl : T.length ≤ 100000 := by have := LMT.out.len; omega
          go_wp2_with (fail)
          refine (all_any H.out.swap2 OKT.out hTl).mono ?_
          rintro e w5 ⟨ao1, c1, rfl, h⟩
          have H6 := Lib.hid (h.perm (rot2 _ _ _ _))
          clear h H
          go_wp2_with (fail)
          refine (all_any H6.out OKT.out hTl).mono ?_
          rintro e w6 ⟨ao2, c2, rfl, h⟩
          have H7 := Lib.hid h
          clear h H6
          go_wp2_with (fail)
          refine (same_any T OKT.out.fit _ _ T.length rfl (by omega) _ (rd_rowW H7.out 2 rfl) (rd_rowW H7.out 0 rfl)).mono ?_
          rintro e w7 ⟨rfl, h⟩
          have H8 := Lib.hid (H7.out.later h)
          clear h H7
          go_wp2_with (fail)
          go_ret
          exact ⟨rfl, H8.out.below⟩
end Sto
end Go.Proofs.Ytcfdjoohbicomaa

end
section
namespace Go.Proofs.Ytcfdjoohbicomaa
open Go.RowKit Go.Own
namespace Sto
open Go.StoM Byt
def inKy : InT Ky := fun k _ _ cs => cs = kC k ∧ FitK k
def inPl : InT Pl := fun p _ _ cs => cs = pC p ∧ FitP p
theorem wfI {a : Int} (h : (Lit.int .i64 a).wf = true) : i64S a := by
  simp [Lit.wf, IntKind.min, IntKind.max, IntKind.signed, IntKind.bits] at h
  unfold i64S
  omega
theorem opens_ky : Opens Try.prog 35 inKy := by
  intro H enc w fuel cs x h
  obtain ⟨⟨s, u⟩, e, h1, h2⟩ := Rec.opens_key H enc w fuel cs x h
  exact ⟨⟨s, u⟩, e, ⟨h1, h2⟩⟩
theorem opens_pl : Opens Try.prog 37 inPl := by
  intro H enc w fuel cs x h
  obtain ⟨hl, hf⟩ := opens_fields (P := Try.prog) Try.underlying37 h
  rw [show Try.prog.cellsOf 37 = 3 by kernel_rfl] at hl
  obtain ⟨c0, c1, c2, rfl⟩ : ∃ a b c, cs = [a, b, c] := by
    rcases cs with _ | ⟨c0, _ | ⟨c1, _ | ⟨c2, _ | ⟨c3, r⟩⟩⟩⟩
    · simp at hl
    · simp at hl
    · simp at hl
    · exact ⟨c0, c1, c2, rfl⟩
    · simp at hl
  obtain ⟨n0, y0, h0⟩ := hf 0 _ rfl
  obtain ⟨n1, y1, h1⟩ := hf 1 _ rfl
  obtain ⟨n2, y2, h2⟩ := hf 2 _ rfl
  obtain ⟨a0, e0, w0⟩ := opens_int (P := Try.prog) Try.underlying3 H enc w n0 _ y0 h0
  obtain ⟨a1, e1, w1⟩ := opens_int (P := Try.prog) Try.underlying3 H enc w n1 _ y1 h1
  obtain ⟨a2, e2, w2⟩ := opens_int (P := Try.prog) Try.underlying3 H enc w n2 _ y2 h2
  have k1 : Try.prog.cellsOf 3 = 1 := by kernel_rfl
  have e0' : c0 = .int .i64 a0 := by simpa [k1] using e0
  have e1' : c1 = .int .i64 a1 := by simpa [k1] using e1
  have e2' : c2 = .int .i64 a2 := by simpa [k1] using e2
  subst e0' e1' e2'
  exact ⟨⟨a0, a1, a2⟩, rfl, ⟨wfI w0, wfI w1, wfI w2⟩⟩
theorem opens_act : Opens Try.prog 39 inAct := by
  intro H enc w fuel cs x h
  obtain ⟨hl, hf⟩ := opens_fields (P := Try.prog) Try.underlying39 h
  rw [show Try.prog.cellsOf 39 = 37 by kernel_rfl] at hl
  obtain ⟨n0, y0, h0⟩ := hf 0 _ rfl
  obtain ⟨n1, y1, h1⟩ := hf 1 _ rfl
  obtain ⟨n2, y2, h2⟩ := hf 2 _ rfl
  obtain ⟨a0, e0, w0⟩ := opens_int (P := Try.prog) Try.underlying5 H enc w n0 _ y0 h0
  obtain ⟨k, e1, w1⟩ := opens_ky H enc w n1 _ y1 h1
  obtain ⟨p, e2, w2⟩ := opens_pl H enc w n2 _ y2 h2
  have k0 : Try.prog.cellsOf 5 = 1 := by kernel_rfl
  have k1 : Try.prog.cellsOf 35 = 33 := by kernel_rfl
  have k2 : Try.prog.cellsOf 37 = 3 := by kernel_rfl
  have e0' : cs.take 1 = [.int .u8 a0] := by simpa [k0] using e0
  have e1' : (cs.drop 1).take 33 = kC k := by simpa [k0, k1] using e1
  have e2' : (cs.drop 34).take 3 = pC p := by simpa [k0, k1, k2] using e2
  obtain ⟨u0, hu0⟩ := u8_byte w0
  subst hu0
  refine ⟨⟨u0, k, p⟩, ?_, ⟨w1, w2⟩⟩
  show cs = .int .u8 (u0.toNat : Int) :: (kC k ++ pC p)
  rw [List.take_of_length_le (by simp [hl])] at e2'
  rw [← e1', ← e2', ← List.singleton_append, ← e0']
  rw [show cs.drop 34 = (cs.drop 1).drop 33 by rw [List.drop_drop], List.take_append_drop, List.take_append_drop]
theorem in_nil (vs : Array Value) (a : ActD) {w : World} (h : inAct a w.heap.size w vs.toList) : Calls Try.prog 8 #[.agg vs] w (RetYes w) := by
  have e : vs = (actC a).toArray := by rw [← h.1]
  rw [e]
  exact walk_nil a h.2 w
theorem in_moves (a1 : Option Addr) (len1 cap1 : Nat) (l : List ActD) (vk : Array Value) (k : Ky) (vq : Array Value) (q : Pl) {w : World} (w1 : inSlice 37 inAct l w.heap.size w [.slice a1 len1 cap1]) (hk : inKy k w.heap.size w vk.toList) (hq : inPl q w.heap.size w vq.toList) : Calls Try.prog 9 #[.slice a1 len1 cap1, .agg vk, .agg vq] w (RetYes w) := by
  have ek : vk = (kC k).toArray := by rw [← hk.1]
  have eq : vq = (pC q).toArray := by rw [← hq.1]
  rw [ek, eq]
  exact walk_moves a1 len1 cap1 l k hk.2 q hq.2 w1
end Sto
end Go.Proofs.Ytcfdjoohbicomaa

end
