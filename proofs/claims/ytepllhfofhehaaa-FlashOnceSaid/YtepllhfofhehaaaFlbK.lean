/- The landed flash: Program. -/
import Derived.Test.YtepllhfofhehaaaFlbJ
import Derived.Laws.Cover3
namespace Go.Proofs.Ytepllhfofhehaaa
open Go.RowKit Go.Own
namespace Fla
open Go.FlaM Byt
theorem bytes_ints (l : Bs) : (l.map (fun x => (x.toNat : Int))).map (Value.int .u8) = l.map byteV := by
  rw [List.map_map]; rfl
theorem bytes_eq (a b : Bs) : decide (a.map (fun x => (x.toNat : Int)) = b.map (fun x => (x.toNat : Int))) = decide (a = b) := by
  apply decide_eq_decide.2
  constructor
  · intro h
    exact (List.map_inj_right (fun x y h => UInt8.toNat_inj.1 (by omega))).1 h
  · rintro rfl; rfl
theorem neq_pageE {o : Oper} {x y : Tmp} (ho : o.op = .binOp .neq 76 (.tmp x) (.tmp y) 76) {a b : Bs} (ha : a.length = 128) (hb : b.length = 128) {v : Bool} (hv : decide (a = b) = v) (ρ : Operand → Value) (w : World)
    (h0 : ρ (.tmp x) = .agg (a.map byteV).toArray) (h1 : ρ (.tmp y) = .agg (b.map byteV).toArray) : (execOp ρ o).run Try.prog w = .ok (.value (.bool (!v))) w := by
  have h := run_equalIn_ints (P := Try.prog) 9998 76 5 .u8 (a.map (fun x => (x.toNat : Int))) (b.map (fun x => (x.toNat : Int))) (by simp [ha, hb]) (by rw [List.length_map, ha]; exact Try.underlying76) Try.underlying5 (fun w => by kernel_rfl) (fun w => by kernel_rfl) w
  rw [bytes_eq, hv, bytes_ints, bytes_ints] at h
  have h' : (Op.equalIn 10000 76 (.agg (a.map byteV).toArray) (.agg (b.map byteV).toArray)).run Try.prog w = .ok v w := h
  unfold execOp
  simp only [ho, h0, h1]
  generalize (a.map byteV).toArray = A at h' ⊢
  generalize (b.map byteV).toArray = B at h' ⊢
  simp [go_sem, h']
theorem idx_rowsE {o : Oper} {x y : Tmp} (ho : o.op = .indexAddr 62 (.tmp x) (.tmp y)) (g n c k : Nat) (hk : k < n) : ∀ (ρ : Operand → Value) w, ρ (.tmp x) = .slice (some ⟨g, 0, none⟩) n c → ρ (.tmp y) = .int .i64 (k : Int) → (execOp ρ o).run Try.prog w = .ok (.value (.pointer (some ⟨g, k, none⟩))) w := by
  intro ρ w h0 h1
  have hk' : (k : Int) < (n : Int) := by omega
  simp [execOp, ho, h0, h1, go_sem, hk, hk', add_of]
theorem idx_pageE {o : Oper} {x y : Tmp} (ho : o.op = .indexAddr 66 (.tmp x) (.tmp y)) (g n c k : Nat) (hk : k < n) : ∀ (ρ : Operand → Value) w, ρ (.tmp x) = .slice (some ⟨g, 0, none⟩) n c → ρ (.tmp y) = .int .i64 (k : Int) → (execOp ρ o).run Try.prog w = .ok (.value (.pointer (some ⟨g, k * 128, none⟩))) w := by
  intro ρ w h0 h1
  have hk' : (k : Int) < (n : Int) := by omega
  simp [execOp, ho, h0, h1, go_sem, hk, hk', add_of]
theorem load_pageE (l : Bs) (hl : l.length = 128) {o : Oper} {x : Tmp} (ho : o.op = .load 76 (.tmp x)) {b k : Nat} (ρ : Operand → Value) {w : World} (hr : w.rangeAt b k (l.map byteV)) (h0 : ρ (.tmp x) = .pointer (some ⟨b, k, none⟩)) : (execOp ρ o).run Try.prog w = .ok (.value (.agg (l.map byteV).toArray)) w := by
  have := run_loadAt_mid (P := Try.prog) w b k 76 (l.map byteV) _ hr Try.underlying76 rfl (info_pageL l hl)
  unfold execOp
  simp only [ho, h0, Sem.run_bind, this, Result.andThen_ok, Sem.run_pure]
theorem rangeLater {w w' : World} {b o : Nat} {cs : List Value} (h : w.rangeAt b o cs) (g : Below w.heap.size w w') : w'.rangeAt b o cs := fun j v hv => cellLater (h j v hv) g
section
variable {B : Nat} {w0 w : World} {Ps : List Asn} {p : Nat} {s : FS} {N : Nat}
/-- where the page that is there now lies -/
theorem now_cells {x : Hidden} (H : Own.St B w0 w (flParts p x s ++ Ps)) (ok : Ok s N) (k q : Nat) (hk : k < s.safe.length) (hq : q < s.pp) :
    ∃ gN g2 cR : Nat, x.aN = some ⟨gN, 0, none⟩ ∧ w.cell? ⟨gN, k, none⟩ = some (.slice (some ⟨g2, 0, none⟩) s.pp cR) ∧ w.rangeAt g2 (q * 128) ((now s k q).map byteV) ∧ g2 < w.heap.size ∧ (now s k q).length = 128 ∧ s.pp ≤ cR ∧ cR ≤ maxLen := by
  have hsh := nowG_shape s.L s.safe ok.shape ok.acts
  have hsome := getD_some hsh hk
  have hW := wide_of hsh k hk
  have hrl := hsh.rows k hk
  have hat := nowG_at ok k q hk hq
  have hpl := hsh.pages k q hk hq
  obtain ⟨row, hrow⟩ : ∃ r, r = (nowG s.pp s.safe s.L).getD k [] := ⟨_, rfl⟩
  unfold pageAt at hat hpl
  rw [← hrow] at hsome hW hrl hat hpl
  obtain ⟨g, c, ⟨ao, cR⟩, Qs, hv, cg, hR, _⟩ := (H.front 1 rfl).pRowAt k row hsome
  simp only [Value.slice.injEq] at hv
  have hlen := hR.rowLen 0 rfl
  obtain ⟨g2, rfl, ⟨u, hu, cu⟩, _, _⟩ := hR.rowAt 0 rfl (q * 128) (by omega)
  refine ⟨g, g2, cR, hv.1, by rw [← hrl]; exact cg, ?_, World.block_lt_of_cell? w _ cu, by rw [← hat]; exact hpl, by rw [← hrl]; exact hlen.2.1, hlen.2.2.1⟩
  intro j v hj
  have hj2 := (List.getElem?_eq_some_iff.1 hj).1
  rw [List.length_map, ← hat, hpl] at hj2
  have h1 := (hR.rowRange 0 rfl (q * 128 + j) (by omega)).1
  rw [h1, ← hj, ← hat, ← flat_page q hW (by omega), List.map_take, List.map_drop, List.getElem?_take_of_lt hj2, List.getElem?_drop]

/-- bytes that a call may read, later -/
theorem lies_later {ao : Option Addr} {n cap : Nat} {y : Bs} {Qs Xs : List Asn} {wx : World} (h : Lies B w Ps ao n cap y) (H : Own.St B w0 w Qs) (hx : Own.St B w0 wx (Xs ++ Ps)) : Given wx ao n cap y := by
  rcases h.where_ with ⟨j0, h1⟩ | h1
  · have h2 := hx.perm List.perm_append_comm
    exact given_own h2 j0 (by rw [List.getElem?_append_left (List.getElem?_eq_some_iff.1 h1).1]; exact h1)
  · have h2 : View wx (fun k => k < B) ao y := View.same h1 (Below.both H.below hx.below)
    exact ⟨h2.mono (fun k hk => Nat.lt_of_lt_of_le hk hx.size), h.given.size, h.given.room, h.given.nil⟩
theorem okd_trip (ok : Ok s N) : Ok (okd (trip s)) (N + 1) := by
  have g := ok_trip ok
  exact ⟨g.segs, g.pp, g.rows, g.pages, g.wear, g.acts, left_okd _ g.left, Nat.succ_le_succ g.n, Nat.le_succ_of_le g.log, fun i => Nat.le_succ_of_le (g.worn i)⟩
theorem progF_cases (s : FS) (seg page : Int) (b : Bs) (h1 : there s seg page = true) (h2 : b.length = 128) (h3 : s.off = false) : progF s seg page b = if now s seg.toNat page.toNat ≠ FlaM.blank then (s, 70) else if (trip s).off = true then (trip s, 6) else ({ okd (trip s) with L := (okd (trip s)).L ++ [⟨seg.toNat, page, b⟩] }, 0) := by
  unfold progF
  rw [if_neg (by rw [h1, h2]; simp), if_neg (by rw [h3]; decide)]
  rfl

set_option maxRecDepth 10000 in
set_option maxHeartbeats 3200000 in
theorem program_any (H : Own.St B w0 w (AFl p s :: Ps)) (ok : Ok s N) (hN : N ≤ 10000) (seg page : Int) (hseg : i64B seg) (hpage : i64B page) (ao : Option Addr) (n cap : Nat) (y : Bs) (hy : Lies B w Ps ao n cap y) (hn : n ≤ 20000) :
    Calls Try.prog 18 #[ptr p, .int .i64 seg, .int .i64 page, .slice ao n cap] w fun e w' => e = .returned (errV (progF s seg page y).2) ∧ Own.St B w0 w' (AFl p (progF s seg page y).1 :: Ps) := by
  obtain ⟨x, hx, h⟩ := flOpen H
  have HS0 := hasPage_st h seg page
  have hthere : there s seg page = decide (0 ≤ seg ∧ seg < (s.safe.length : Int) ∧ 0 ≤ page ∧ page < (s.pp : Int)) := rfl
  rw [← hthere] at HS0
  have HS := Lib.hid HS0
  have c6 := (h.cellV 0 rfl 6 rfl).1
  have H0 := Lib.hid H
  have hyl := hy.given.size
  obtain ⟨th, hth⟩ : ∃ t, t = there s seg page := ⟨_, rfl⟩
  rw [← hth] at HS
  cases th
  · have HE : Hid (progF s seg page y = (s, 1)) := by
      show progF s seg page y = (s, 1)
      unfold progF
      rw [if_pos (.inl hth.symm)]
    rw [HE.out]
    clear H h hx ok hy hth hthere c6 HS0 hyl
    go_enter Try.func18, Try.ntmps18
    go_wp2_with (fail)
    refine HS.out.mono ?_
    rintro e w1 ⟨rfl, rfl⟩
    clear HS
    go_wp2
    go_ret
    exact ⟨rfl, H0.out⟩
  by_cases hn8 : ¬ n = 128
  · have HE : Hid (progF s seg page y = (s, 1)) := by
      show progF s seg page y = (s, 1)
      unfold progF
      rw [if_pos (.inr (by rw [hyl]; exact hn8))]
    rw [HE.out]
    have hni : ((n : Int) != 128) = true := by simp; omega
    clear H h hx ok hy hth hthere c6 HS0 hyl hn8
    go_enter Try.func18, Try.ntmps18
    go_wp2_with (fail)
    refine HS.out.mono ?_
    rintro e w1 ⟨rfl, rfl⟩
    clear HS
    go_wp2
    go_ret
    exact ⟨rfl, H0.out⟩
  have hn8' : n = 128 := by omega
  subst hn8'
  clear hn8
  by_cases hoff : true = s.off
  · have HE : Hid (progF s seg page y = (s, 6)) := by
      show progF s seg page y = (s, 6)
      unfold progF
      rw [if_neg (by rw [← hth, hyl]; simp), if_pos hoff.symm]
    rw [HE.out]
    rw [← hoff] at c6
    clear H h hx ok hy hth hthere HS0 hyl hoff
    go_enter Try.func18, Try.ntmps18
    go_wp2_with (fail)
    refine HS.out.mono ?_
    rintro e w1 ⟨rfl, rfl⟩
    clear HS
    go_wp2
    go_ret
    exact ⟨rfl, H0.out⟩
  have hoff2 : s.off = false := by cases h : s.off with | false => rfl | true => exact absurd h.symm hoff
  rw [hoff2] at c6
  have hPF := progF_cases s seg page y hth.symm hyl hoff2
  obtain ⟨t1, t2, t3, t4⟩ := there_spec hth.symm
  obtain ⟨k, hk⟩ : ∃ k : Nat, seg = (k : Int) := ⟨seg.toNat, by omega⟩
  obtain ⟨q, hq⟩ : ∃ q : Nat, page = (q : Int) := ⟨page.toNat, by omega⟩
  subst hk hq
  rw [show ((k : Int)).toNat = k from rfl, show ((q : Int)).toNat = q from rfl] at hPF
  have hks : k < s.safe.length := by omega
  have hqp : q < s.pp := by omega
  obtain ⟨gN, g2, cR, haN, cg, rg, hg2, hnl, hcR, hcR2⟩ := now_cells h ok k q hks hqp
  have c1 := (h.cellV 0 rfl 1 rfl).1
  rw [haN] at c1
  obtain ⟨nw, hnw⟩ : ∃ b, b = now s k q := ⟨_, rfl⟩
  rw [← hnw] at rg hnl hPF
  obtain ⟨bl, hbl⟩ : ∃ b, b = FlaM.blank := ⟨_, rfl⟩
  rw [← hbl] at hPF
  have hbll : bl.length = 128 := by rw [hbl]; exact blank_len
  have C1 : Hid (∀ wx, Below w.heap.size w wx → wx.cell? ⟨p, 1, none⟩ = some (.slice (some ⟨gN, 0, none⟩) s.safe.length x.cN)) := fun wx hwx => cellLater c1 hwx
  have CG : Hid (∀ wx, Below w.heap.size w wx → wx.cell? ⟨gN, k, none⟩ = some (.slice (some ⟨g2, 0, none⟩) s.pp cR)) := fun wx hwx => cellLater cg hwx
  have RG : Hid (∀ wx, Below w.heap.size w wx → wx.rangeAt g2 (q * 128) (nw.map byteV)) := fun wx hwx => rangeLater rg hwx
  have CE : Hid (∀ wx, Below w.heap.size w wx → Calls Try.prog 43 #[] wx fun e w' => e = .returned (.agg (bl.map byteV).toArray) ∧ Below wx.heap.size wx w') := by
    intro wx _
    rw [hbl]
    exact (erased_st (Own.St.start wx)).mono fun e w' ⟨he, h'⟩ => ⟨he, h'.below⟩
  have HNL := Lib.hid hnl
  have HBL := Lib.hid hbll
  obtain ⟨nS, hnS⟩ : ∃ z, z = s.safe.length := ⟨_, rfl⟩
  rw [← hnS] at C1 hks
  obtain ⟨pp, hpp⟩ : ∃ z, z = s.pp := ⟨_, rfl⟩
  rw [← hpp] at CG hqp
  by_cases hne : ¬ nw = bl
  · rw [if_pos hne] at hPF
    have HE := Lib.hid hPF
    rw [HE.out]
    have HD : Hid (decide (nw = bl) = false) := decide_eq_false hne
    clear H h hx ok hy hth hthere HS0 hyl hoff hoff2 hPF t1 t2 t3 t4 haN cg rg hg2 hnl hcR hcR2 c1 hnw hbl hbll hnS hpp hne
    go_enter Try.func18, Try.ntmps18
    go_wp2_with (fail)
    refine HS.out.mono ?_
    rintro e w1 ⟨rfl, rfl⟩
    clear HS
    go_wp2_with (fail)
    refine wp_lax_list (by kernel_rfl) (by kernel_rfl) (by kernel_rfl) ?_
    refine wpL_move (.pointer (some ⟨p, 0, none⟩)) rfl (by kernel_rfl) (by kernel_rfl) (by kernel_rfl) (by kernel_rfl) ?_
    refine wpL_run1 (x := .tmp 26) (.pointer (some ⟨p, 0, none⟩)) (.pointer (some ⟨p, 0, none⟩)) (by kernel_rfl) (by kernel_rfl) (by kernel_rfl) (by kernel_rfl) (by kernel_rfl) (fun wx ρ hwx h0 hc => by simp [go_sem, h0, hc]) ?_
    refine wpL_run1 (x := .tmp 27) (.pointer (some ⟨p, 0, none⟩)) (.pointer (some ⟨p, 1, none⟩)) (by kernel_rfl) (by kernel_rfl) (by kernel_rfl) (by kernel_rfl) (by kernel_rfl) (fun wx ρ hwx h0 hc => by simp [go_sem, h0, hc]) ?_
    refine wpL_run1 (x := .tmp 28) (.pointer (some ⟨p, 1, none⟩)) (.slice (some ⟨gN, 0, none⟩) nS x.cN) (by kernel_rfl) (by kernel_rfl) (by kernel_rfl) (by kernel_rfl) (by kernel_rfl) (fun wx ρ hwx h0 hc => by simp [go_sem, h0, hc, C1.out wx hwx]) ?_
    refine wpL_move (.int .i64 (k : Int)) rfl (by kernel_rfl) (by kernel_rfl) (by kernel_rfl) (by kernel_rfl) ?_
    refine wpL_run2 (x := .tmp 29) (y := .tmp 30) (.slice (some ⟨gN, 0, none⟩) nS x.cN) (.int .i64 (k : Int)) (.pointer (some ⟨gN, k, none⟩)) (by kernel_rfl) (by kernel_rfl) (by kernel_rfl) (by kernel_rfl) (by kernel_rfl) (by kernel_rfl) (fun wx ρ hwx h0 h1 hc => idx_rowsE rfl gN nS x.cN k hks ρ wx h0 h1) ?_
    refine wpL_run1 (x := .tmp 31) (.pointer (some ⟨gN, k, none⟩)) (.slice (some ⟨g2, 0, none⟩) pp cR) (by kernel_rfl) (by kernel_rfl) (by kernel_rfl) (by kernel_rfl) (by kernel_rfl) (fun wx ρ hwx h0 hc => by simp [go_sem, h0, hc, CG.out wx hwx]) ?_
    refine wpL_move (.int .i64 (q : Int)) rfl (by kernel_rfl) (by kernel_rfl) (by kernel_rfl) (by kernel_rfl) ?_
    refine wpL_run2 (x := .tmp 32) (y := .tmp 33) (.slice (some ⟨g2, 0, none⟩) pp cR) (.int .i64 (q : Int)) (.pointer (some ⟨g2, q * 128, none⟩)) (by kernel_rfl) (by kernel_rfl) (by kernel_rfl) (by kernel_rfl) (by kernel_rfl) (by kernel_rfl) (fun wx ρ hwx h0 h1 hc => idx_pageE rfl g2 pp cR q hqp ρ wx h0 h1) ?_
    refine wpL_run1 (x := .tmp 34) (.pointer (some ⟨g2, q * 128, none⟩)) (.agg (nw.map byteV).toArray) (by kernel_rfl) (by kernel_rfl) (by kernel_rfl) (by kernel_rfl) (by kernel_rfl) (fun wx ρ hwx h0 hc => load_pageE nw HNL.out rfl ρ (RG.out wx hwx) h0) ?_
    refine wpL_fn (.agg (bl.map byteV).toArray) [] rfl (by kernel_rfl) (by kernel_rfl) (by kernel_rfl) (by kernel_rfl) (fun _ _ => by simp [go_sem]) (fun wx hwx => CE.out wx hwx) ?_
    refine wpL_run2 (x := .tmp 35) (y := .tmp 36) (.agg (nw.map byteV).toArray) (.agg (bl.map byteV).toArray) (.bool true) (by kernel_rfl) (by kernel_rfl) (by kernel_rfl) (by kernel_rfl) (by kernel_rfl) (by kernel_rfl) (fun wx ρ hwx h0 h1 hc => neq_pageE rfl HNL.out HBL.out HD.out ρ wx h0 h1) ?_
    refine wpL_end (by kernel_rfl) (fun w2 hw2 => ?_)
    simp only [FinL, setL, List.set_cons_zero, List.set_cons_succ]
    have H2 := Lib.hid (H0.out.later hw2)
    clear hw2 C1 CG RG CE H0
    go_wp2
    go_ret
    exact ⟨rfl, H2.out⟩
  · have hne2 : nw = bl := by simpa using hne
    rw [if_neg hne] at hPF
    have HD : Hid (decide (nw = bl) = true) := decide_eq_true hne2
    have HST := Lib.hid h
    have HXX := Lib.hid hx
    have HOK := Lib.hid ok
    have HLY := Lib.hid hy
    by_cases ho : (trip s).off = true
    · rw [if_pos ho] at hPF
      have HE := Lib.hid hPF
      rw [HE.out]
      have HB2 : Hid (∀ wx, Below w.heap.size w wx → Calls Try.prog 40 #[ptr p] wx fun e w' => e = .returned (errV 6) ∧ Own.St B w0 w' (AFl p (trip s) :: Ps)) := by
        intro wx hwx
        refine (begin_fl (HST.out.later hwx) HXX.out HOK.out hN).mono ?_
        intro e w' h'
        rw [if_pos ho] at h'
        obtain ⟨he, x', hx', h2⟩ := h'
        exact ⟨he, flClose hx' h2⟩
      clear H h hx ok hy hth hthere HS0 hyl hoff hoff2 hPF t1 t2 t3 t4 haN cg rg hg2 hnl hcR hcR2 c1 hnw hbl hbll hnS hpp hne hne2 ho HST HXX HOK HLY H0
      go_enter Try.func18, Try.ntmps18
      go_wp2_with (fail)
      refine HS.out.mono ?_
      rintro e w1 ⟨rfl, rfl⟩
      clear HS
      go_wp2_with (fail)
      refine wp_lax_list (by kernel_rfl) (by kernel_rfl) (by kernel_rfl) ?_
      refine wpL_move (.pointer (some ⟨p, 0, none⟩)) rfl (by kernel_rfl) (by kernel_rfl) (by kernel_rfl) (by kernel_rfl) ?_
      refine wpL_run1 (x := .tmp 26) (.pointer (some ⟨p, 0, none⟩)) (.pointer (some ⟨p, 0, none⟩)) (by kernel_rfl) (by kernel_rfl) (by kernel_rfl) (by kernel_rfl) (by kernel_rfl) (fun wx ρ hwx h0 hc => by simp [go_sem, h0, hc]) ?_
      refine wpL_run1 (x := .tmp 27) (.pointer (some ⟨p, 0, none⟩)) (.pointer (some ⟨p, 1, none⟩)) (by kernel_rfl) (by kernel_rfl) (by kernel_rfl) (by kernel_rfl) (by kernel_rfl) (fun wx ρ hwx h0 hc => by simp [go_sem, h0, hc]) ?_
      refine wpL_run1 (x := .tmp 28) (.pointer (some ⟨p, 1, none⟩)) (.slice (some ⟨gN, 0, none⟩) nS x.cN) (by kernel_rfl) (by kernel_rfl) (by kernel_rfl) (by kernel_rfl) (by kernel_rfl) (fun wx ρ hwx h0 hc => by simp [go_sem, h0, hc, C1.out wx hwx]) ?_
      refine wpL_move (.int .i64 (k : Int)) rfl (by kernel_rfl) (by kernel_rfl) (by kernel_rfl) (by kernel_rfl) ?_
      refine wpL_run2 (x := .tmp 29) (y := .tmp 30) (.slice (some ⟨gN, 0, none⟩) nS x.cN) (.int .i64 (k : Int)) (.pointer (some ⟨gN, k, none⟩)) (by kernel_rfl) (by kernel_rfl) (by kernel_rfl) (by kernel_rfl) (by kernel_rfl) (by kernel_rfl) (fun wx ρ hwx h0 h1 hc => idx_rowsE rfl gN nS x.cN k hks ρ wx h0 h1) ?_
      refine wpL_run1 (x := .tmp 31) (.pointer (some ⟨gN, k, none⟩)) (.slice (some ⟨g2, 0, none⟩) pp cR) (by kernel_rfl) (by kernel_rfl) (by kernel_rfl) (by kernel_rfl) (by kernel_rfl) (fun wx ρ hwx h0 hc => by simp [go_sem, h0, hc, CG.out wx hwx]) ?_
      refine wpL_move (.int .i64 (q : Int)) rfl (by kernel_rfl) (by kernel_rfl) (by kernel_rfl) (by kernel_rfl) ?_
      refine wpL_run2 (x := .tmp 32) (y := .tmp 33) (.slice (some ⟨g2, 0, none⟩) pp cR) (.int .i64 (q : Int)) (.pointer (some ⟨g2, q * 128, none⟩)) (by kernel_rfl) (by kernel_rfl) (by kernel_rfl) (by kernel_rfl) (by kernel_rfl) (by kernel_rfl) (fun wx ρ hwx h0 h1 hc => idx_pageE rfl g2 pp cR q hqp ρ wx h0 h1) ?_
      refine wpL_run1 (x := .tmp 34) (.pointer (some ⟨g2, q * 128, none⟩)) (.agg (nw.map byteV).toArray) (by kernel_rfl) (by kernel_rfl) (by kernel_rfl) (by kernel_rfl) (by kernel_rfl) (fun wx ρ hwx h0 hc => load_pageE nw HNL.out rfl ρ (RG.out wx hwx) h0) ?_
      refine wpL_fn (.agg (bl.map byteV).toArray) [] rfl (by kernel_rfl) (by kernel_rfl) (by kernel_rfl) (by kernel_rfl) (fun _ _ => by simp [go_sem]) (fun wx hwx => CE.out wx hwx) ?_
      refine wpL_run2 (x := .tmp 35) (y := .tmp 36) (.agg (nw.map byteV).toArray) (.agg (bl.map byteV).toArray) (.bool false) (by kernel_rfl) (by kernel_rfl) (by kernel_rfl) (by kernel_rfl) (by kernel_rfl) (by kernel_rfl) (fun wx ρ hwx h0 h1 hc => neq_pageE rfl HNL.out HBL.out HD.out ρ wx h0 h1) ?_
      refine wpL_end (by kernel_rfl) (fun w2 hw2 => ?_)
      simp only [FinL, setL, List.set_cons_zero, List.set_cons_succ]
      have HB3 := Lib.hid (HB2.out w2 hw2)
      clear hw2 C1 CG RG CE HB2
      go_wp2_with (fail)
      refine HB3.out.mono ?_
      clear HB3
      rintro e w3 ⟨rfl, h3⟩
      have H3 := Lib.hid h3
      clear h3
      go_wp2
      go_ret
      exact ⟨rfl, H3.out⟩
    · rw [if_neg ho] at hPF
      obtain ⟨t, htt⟩ : ∃ t, t = okd (trip s) := ⟨_, rfl⟩
      rw [← htt] at hPF
      have HE := Lib.hid hPF
      rw [HE.out]
      have HB2 : Hid (∀ wx, Below w.heap.size w wx → Calls Try.prog 40 #[ptr p] wx fun e w' => e = .returned (errV 0) ∧ ∃ x', HRel x' t ∧ Own.St B w0 w' (flParts p x' t ++ Ps)) := by
        intro wx hwx
        refine (begin_fl (HST.out.later hwx) HXX.out HOK.out hN).mono ?_
        intro e w' h'
        rw [if_neg ho, ← htt] at h'
        exact h'
      have okt : Ok t (N + 1) := by rw [htt]; exact okd_trip ok
      have HOT := Lib.hid okt
      have hlog : t.L.length ≤ 10000 := by rw [htt]; show (trip s).L.length ≤ _; rw [(trip_safe s).2.1]; have := ok.log; have := ok.n; omega
      have hsl : t.safe.length = s.safe.length := by rw [htt]; show (trip s).safe.length = _; rw [(trip_safe s).1]
      have hps : t.pp = s.pp := by rw [htt]; show (trip s).pp = _; exact (trip_safe s).2.2.2.2
      have ACT : Hid (ActOk t.safe.length t.pp ⟨k, (q : Int), y⟩) := ⟨by show k < t.safe.length; omega, .inl ⟨by show (0 : Int) ≤ (q : Int); omega, by show (q : Int) < (t.pp : Int); omega, hyl⟩⟩
      have LAT : Hid (∀ (wx : World) (Xs : List Asn), Own.St B w0 wx (Xs ++ Ps) → Given wx ao 128 cap y) := fun wx Xs hst => lies_later HLY.out HST.out hst
      have HYL := Lib.hid hyl
      clear H h hx ok hy hth hthere HS0 hyl hoff hoff2 hPF t1 t2 t3 t4 haN cg rg hg2 hnl hcR hcR2 c1 hnw hbl hbll hnS hpp hne hne2 ho HST HXX HOK HLY H0 htt okt hsl hps
      go_enter Try.func18, Try.ntmps18
      go_wp2_with (fail)
      refine HS.out.mono ?_
      rintro e w1 ⟨rfl, rfl⟩
      clear HS
      go_wp2_with (fail)
      refine wp_lax_list (by kernel_rfl) (by kernel_rfl) (by kernel_rfl) ?_
      refine wpL_move (.pointer (some ⟨p, 0, none⟩)) rfl (by kernel_rfl) (by kernel_rfl) (by kernel_rfl) (by kernel_rfl) ?_
      refine wpL_run1 (x := .tmp 26) (.pointer (some ⟨p, 0, none⟩)) (.pointer (some ⟨p, 0, none⟩)) (by kernel_rfl) (by kernel_rfl) (by kernel_rfl) (by kernel_rfl) (by kernel_rfl) (fun wx ρ hwx h0 hc => by simp [go_sem, h0, hc]) ?_
      refine wpL_run1 (x := .tmp 27) (.pointer (some ⟨p, 0, none⟩)) (.pointer (some ⟨p, 1, none⟩)) (by kernel_rfl) (by kernel_rfl) (by kernel_rfl) (by kernel_rfl) (by kernel_rfl) (fun wx ρ hwx h0 hc => by simp [go_sem, h0, hc]) ?_
      refine wpL_run1 (x := .tmp 28) (.pointer (some ⟨p, 1, none⟩)) (.slice (some ⟨gN, 0, none⟩) nS x.cN) (by kernel_rfl) (by kernel_rfl) (by kernel_rfl) (by kernel_rfl) (by kernel_rfl) (fun wx ρ hwx h0 hc => by simp [go_sem, h0, hc, C1.out wx hwx]) ?_
      refine wpL_move (.int .i64 (k : Int)) rfl (by kernel_rfl) (by kernel_rfl) (by kernel_rfl) (by kernel_rfl) ?_
      refine wpL_run2 (x := .tmp 29) (y := .tmp 30) (.slice (some ⟨gN, 0, none⟩) nS x.cN) (.int .i64 (k : Int)) (.pointer (some ⟨gN, k, none⟩)) (by kernel_rfl) (by kernel_rfl) (by kernel_rfl) (by kernel_rfl) (by kernel_rfl) (by kernel_rfl) (fun wx ρ hwx h0 h1 hc => idx_rowsE rfl gN nS x.cN k hks ρ wx h0 h1) ?_
      refine wpL_run1 (x := .tmp 31) (.pointer (some ⟨gN, k, none⟩)) (.slice (some ⟨g2, 0, none⟩) pp cR) (by kernel_rfl) (by kernel_rfl) (by kernel_rfl) (by kernel_rfl) (by kernel_rfl) (fun wx ρ hwx h0 hc => by simp [go_sem, h0, hc, CG.out wx hwx]) ?_
      refine wpL_move (.int .i64 (q : Int)) rfl (by kernel_rfl) (by kernel_rfl) (by kernel_rfl) (by kernel_rfl) ?_
      refine wpL_run2 (x := .tmp 32) (y := .tmp 33) (.slice (some ⟨g2, 0, none⟩) pp cR) (.int .i64 (q : Int)) (.pointer (some ⟨g2, q * 128, none⟩)) (by kernel_rfl) (by kernel_rfl) (by kernel_rfl) (by kernel_rfl) (by kernel_rfl) (by kernel_rfl) (fun wx ρ hwx h0 h1 hc => idx_pageE rfl g2 pp cR q hqp ρ wx h0 h1) ?_
      refine wpL_run1 (x := .tmp 34) (.pointer (some ⟨g2, q * 128, none⟩)) (.agg (nw.map byteV).toArray) (by kernel_rfl) (by kernel_rfl) (by kernel_rfl) (by kernel_rfl) (by kernel_rfl) (fun wx ρ hwx h0 hc => load_pageE nw HNL.out rfl ρ (RG.out wx hwx) h0) ?_
      refine wpL_fn (.agg (bl.map byteV).toArray) [] rfl (by kernel_rfl) (by kernel_rfl) (by kernel_rfl) (by kernel_rfl) (fun _ _ => by simp [go_sem]) (fun wx hwx => CE.out wx hwx) ?_
      refine wpL_run2 (x := .tmp 35) (y := .tmp 36) (.agg (nw.map byteV).toArray) (.agg (bl.map byteV).toArray) (.bool false) (by kernel_rfl) (by kernel_rfl) (by kernel_rfl) (by kernel_rfl) (by kernel_rfl) (by kernel_rfl) (fun wx ρ hwx h0 h1 hc => neq_pageE rfl HNL.out HBL.out HD.out ρ wx h0 h1) ?_
      refine wpL_end (by kernel_rfl) (fun w2 hw2 => ?_)
      simp only [FinL, setL, List.set_cons_zero, List.set_cons_succ]
      have HB3 := Lib.hid (HB2.out w2 hw2)
      clear hw2 C1 CG RG CE HB2
      go_wp2_with (fail)
      refine HB3.out.mono ?_
      clear HB3
      rintro e w3 ⟨rfl, x', hx', h3⟩
      have G3 := LAT.out w3 _ h3
      obtain ⟨bo, oo, rfl, _, _, _⟩ := vat G3.view (k := 0) (by rw [HYL.out]; decide)
      have RY : Hid (w3.rangeAt bo oo (y.map byteV)) := by
        intro j v hv
        have := vcells G3.view _ rfl j v hv
        rw [add_of] at this
        exact this
      have hat : (Instr.arrayAt 76 (.slice (some ⟨bo, oo, none⟩) 128 cap)).run Try.prog w3 = .ok (.pointer (some ⟨bo, oo, none⟩)) w3 := run_arrayAt w3 76 _ 128 _ 128 cap Try.underlying76 (Nat.le_refl _)
      have IY := Lib.hid (info_pageL y HYL.out)
      obtain ⟨cs, hcs⟩ : ∃ c, c = opCells ⟨k, (q : Int), y⟩ := ⟨_, rfl⟩
      have BE : Hid (Try.prog.built 78 [(1, .int .i64 (k : Int)), (2, .int .i64 (q : Int)), (3, .agg (y.map byteV).toArray)] = some cs.toArray) := by rw [hcs]; exact built_prog k q y HYL.out
      have PF : Hid (Calls Try.prog 41 #[ptr p, .agg cs.toArray] w3 fun e w' => e = .returned (.tuple #[]) ∧ Own.St B w0 w' (AFl p { t with L := t.L ++ [⟨k, (q : Int), y⟩] } :: Ps)) := by
        rw [hcs]
        exact perform_fl h3 hx' HOT.out.shape HOT.out.segs HOT.out.pp HOT.out.acts ⟨k, (q : Int), y⟩ ACT.out hlog
      clear h3 G3 hcs hx' LAT
      go_wp2_with (first
        | (refine wpList_load_mid rfl 76 (.tmp 47) rfl bo oo rfl (y.map byteV) _ RY.out Try.underlying76 rfl IY.out ?_)
        | (refine Fla.wpList_built rfl 78 #[(1, .tmp 44), (2, .tmp 45), (3, .tmp 48)] rfl cs.toArray ?_ ?_; · (simp only [List.map_toArray, List.map_cons, List.map_nil, List.toList_toArray]; exact BE.out)))
      refine PF.out.mono ?_
      clear PF BE RY hat
      rintro e w4 ⟨rfl, h4⟩
      have H4 := Lib.hid h4
      clear h4
      go_wp2
      go_ret
      exact ⟨rfl, H4.out⟩
end
end Fla
end Go.Proofs.Ytepllhfofhehaaa
