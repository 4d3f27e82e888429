/- Merged: LawTopC SrtA SrtB Rdw TbaD TbaE TbaF TbaG SrtD SrtK SrtJ TbaH SrtS TbaU TbaX FlbA -/
import Derived.Deep.CutBlock
import Derived.Deep.DeepCutAuto
import Derived.Sort.AssemblyPlain
import Derived.Sort.LotA
import Derived.BigRegion
import Derived.ArgAppend
import Derived.Sort.LotD4
import Derived.Lib.BitFns
import Derived.Lib.Small
import Derived.Sort.Walk7a
import Derived.Sort.Walk7
import Derived.Sort.WalkA14
import Derived.Sort.Walk13a
import Derived.Deep.LoopGhost
import Derived.Deep.CutRange
import Derived.Deep.MidRow
import Derived.Laws.Rows
import Derived.Test.YtahjjcmeocibbaaGreatDoorQ2
import Derived.Test.YtahjjcmeocibbaaGreatDoorQ3
import Derived.Test.YtahjjcmeocibbaaGreatDoorQ4
import Derived.Test.YtahjjcmeocibbaaGreatDoorQ7
import Derived.Test.YtahjjcmeocibbaaGreatDoorQ8
set_option linter.unusedVariables false
section
namespace Go.Proofs.YtahjjcmeocibbaaGreatDoor
open Go.RowKit Go.Own
namespace Top
open Go.LogM Byt Lg
open Spo (partsTy build1 sumV)
open Go.SpoM (sha)
theorem drop3 {B : Nat} {w0 w : World} {a b c x y z : Asn} {Ps : List Asn} (h : Own.St B w0 w (a :: b :: c :: x :: y :: z :: Ps)) : Own.St B w0 w (a :: b :: c :: Ps) := ((((((h.front 3 rfl).drop 1).front 3 rfl).drop 1).front 3 rfl).drop 1)
set_option maxRecDepth 10000 in
set_option maxHeartbeats 64000000 in
theorem walk_chunks {w : World} (T : Kec.Tab w) {FK : Fla.Kept w} {TK : Tab.Kept w} (K : Lg.Kept w FK TK) (a0 : Option Addr) (len0 cap0 : Nat) (l : List WrD) (cut : Int) (hcut : i64L cut) (a2 : Option Addr) (len2 cap2 : Nat) (fates : List Int) (w0 : inSlice 3 inWr l w.heap.size w [.slice a0 len0 cap0]) (w2 : inSlice 1 (inInt .i64) fates w.heap.size w [.slice a2 len2 cap2]) :
 Calls Tryz.prog 3 #[.slice a0 len0 cap0, .int .i64 cut, .slice a2 len2 cap2] w (RetYes w) := by
 obtain ⟨hlen, hcap, hmax, hat⟩ := wrs_in w0
 have HAT := Lib.hid hat
 have HLEN := Lib.hid hlen
 have hmax2 : cap0 <= 9223372036854775807 := by unfold maxLen at hmax; omega
 have FT : Hid (∀ wx, Below w.heap.size w wx -> w.heap.size <= wx.heap.size -> Fla.LiesI w.heap.size wx [] a2 len2 cap2 fates) := fun wx h1 h2 => fates_in w2 (fun k hk => h1.block k hk) h2
 have C1 := Lib.hid (noted_any w)
 have CF : Hid (∀ wx, Own.St w.heap.size w wx [] -> Calls Tryz.prog 5 #[.int .i64 50, .int .i64 6] wx fun e w' => ∃ p, e = .returned (.tuple #[ptr p, errL 0]) /\ Own.St w.heap.size w w' [FK.A p (FlaM.fresh 50 6)]) := fun wx h => by
  have c := FK.new 50 6 h.below h (by unfold Fla.i64B; omega) (by unfold Fla.i64B; omega)
  rw [show FlaM.mayBe 50 6 = true by decide] at c
  simp only [if_true] at c
  exact c
 have CT : Hid (∀ pf wx, Own.St w.heap.size w wx [FK.A pf (FlaM.fresh 50 6)] -> Calls Tryz.prog 6 #[.int .i64 50] wx fun e w' => ∃ p, e = .returned (.tuple #[ptr p, errL 0]) /\ Own.St w.heap.size w w' [FK.A pf (FlaM.fresh 50 6), TK.A p (TabM.fresh 50)]) := fun pf wx h => by
  have c := TK.new 50 h.below h (by unfold Tab.i64T; omega)
  rw [show TabM.mayBe 50 = true by decide] at c
  simp only [if_true] at c
  exact c.mono fun e w' ⟨p, h1, h2⟩ => ⟨p, h1, h2.swap2⟩
 have CN : Hid (∀ pf pt wx, Own.St w.heap.size w wx [FK.A pf (FlaM.fresh 50 6), TK.A pt (TabM.fresh 50)] -> Calls Tryz.prog 7 #[ptr pf, .int .i64 0, ptr pt] wx fun e w' => ∃ p, e = .returned (.tuple #[ptr p, errL 0]) /\ LSt K w.heap.size w w' p pf pt 0 sChn []) := fun pf pt wx h => by
  have c := K.new 0 h.below h ch_ok (ch_lg.tb) (by decide) (by decide)
  rw [show mayL (FlaM.fresh 50 6) (TabM.fresh 50) 0 = true by kernel_rfl] at c
  simp only [if_true] at c
  exact c
 have CC : Hid (∀ p pf pt wx, LSt K w.heap.size w wx p pf pt 0 sChn [] -> Calls Tryz.prog 8 #[ptr pf, .int .i64 cut] wx fun e w' => e = .returned (.tuple #[]) /\ LSt K w.heap.size w w' p pf pt 0 ⟨FlaM.cut sChn.fs cut, sChn.tb, sChn.a⟩ []) := fun p pf pt wx h => cut_fr (Below.refl _ _) (Nat.le_refl _) h ch_ok (by decide) cut hcut
 have I0 := Lib.hid (ch_new cut hcut.2)
 obtain ⟨σ0, hσ0⟩ : ∃ s : LG, s = ⟨FlaM.cut sChn.fs cut, sChn.tb, sChn.a⟩ := ⟨_, rfl⟩
 rw [<- hσ0] at I0 CC
 have CS0 : Hid (∀ (b : List UInt8) (v : Value) wx, b.length = 256 -> Below w.heap.size w wx -> Spo.PartsAt wx v [b] -> Calls Tryz.prog 11 #[v] wx fun e w' => e = .returned (.agg ((sha b).map byteV).toArray) /\ Below wx.heap.size wx w') := fun b v wx hbl hwx hp => by
  have h := (Spo.kept w T).all v [b] wx hwx hp (by simp [hbl]) (by simp)
  rw [show [b].flatten = b by simp] at h
  exact h
 clear hat hlen w0 hmax w2 hσ0 hcut
 go_enter Tryz.func3, Tryz.ntmps3
 go_wp2_with (fail)
 refine C1.out.mono ?_
 clear C1
 rintro e w1 ⟨rfl, h1⟩
 have H1 := Lib.hid ((Own.St.start w).later h1)
 clear h1
 go_wp2_with (fail)
 refine (CF.out _ H1.out).mono ?_
 clear CF H1
 rintro e w2 ⟨pf, rfl, h2⟩
 have H2 := Lib.hid h2
 clear h2
 go_wp2_with (fail)
 refine (CT.out _ _ H2.out).mono ?_
 clear CT H2
 rintro e w3 ⟨pt, rfl, h3⟩
 have H3 := Lib.hid h3
 clear h3
 go_wp2_with (fail)
 refine (CN.out _ _ _ H3.out).mono ?_
 clear CN H3
 rintro e w4 ⟨p, rfl, h4⟩
 have H4 := Lib.hid h4
 clear h4
 go_wp2_with (fail)
 refine (CC.out _ _ _ _ H4.out).mono ?_
 clear CC H4
 rintro e w5 ⟨rfl, h5⟩
 have H5 := Lib.hid (third (h5.rowFresh (e := 9) (size := 1)))
 clear h5
 go_upto_block 0 with (fail)
 go_cut [14, 15] from 16 to 104 (fun s14 s15 wx => ∃ (N q cnt : Nat) (σ : LG) (bs : List (List UInt8)), q <= 40 /\ N <= 1000 /\ s15 = .int .i64 (cnt : Int) /\ LSt K w.heap.size w wx p pf pt 0 σ [ARow 9 1 s14 bs.length (bs.map strV)] /\ ChE N q σ bs cnt /\ ∀ b ∈ bs, b.length = 256)
 case first =>
  go_wp2_with (fail)
  go_loopw [14, 15, 60] (fun v14 v15 v60 wr => ∃ (i cnt : Nat) (σ : LG) (bs : List (List UInt8)), i <= len0 /\ i <= 40 /\ bs.length = i /\ v60 = .int .i64 (i : Int) /\ v15 = .int .i64 (cnt : Int) /\ LSt K w.heap.size w wr p pf pt 0 σ [ARow 9 1 v14 i (bs.map strV)] /\ ChE (2 + 10 * i) i σ bs cnt /\ ∀ b ∈ bs, b.length = 256) (fun _ _ v _ => len0 - (intOf v).toNat)
  case atStart => exact ⟨0, 0, σ0, [], Nat.zero_le _, Nat.zero_le _, rfl, rfl, rfl, H5.out, I0.out, fun b hb => by cases hb⟩
  case round =>
   obtain ⟨i, cnt, σ, bs, hil, hi40, hbl, rfl, rfl, hH, hE, h256⟩ := hrel
   have H256 := Lib.hid h256
   clear h256
   have H := Lib.hid hH
   have E := Lib.hid hE
   obtain ⟨aA, cA, rfl⟩ := hH.rowForm 3 rfl
   have HBL := Lib.hid hbl
   clear hH hE hbl H5 I0
   by_cases hi : (i : Int) < (len0 : Int)
   · have hin : i < l.length := by have := HLEN.out; omega
     obtain ⟨b, o, rfl, hb, hact⟩ := HAT.out (by intro e; rw [e] at hin; simp at hin)
     obtain ⟨ad, cd, hrng, hold, hno⟩ := hact wr (fun k hk => H.out.below.block k hk) i hin
     obtain ⟨x, hx⟩ : ∃ x, x = l[i] := ⟨_, rfl⟩
     rw [<- hx] at hrng hold hno
     obtain ⟨nd, hnd⟩ : ∃ n, n = x.front.length := ⟨_, rfl⟩
     rw [<- hnd] at hrng hno
     have hRA := round_E (P := Tryz.prog) (ty := 39) (z := zWr) H.out hrng rfl (by kernel_rfl) (by intro v hv; simp [wrC] at hv; rcases hv with rfl | rfl | rfl <;> rfl)
     obtain ⟨vs, hvs⟩ : ∃ v, v = wrC x (.slice ad nd cd) := ⟨_, rfl⟩
     rw [<- hvs] at hRA
     have RA := Lib.hid hRA
     obtain ⟨b5, hb5⟩ : ∃ b, b = wr.heap.size := ⟨_, rfl⟩
     obtain ⟨W1, hW1⟩ : ∃ W, W = wr.alloc (.cells zWr.toArray 39) := ⟨_, rfl⟩
     obtain ⟨W2, hW2⟩ : ∃ W, W = W1.setCells b5 0 vs.toArray.toList := ⟨_, rfl⟩
     have hst := hRA.st
     rw [<- hb5, <- hW1, <- hW2] at hst
     have TH := Lib.hid hRA.there
     rw [<- hb5, <- hW1] at TH
     have hst3 := third hst
     have H2 := Lib.hid hst3
     obtain ⟨cc, hcc⟩ : ∃ c, c = x.c.toNat := ⟨_, rfl⟩
     have c0 : W2.cell? ⟨b5, 0, none⟩ = some (.slice ad nd cd) := (hst3.cellV 3 rfl 0 (by rw [hvs]; rfl)).1
     have c1 : W2.cell? ⟨b5, 1, none⟩ = some (.int .u8 (cc : Int)) := (hst3.cellV 3 rfl 1 (by rw [hvs, hcc]; rfl)).1
     have ZA := Lib.hid zero_wr
     have HB5 := Lib.hid hb5
     have HW1 := Lib.hid hW1
     have HW2 := Lib.hid hW2
     by_cases h40 : (40 : Int) <= (i : Int)
     · clear hact hrng hold hno hx hnd hRA hvs hb5 hW1 hW2 hst hst3 H hcc c0 c1
       go_wp2_with (first
        | (refine wpList_load_mid rfl 39 (.tmp 63) rfl b (o + i * 3) rfl vs _ RA.out.range Tryz.underlying39 rfl RA.out.info ?_)
        | (refine Own.wpList_allocZ rfl 39 rfl zWr.toArray ZA.out ?_; rw [<- HB5.out, <- HW1.out])
        | (refine wpList_store_mid rfl 39 (.tmp 17) (.tmp 64) rfl b5 0 vs.toArray rfl rfl TH.out RA.out.info2 RA.out.one ?_; rw [<- HW2.out]))
       go_meet
       refine ⟨2 + 10 * i, i, cnt, σ, bs, hi40, by omega, rfl, ?_, E.out, H256.out⟩
       rw [HBL.out]
       exact (H2.out.front 3 rfl).drop 1
     · have h39 : i < 40 := by omega
       obtain ⟨bb, hbb⟩ : ∃ b, b = blk x.front x.c := ⟨_, rfl⟩
       have hbbl : bb.length = 256 := by rw [hbb]; exact blk_len _ _
       have CB : Hid (Calls Tryz.prog 9 #[.slice ad nd cd, .int .u8 (cc : Int)] W2 fun e w' => ∃ g, e = .returned (.slice (some ⟨g, 0, none⟩) 256 256) /\ Own.St w.heap.size w w' (AB (some ⟨g, 0, none⟩) 256 256 bb :: (K.A p pf pt 0 σ.fs.pp σ.tb σ.a :: FK.A pf σ.fs :: TK.A pt σ.tb :: [AVals b5 39 vs, ARow 9 1 (.slice aA i cA) i (bs.map strV)]))) := by
        rw [hbb, hcc]
        exact block_any hst3 ad nd cd x.front x.c (hold.same (fun k hk => (hst3.below.block k hk).trans (H.out.below.block k hk).symm)) hnd.symm hno
       obtain ⟨S, hS⟩ : ∃ S, S = sha bb := ⟨_, rfl⟩
       have hSl : S.length = 32 := by rw [hS]; exact Go.SpoM.sha_len bb
       obtain ⟨P, hP⟩ : ∃ P, P = LzM.pack bb := ⟨_, rfl⟩
       obtain ⟨m, hm⟩ : ∃ m, m = P.length := ⟨_, rfl⟩
       have hm257 : m <= 257 := by rw [hm, hP]; have := LzM.pack_len bb; omega
       obtain ⟨nt, hnt⟩ : ∃ nt, nt = chN i bb := ⟨_, rfl⟩
       have hfit : RecM.Fits nt := by rw [hnt]; exact chN_fits i bb (by omega)
       have hntd : nt.data = P := by rw [hnt, hP]; rfl
       have C4 : Hid (∀ wx g, Below w.heap.size w wx -> Given wx (some ⟨g, 0, none⟩) 256 256 bb -> Calls Tryz.prog 11 #[.slice (some ⟨wx.heap.size, 0, none⟩) 1 1] (wx.alloc (.cells #[.slice (some ⟨g, 0, none⟩) 256 256] 37)) fun e w' => e = .returned (.agg (S.map byteV).toArray) /\ Below wx.heap.size wx w') := fun wx g hwx h => by
        have hb1 := ((Own.St.start wx).alloc (.cells #[.slice (some ⟨g, 0, none⟩) 256 256] 37)).below
        rw [hS]
        exact (CS0.out bb _ _ hbbl (hwx.trans (hb1.mono hwx.size)) (Spo.parts_one h.view h.size h.room.1 h.room.2 h.nil _)).mono fun e w' h2 => ⟨h2.1, hb1.trans (h2.2.mono hb1.size)⟩
       have CP : Hid (∀ wx g, Given wx (some ⟨g, 0, none⟩) 256 256 bb -> Calls Tryz.prog 12 #[.slice (some ⟨g, 0, none⟩) 256 256] wx fun e w' => ∃ a c, e = .returned (.slice a m c) /\ Own.St wx.heap.size wx w' [AB a m c P]) := fun wx g h => by
        rw [hm, hP]
        exact Lz.pack_own _ 256 256 bb wx h (by decide)
       have BK : Hid (Tryz.prog.built 51 [(0, .agg (S.map byteV).toArray)] = some (Rec.keyC S 0).toArray) := built_key S hSl
       have BN : Hid (∀ (a : Option Addr) (k : Nat), Tryz.prog.built 54 [(0, .int .u8 1), (2, .int .u64 (i : Int)), (3, .agg (Rec.keyC S 0).toArray), (4, .slice a m k)] = some (Rec.ntC nt (.slice a m k)).toArray) := fun a k => by
        rw [hnt, hS]
        exact built_nc (i : Int) a m k _ (Rec.keyC_len _ 0 (Go.SpoM.sha_len bb))
       have CA : Hid (∀ (wx : World) (g : Nat) (a : Option Addr) (c : Nat), LSt K w.heap.size w wx p pf pt 0 σ [AB a m c P, AB (some ⟨g, 0, none⟩) 256 256 bb, AVals b5 39 vs, ARow 9 1 (.slice aA i cA) i (bs.map strV)] -> Calls Tryz.prog 10 #[ptr p, .agg (Rec.ntC nt (.slice a m c)).toArray] wx fun e w' => e = .returned (.tuple #[.agg (plcA (appendL 0 σ nt).2.1), errL (appendL 0 σ nt).2.2]) /\ LSt K w.heap.size w w' p pf pt 0 (appendL 0 σ nt).1 [AB a m c P, AB (some ⟨g, 0, none⟩) 256 256 bb, AVals b5 39 vs, ARow 9 1 (.slice aA i cA) i (bs.map strV)]) := fun wx g a c h =>
        K.append nt a m c h.below h E.out.lg (by omega) hfit ⟨by rw [hntd]; exact given_own h 3 rfl, .inl ⟨0, _, by rw [hntd]; rfl⟩⟩ (by omega)
       have hap := E.out.append h39 bb hbbl HBL.out
       rw [<- hnt] at hap
       have hcv : (i : Int) % 18446744073709551616 = (i : Int) := by omega
       obtain ⟨sf, hsf⟩ : ∃ s, s = x.safe := ⟨_, rfl⟩
       have hvs2 : vs[2]? = some (.bool sf) := by rw [hvs, hsf]; rfl
       have VS2 := Lib.hid hvs2
       have BBL := Lib.hid hbbl
       have B1 : Hid (i + 1 <= 100000000) := by show _ <= _; omega
       clear hact hrng hold hno hx hnd hRA hvs hb5 hW1 hW2 hst hst3 H hcc hbb hbbl hS hSl hP hm hnt hfit hntd hsf hvs2 h39 E
       go_wp2_with (first
        | (refine wpList_load_mid rfl 39 (.tmp 63) rfl b (o + i * 3) rfl vs _ RA.out.range Tryz.underlying39 rfl RA.out.info ?_)
        | (refine Own.wpList_allocZ rfl 39 rfl zWr.toArray ZA.out ?_; rw [<- HB5.out, <- HW1.out])
        | (refine wpList_store_mid rfl 39 (.tmp 17) (.tmp 64) rfl b5 0 vs.toArray rfl rfl TH.out RA.out.info2 RA.out.one ?_; rw [<- HW2.out]))
       refine CB.out.mono ?_
       clear CB RA TH c0 c1 H2
       rintro e w6 ⟨g, rfl, h6⟩
       have H6 := Lib.hid (third h6)
       have G6 := Lib.hid (given_own h6 0 rfl)
       clear h6
       go_wp2_with (fail)
       refine (C4.out _ _ H6.out.below G6.out).mono ?_
       clear C4
       rintro e w7 ⟨rfl, hb7⟩
       have H7 := Lib.hid (H6.out.later hb7)
       have G7 := Lib.hid (G6.out.later hb7)
       clear hb7 H6 G6
       go_wp2_with (refine Own.wpList_built rfl 51 #[(0, .tmp 78)] rfl (Rec.keyC S 0).toArray ?_ ?_; · (simp only [List.map_toArray, List.map_cons, List.map_nil, List.toList_toArray]; exact BK.out))
       refine (CP.out _ _ G7.out).mono ?_
       clear CP G7 BK
       rintro e w8 ⟨a8, c8, rfl, h8⟩
       have H8 := Lib.hid (third (H7.out.adoptNew h8))
       have hCA := CA.out _ _ _ _ H8.out
       have hBN := BN.out a8 c8
       obtain ⟨cs, hcs⟩ : ∃ cs, cs = Rec.ntC nt (.slice a8 m c8) := ⟨_, rfl⟩
       rw [<- hcs] at hCA hBN
       have BN1 := Lib.hid hBN
       clear h8 H7 BN CA hBN hcs
       rcases hap with ⟨σ', pl, hap, hE2⟩ | ⟨σ', pl, hap, hE2⟩
       · rw [hap] at hCA
         have CA1 := Lib.hid hCA
         have E2 := Lib.hid hE2
         clear hCA hap hE2 H8
         go_wp2_with (refine Own.wpList_built rfl 54 #[(0, .const (.int .u8 1)), (2, .tmp 75), (3, .tmp 79), (4, .tmp 81)] rfl cs.toArray ?_ ?_; · (simp only [List.map_toArray, List.map_cons, List.map_nil, List.toList_toArray]; exact BN1.out))
         refine CA1.out.mono ?_
         clear CA1 BN1
         rintro e w9 ⟨rfl, h9⟩
         have h10 := h9.alloc (.cells (plcA pl) 42)
         have G10 := Lib.hid (given_own h10 4 rfl)
         have H11 := Lib.hid (h10.alloc (.cells #[strV bb] 9))
         have hsz : (w9.alloc (.cells (plcA pl) 42)).heap.size = w9.heap.size + 1 := size_alloc' _ _
         have hsc := strCell0 (w9.alloc (.cells (plcA pl) 42)) bb 9
         rw [hsz] at hsc
         have SC := Lib.hid hsc
         clear hsz hsc
         have R256 : Hid (∀ b ∈ bs ++ [bb], b.length = 256) := by
          intro b hb
          rcases List.mem_append.1 hb with h | h
          · exact H256.out b h
          · rw [List.mem_singleton.1 h]; exact BBL.out
         have RL : Hid ((bs ++ [bb]).length = i + 1) := by show _ = _; rw [List.length_append, HBL.out]; rfl
         have RM : Hid ((bs ++ [bb]).map strV = bs.map strV ++ [strV bb]) := by show _ = _; rw [List.map_append]; rfl
         clear h9 h10
         cases sf
         · go_wp2_with (first
            | (refine wpList_str8 rfl (.tmp 91) rfl (some ⟨g, 0, none⟩) 256 256 rfl _ bb G10.out.view BBL.out ?_)
            | (at_builtin; refine wpList_one_append Byt.oneStr rfl (.tmp 90) (.tmp 93) rfl H11.out 6 rfl rfl ⟨w9.heap.size + 1, 0, none⟩ (strV bb) rfl rfl SC.out rfl B1.out (by decide) ?_; intro a12 c12 w12 h; have H12 := Lib.hid h; have d2 := (h.cellV 5 rfl 2 VS2.out).1; clear h))
           go_roundw
           case rel =>
            refine ⟨i + 1, cnt, σ', bs ++ [bb], by omega, by omega, RL.out, by go_num, rfl, ?_, E2.out.more (by omega), R256.out⟩
            rw [RM.out]
            exact drop3 H12.out
           case measure => simp [intOf]; omega
         · have hPB := E2.out.barrier
           have hBAR : ∀ wx Ps, LSt K w.heap.size w wx p pf pt 0 σ' Ps -> Calls Tryz.prog 13 #[ptr pf] wx fun e w' => e = .returned (errL (FlaM.barrier σ'.fs).2) /\ LSt K w.heap.size w w' p pf pt 0 ⟨(FlaM.barrier σ'.fs).1, σ'.tb, σ'.a⟩ Ps := fun wx Ps h => barrier_fr (Below.refl _ _) (Nat.le_refl _) h E2.out.lg.fs (by omega)
           generalize FlaM.barrier σ'.fs = rb at hBAR hPB
           obtain ⟨er, her⟩ : ∃ e, e = rb.2 := ⟨_, rfl⟩
           rw [<- her] at hBAR hPB
           rw [RL.out] at hPB
           have BAR := Lib.hid hBAR
           have HPB := Lib.hid hPB
           clear hPB hBAR her
           go_wp2_with (first
            | (refine wpList_str8 rfl (.tmp 91) rfl (some ⟨g, 0, none⟩) 256 256 rfl _ bb G10.out.view BBL.out ?_)
            | (at_builtin; refine wpList_one_append Byt.oneStr rfl (.tmp 90) (.tmp 93) rfl H11.out 6 rfl rfl ⟨w9.heap.size + 1, 0, none⟩ (strV bb) rfl rfl SC.out rfl B1.out (by decide) ?_; intro a12 c12 w12 h; have H12 := Lib.hid h; have d2 := (h.cellV 5 rfl 2 VS2.out).1; clear h))
           refine (BAR.out _ _ H12.out).mono ?_
           clear BAR d2
           rintro e w13 ⟨rfl, h13⟩
           have H13 := Lib.hid (drop3 h13)
           clear h13 H12
           rcases HPB.out with ⟨h0, hE3⟩ | ⟨h0, hE3⟩
           · subst h0
             have E3 := Lib.hid hE3
             clear HPB hE3
             go_wp2_with (fail)
             go_roundw
             case rel =>
              refine ⟨i + 1, i + 1, ⟨rb.1, σ'.tb, σ'.a⟩, bs ++ [bb], by omega, by omega, RL.out, by go_num, by go_num, ?_, E3.out.more (by omega), R256.out⟩
              rw [RM.out]
              exact H13.out
             case measure => simp [intOf]; omega
           · subst h0
             have E3 := Lib.hid hE3
             clear HPB hE3
             go_wp2_with (fail)
             go_roundw
             case rel =>
              refine ⟨i + 1, cnt, ⟨rb.1, σ'.tb, σ'.a⟩, bs ++ [bb], by omega, by omega, RL.out, by go_num, rfl, ?_, E3.out.more (by omega), R256.out⟩
              rw [RM.out]
              exact H13.out
             case measure => simp [intOf]; omega
       · rw [hap] at hCA
         have CA1 := Lib.hid hCA
         have E2 := Lib.hid hE2
         clear hCA hap hE2 H8
         go_wp2_with (refine Own.wpList_built rfl 54 #[(0, .const (.int .u8 1)), (2, .tmp 75), (3, .tmp 79), (4, .tmp 81)] rfl cs.toArray ?_ ?_; · (simp only [List.map_toArray, List.map_cons, List.map_nil, List.toList_toArray]; exact BN1.out))
         refine CA1.out.mono ?_
         clear CA1 BN1
         rintro e w9 ⟨rfl, h9⟩
         have H9 := Lib.hid (h9.alloc (.cells (plcA pl) 42))
         clear h9
         go_wp2_with (fail)
         go_meet
         refine ⟨2 + 10 * i + 8, i + 1, cnt, σ', bs, by omega, by omega, rfl, ?_, E2.out, H256.out⟩
         rw [HBL.out]
         exact drop3 H9.out
   · go_wp2_with (fail)
     go_meet
     exact ⟨2 + 10 * i, i, cnt, σ, bs, hi40, by omega, rfl, by rw [HBL.out]; exact H.out, E.out, H256.out⟩
 case rest =>
  obtain ⟨N, q, cnt, σ, bs, hq, hN, rfl, hH, hE, h256⟩ := hcut
  obtain ⟨aA, cA, rfl⟩ := hH.rowForm 3 rfl
  obtain ⟨k, s, seqs, found, hsl, hcu, hFD⟩ := hE.crash hq fates
  have LGO := Lib.hid hE.lg
  have FD := Lib.hid hFD
  have H256 := Lib.hid h256
  obtain ⟨nb, hnb⟩ : ∃ x, x = bs.length := ⟨_, rfl⟩
  have hnb40 : nb <= 40 := by have := hE.few; omega
  have HNB := Lib.hid hnb
  rw [<- hnb] at hH ⊢
  obtain ⟨σc, hσc⟩ : ∃ s : LG, s = ⟨FlaM.crash σ.fs fates, σ.tb, σ.a⟩ := ⟨_, rfl⟩
  rw [<- hσc] at FD
  have CSE : Hid (Calls Tryz.prog 14 #[ptr pt] wc fun e w' => ∃ ao c, e = .returned (.slice ao s c) /\ LSt K w.heap.size w w' p pf pt 0 σ [Tab.RowI (.slice ao s c) (List.range s) s, ARow 9 1 (.slice aA nb cA) nb (bs.map strV)]) := by
   have c := TK.sealedUp hH.below (hH.front 2 rfl) LGO.out.tb (by omega) hsl
   refine c.mono ?_
   rintro e w' ⟨ao, c, h1, h2⟩
   exact ⟨ao, c, h1, ((third h2).front 2 rfl).front 2 rfl⟩
  obtain ⟨cv, hcv⟩ : ∃ x : Nat, x = (TabM.cur σ.tb).getD 0 := ⟨_, rfl⟩
  obtain ⟨cb, hcb⟩ : ∃ x, x = (TabM.cur σ.tb).isSome := ⟨_, rfl⟩
  have CCU : Hid (∀ wx Ps, LSt K w.heap.size w wx p pf pt 0 σ Ps -> Calls Tryz.prog 15 #[ptr pt] wx fun e w' => e = .returned (.tuple #[.int .i64 (cv : Int), .bool cb]) /\ Below wx.heap.size wx w') := fun wx Ps hx => by
   have c := TK.cur hx.below (hx.front 2 rfl) LGO.out.tb (by omega)
   rw [hcv, hcb]
   exact c
  have hcu2 : (cb = false /\ k = s) \/ (cb = true /\ cv = s /\ k = s + 1) := by
   rcases hcu with ⟨h1, h2⟩ | ⟨h1, h2⟩
   · exact .inl ⟨by rw [hcb, h1]; rfl, h2⟩
   · exact .inr ⟨by rw [hcb, h1]; rfl, by rw [hcv, h1]; rfl, h2⟩
  have CR : Hid (∀ wx Ps, LSt K w.heap.size w wx p pf pt 0 σ Ps -> Calls Tryz.prog 16 #[ptr pf, .slice a2 len2 cap2] wx fun e w' => e = .returned (.tuple #[]) /\ LSt K w.heap.size w w' p pf pt 0 σc Ps) := fun wx Ps hx => by
   rw [hσc]
   exact crash_fr (Below.refl _ _) (Nat.le_refl _) hx LGO.out.fs (by omega) a2 len2 cap2 fates (FT.out wx hx.below hx.size)
  have hk40 := hFD.k40
  have CS : Hid (∀ (j : Nat) wx Ps, j < k -> LSt K w.heap.size w wx p pf pt 0 σc Ps -> Calls Tryz.prog 17 #[ptr p, .int .i64 (j : Int), .int .i64 1] wx fun e w' => ∃ (v : Value) (gs : List GSl), gs.map (fun g => g.2.2) = (found j).map (fun n => n.data) /\ e = .returned (.tuple #[.int .u64 (seqs j : Int), v, errL 0]) /\
   LSt K w.heap.size w w' p pf pt 0 σc (ARow 64 40 v (found j).length (entsC (ents (j : Int) 1 (found j)) gs) :: AGivens gs :: Ps)) := fun j wx Ps hj hx => by
   have c := K.scan (j : Int) 1 hx.below hx FD.out.lg (by omega) (by constructor <;> omega) (by constructor <;> omega)
   rw [FD.out.scan j (by omega)] at c
   refine c.mono ?_
   rintro e w' ⟨v, gs, h1, h2, h3⟩
   simp only at h1 h2 h3
   refine ⟨v, gs, ?_, h2, ?_⟩
   · rw [h1, <- ents_notes (j : Int) (found j) 1, List.map_map]
     rw [ents_notes]
     rfl
   · rw [ents_len] at h3
     exact behind2 h3
  have HCNT := Lib.hid hFD.cnt
  clear hsl hcu hFD hE h256 hσc hcv hcb hH FT hq hN hnb
  go_wp2_with (fail)
  refine CSE.out.mono ?_
  clear CSE
  rintro e w1 ⟨aS, cS, rfl, h1⟩
  have H1 := Lib.hid h1
  have CCU1 := Lib.hid (CCU.out _ _ h1)
  clear h1 CCU
  go_wp2_with (fail)
  refine CCU1.out.mono ?_
  clear CCU1
  rintro e w2 ⟨rfl, hb2⟩
  have H2 := Lib.hid (H1.out.later hb2)
  clear hb2 H1
  go_upto_if 112 with (fail)
  go_cut [21] from 113 to 116 (fun s21 wx => LSt K w.heap.size w wx p pf pt 0 σ [ARow 3 1 s21 k ((List.range k).map Tab.iV), ARow 9 1 (.slice aA nb cA) nb (bs.map strV)])
  case first =>
   rcases hcu2 with ⟨rfl, rfl⟩ | ⟨rfl, rfl, rfl⟩
   · go_wp2_with (fail)
     go_meet
     exact H2.out
   · have H3 := Lib.hid (H2.out.alloc (.cells #[.int .i64 (cv : Int)] 3))
     have SC : Hid ((w2.alloc (.cells #[.int .i64 (cv : Int)] 3)).cell? ⟨w2.heap.size, 0, none⟩ = some (.int .i64 (cv : Int))) := by show _ = _; simp
     have B1 : Hid (cv + 1 <= 100000000) := by show _ <= _; omega
     clear H2
     go_wp2_with (at_builtin; refine wpList_one_append Byt.oneInt rfl (.tmp 113) (.tmp 115) rfl H3.out 3 rfl rfl ⟨w2.heap.size, 0, none⟩ (.int .i64 (cv : Int)) rfl rfl SC.out rfl B1.out (by decide) ?_; intro a12 c12 w12 h; have H4 := Lib.hid h; clear h)
     go_meet
     rw [List.range_succ, List.map_append]
     exact H4.out
  case rest =>
   obtain ⟨aT, cT, rfl⟩ := hcut.rowForm 3 rfl
   have H3 := Lib.hid hcut
   clear hcut hcu2 H2
   go_wp2_with (fail)
   refine (CR.out _ _ H3.out).mono ?_
   clear CR H3
   rintro e w3 ⟨rfl, h3⟩
   have H4 := Lib.hid h3
   clear h3
   go_wp2_with (fail)
   go_loopw [24, 122] (fun v24 v122 wx => ∃ (j n : Nat), j <= k /\ n = totF found j /\ v24 = .int .i64 (n : Int) /\ v122 = .int .i64 (j : Int) /\ LSt K w.heap.size w wx p pf pt 0 σc [ARow 3 1 (.slice aT k cT) k ((List.range k).map Tab.iV), ARow 9 1 (.slice aA nb cA) nb (bs.map strV)]) (fun _ v _ => k - (intOf v).toNat)
   case atStart => exact ⟨0, 0, Nat.zero_le _, rfl, rfl, rfl, H4.out⟩
   case round =>
    obtain ⟨j, n, hjk, hn, rfl, rfl, hH⟩ := hrel
    have H := Lib.hid hH
    have HN := Lib.hid hn
    by_cases hj : (j : Int) < (k : Int)
    · have hjl : j < k := by omega
      obtain ⟨gS, rfl, ⟨u, hu, hc⟩, _, _⟩ := hH.rowAt 3 rfl j (by omega)
      have hu2 : u = .int .i64 (j : Int) := by
       rw [List.getElem?_map, List.getElem?_range hjl] at hu
       exact (Option.some.inj hu).symm
      subst hu2
      have CS1 := Lib.hid (CS.out j _ _ hjl H.out)
      obtain ⟨nl, hnl⟩ : ∃ x, x = (found j).length := ⟨_, rfl⟩
      rw [<- hnl] at CS1
      have hnl40 : nl <= 40 := by
       rcases Nat.eq_zero_or_pos nl with h0 | h0
       · omega
       · obtain ⟨hh, _⟩ := FD.out.at_ j (nl - 1) hjl (by omega)
         have := HNB.out
         omega
      have HNL := Lib.hid hnl
      clear hH hu hn hnl H4
      go_wp2_with (fail)
      refine CS1.out.mono ?_
      clear CS1 hc
      rintro e w8 ⟨vE, ge, hge, rfl, h8⟩
      obtain ⟨aE, cE, rfl⟩ := h8.rowForm 3 rfl
      have H8 := Lib.hid h8
      have HGE := Lib.hid hge
      clear h8 hge H
      go_wp2_with (fail)
      go_loopw [24, 137] (fun v24 v137 wx => ∃ (x n : Nat), x <= nl /\ n = totF found j + x /\ v24 = .int .i64 (n : Int) /\ v137 = .int .i64 (x : Int) /\ LSt K w.heap.size w wx p pf pt 0 σc [ARow 64 40 (.slice aE nl cE) nl (entsC (ents (j : Int) 1 (found j)) ge), AGivens ge, ARow 3 1 (.slice (some ⟨gS, 0, none⟩) k cT) k ((List.range k).map Tab.iV), ARow 9 1 (.slice aA nb cA) nb (bs.map strV)]) (fun _ v _ => nl - (intOf v).toNat)
      case atStart => exact ⟨0, n, Nat.zero_le _, HN.out, rfl, rfl, H8.out⟩
      case round =>
       obtain ⟨x, n, hxn, hn, rfl, rfl, hH⟩ := hrel
       have H := Lib.hid hH
       have HN3 := Lib.hid hn
       clear hH hn HN H8
       by_cases hx : (x : Int) < (nl : Int)
       · have hxl : x < nl := by omega
         have hxf : x < (found j).length := by rw [<- HNL.out]; exact hxl
         obtain ⟨hnA, hfx⟩ := FD.out.at_ j x hjl hxf
         simp only [<- HN3.out] at hnA hfx
         obtain ⟨bn, hbn⟩ : ∃ b, b = bs[n] := ⟨_, rfl⟩
         rw [<- hbn] at hfx
         have hbnl : bn.length = 256 := by rw [hbn]; exact H256.out _ (List.getElem_mem _)
         obtain ⟨nt, hnt⟩ : ∃ t, t = chN n bn := ⟨_, rfl⟩
         rw [<- hnt] at hfx
         have hsum : nt.sum.length = 32 := by rw [hnt]; exact Go.SpoM.sha_len bn
         have hsums : ∀ e ∈ ents (j : Int) 1 (found j), e.note.sum.length = 32 := by
          intro e he
          obtain ⟨y, hy, rfl⟩ := List.getElem_of_mem he
          obtain ⟨hy2, hye⟩ := ents_get (j : Int) (found j) 1 y hy
          rw [hye]
          obtain ⟨_, h2⟩ := FD.out.at_ j y hjl hy2
          rw [h2]
          exact Go.SpoM.sha_len _
         have hgel : ge.length = (found j).length := by have := congrArg List.length HGE.out; simpa using this
         have hEl : (ents (j : Int) 1 (found j)).length = (found j).length := ents_len _ _ _
         have hxE : x < (ents (j : Int) 1 (found j)).length := by rw [hEl]; exact hxf
         have hxg : x < ge.length := by rw [hgel]; exact hxf
         obtain ⟨_, hEn⟩ := ents_get (j : Int) (found j) 1 x hxE
         rw [hfx] at hEn
         obtain ⟨e, he⟩ : ∃ e, e = (ents (j : Int) 1 (found j))[x] := ⟨_, rfl⟩
         rw [<- he] at hEn
         obtain ⟨g1, hg1⟩ : ∃ g, g = ge[x] := ⟨_, rfl⟩
         have hd1 : g1.2.2 = nt.data := by
          have h := congrArg (fun l => l[x]?) HGE.out
          simp only [List.getElem?_map] at h
          rw [List.getElem?_eq_getElem hxg, List.getElem?_eq_getElem hxf, <- hg1, hfx] at h
          exact Option.some.inj h
         have hnlt : n < nb := by rw [HNB.out]; exact hnA
         obtain ⟨gE, rfl, _, _, _⟩ := H.out.rowAt 3 rfl (x * 40) (by omega)
         obtain ⟨gA, rfl, _, _, _⟩ := H.out.rowAt 6 rfl n (by omega)
         have hrng : wr.rangeAt gE (x * 40) (entC e (gslV g1)) := by
          intro q v hv
          have hq : q < 40 := by have := (List.getElem?_eq_some_iff.1 hv).1; rwa [entC_len _ _ (by rw [hEn]; exact hsum)] at this
          rw [(H.out.rowRange 3 rfl (x * 40 + q) (by omega)).1]
          exact entsC_at _ _ (by rw [hgel, hEl]) hsums x hxE hxg q v (by rw [<- he, <- hg1]; exact hv)
         have hRA := round_E (P := Tryz.prog) (ty := 64) (z := zEnt) H.out hrng (by rw [entC_len _ _ (by rw [hEn]; exact hsum), zEnt_len]) (by rw [zEnt_len]; exact info_ent zEnt zEnt_len) (entC_one rfl)
         obtain ⟨m, hm⟩ : ∃ m, m = nt.data.length := ⟨_, rfl⟩
         obtain ⟨ga, hga⟩ : ∃ a, a = g1.1 := ⟨_, rfl⟩
         obtain ⟨gc, hgc⟩ : ∃ a, a = g1.2.1 := ⟨_, rfl⟩
         have hgs : gslV g1 = .slice ga m gc := by unfold gslV; rw [hd1, hm, hga, hgc]
         obtain ⟨es, hes⟩ : ∃ c, c = entC e (gslV g1) := ⟨_, rfl⟩
         rw [<- hes] at hRA
         have RA := Lib.hid hRA
         obtain ⟨b9, hb9⟩ : ∃ b, b = wr.heap.size := ⟨_, rfl⟩
         obtain ⟨W1, hW1⟩ : ∃ W, W = wr.alloc (.cells zEnt.toArray 64) := ⟨_, rfl⟩
         obtain ⟨W2, hW2⟩ : ∃ W, W = W1.setCells b9 0 es.toArray.toList := ⟨_, rfl⟩
         have hst := hRA.st
         rw [<- hb9, <- hW1, <- hW2] at hst
         have TH := Lib.hid hRA.there
         rw [<- hb9, <- hW1] at TH
         have hst3 := third hst
         have H2 := Lib.hid hst3
         have hesn : ∀ q v, (Rec.ntC nt (.slice ga m gc))[q]? = some v -> es[3 + q]? = some v := by
          intro q v hv
          rw [hes]
          unfold entC
          rw [show 3 + q = q + 1 + 1 + 1 by omega, List.getElem?_cons_succ, List.getElem?_cons_succ, List.getElem?_cons_succ, hEn, hgs]
          exact hv
         obtain ⟨S, hS⟩ : ∃ S, S = sha bn := ⟨_, rfl⟩
         have SL : Hid (S.length = 32) := by show _ = _; rw [hS]; exact Go.SpoM.sha_len bn
         have GV : Hid (∀ wx, Below W2.heap.size W2 wx -> Given wx ga m gc nt.data) := fun wx hwx => by
          obtain ⟨v1, v2, v3, v4⟩ := (hst3.later hwx).givenAt 5 rfl g1 (by rw [hg1]; exact List.getElem_mem _)
          rw [hd1] at v1 v2
          rw [hga, hgc, hm]
          exact ⟨v1, rfl, ⟨v2, v3⟩, v4⟩
         have d39 : W2.cell? ⟨b9, 39, none⟩ = some (.slice ga m gc) := (hst3.cellV 3 rfl 39 (hesn 36 _ (Rec.ntC_data nt _ hsum))).1
         have hpk : nt.data = LzM.pack bn := by rw [hnt]; rfl
         have hm257 : m <= 257 := by rw [hm, hpk]; have := LzM.pack_len bn; omega
         have CU : Hid (Calls Tryz.prog 18 #[.slice ga m gc, .int .i64 256] W2 fun e w' => ∃ az cz, e = .returned (.tuple #[.slice az 256 cz, .int .i64 0]) /\ Given w' az 256 cz bn /\ Below W2.heap.size W2 w') :=
          Lz.unpack_st (Lz.kept W2) (Below.refl _ _) (GV.out W2 (Below.refl _ _)) (by omega) (by decide) (by decide) (by rw [hpk, show (256 : Int).toNat = 256 from rfl, LzM.unpack_pack, if_neg (by omega)]) hbnl
         have hD5 : es[5]? = some (.int .u64 (n : Int)) := hesn 2 _ (by rw [hnt]; rfl)
         have hRS : ∀ q v, (S.map byteV)[q]? = some v -> es[6 + q]? = some v := fun q v hv => by
          have h := hesn (3 + q) v (Rec.ntC_key nt _ q v (by
           unfold Rec.keyC
           have hql := (List.getElem?_eq_some_iff.1 hv).1
           rw [hnt]
           rw [hS] at hv hql
           show (((sha bn).map byteV) ++ _)[q]? = _
           rw [List.getElem?_append_left hql]
           exact hv))
          rw [show 6 + q = 3 + (3 + q) by omega]
          exact h
         have D50 : Hid (∀ wx, Below W2.heap.size W2 wx -> wx.cell? ⟨b9, 5, none⟩ = some (.int .u64 (n : Int))) := fun wx hwx => ((hst3.later hwx).cellV 3 rfl 5 hD5).1
         have RS0 : Hid (∀ wx, Below W2.heap.size W2 wx -> wx.rangeAt b9 6 (S.map byteV)) := fun wx hwx q v hv => ((hst3.later hwx).cellV 3 rfl (6 + q) (hRS q v hv)).1
         have RC0 : Hid (∀ wx, Below W2.heap.size W2 wx -> wx.cell? ⟨gA, n, none⟩ = some (strV bn)) := fun wx hwx => by
          rw [((hst3.later hwx).rowRange 7 rfl n (by omega)).1, List.getElem?_map, List.getElem?_eq_getElem hnA, <- hbn]
          rfl
         have CS20 : Hid (∀ (v : Value) wx, Below w.heap.size w wx -> (partsTy [bn]).holds v wx -> Calls Tryz.prog 11 #[v] wx fun e w' => e = .returned (.agg (S.map byteV).toArray) /\ Below wx.heap.size wx w') := fun v wx hwx hp => by rw [hS]; exact CS0.out bn v wx hbnl hwx hp
         have BL := Lib.hid hbnl
         have hn64 : IntKind.u64.wrap (n : Int) = (n : Int) := IntWalk.u64_in _ (by omega)
         have ZE := Lib.hid zero_ent
         have HB9 := Lib.hid hb9
         have HW1 := Lib.hid hW1
         have HW2 := Lib.hid hW2
         clear hnA hfx hbn hbnl hnt hsum hsums hgel hEl hxE hxg hEn he hg1 hd1 hrng hRA hm hga hgc hgs hes hb9 hW1 hW2 hst hst3 hesn hS hpk hD5 hRS hxf H GV
         go_wp2_with (first
          | (refine wpList_load_mid rfl 64 (.tmp 139) rfl gE (x * 40) rfl es _ RA.out.range Tryz.underlying64 rfl RA.out.info ?_)
          | (refine Own.wpList_allocZ rfl 64 rfl zEnt.toArray ZE.out ?_; rw [<- HB9.out, <- HW1.out])
          | (refine wpList_store_mid rfl 64 (.tmp 31) (.tmp 140) rfl b9 0 es.toArray rfl rfl TH.out RA.out.info2 RA.out.one ?_; rw [<- HW2.out]))
         refine CU.out.mono ?_
         clear CU RA TH d39
         rintro e w12 ⟨az, cz, rfl, hg12, hb12⟩
         have H12 := Lib.hid (H2.out.later hb12)
         have HBL12 := Lib.hid H12.out.below
         have Z12 := Lib.hid hg12
         have HCZ : Hid (256 <= cz /\ cz <= maxLen /\ (az = none -> cz = 0)) := ⟨hg12.room.1, hg12.room.2, hg12.nil⟩
         have VZ : Hid (∀ wx, Below w12.heap.size w12 wx -> View wx (fun k => k < wx.heap.size) az bn) := fun wx hwx => (Z12.out.later hwx).view
         have CZ : Hid (∀ wx, Below w12.heap.size w12 wx -> (convert 37 9 (.slice az 256 cz)).run Tryz.prog wx = .ok (strV bn) wx) := fun wx hwx => tyG_str (l := bn) ⟨az, cz, by rw [BL.out], by rw [BL.out]; exact Z12.out.later hwx⟩
         have D5 : Hid (∀ wx, Below w12.heap.size w12 wx -> wx.cell? ⟨b9, 5, none⟩ = some (.int .u64 (n : Int))) := fun wx hwx => D50.out wx (hb12.trans (hwx.mono hb12.size))
         have RS : Hid (∀ wx, Below w12.heap.size w12 wx -> wx.rangeAt b9 6 (S.map byteV)) := fun wx hwx => RS0.out wx (hb12.trans (hwx.mono hb12.size))
         have RC : Hid (∀ wx, Below w12.heap.size w12 wx -> wx.cell? ⟨gA, n, none⟩ = some (strV bn)) := fun wx hwx => RC0.out wx (hb12.trans (hwx.mono hb12.size))
         have CS2 : Hid (∀ (v : Value) wx, Below w12.heap.size w12 wx -> (partsTy [bn]).holds v wx -> Calls Tryz.prog 11 #[v] wx fun e w' => e = .returned (.agg (S.map byteV).toArray) /\ Below wx.heap.size wx w') := fun v wx hwx hp => CS20.out v wx (HBL12.out.trans (hwx.mono H12.out.size)) hp
         clear hg12 hb12 D50 RS0 RC0 CS20 H2 Z12
         go_wp2_with (fail)
         refine lxX ?_; refine lxM (.int .i64 0) rfl ?_; refine lxR (.tmp 148) (.int .i64 0) (.bool false) (fun wx ρ hwx h0 hc => by simp [go_sem, h0, hc]) ?_; refine lxM (.bool false) rfl ?_; refine lxM (.int .i64 (n : Int)) rfl ?_; refine lxM (.slice (some ⟨gA, 0, none⟩) nb cA) rfl ?_; refine lxA (.tmp 152) (.slice (some ⟨gA, 0, none⟩) nb cA) (.int .i64 (nb : Int)) ?_; refine lxT (.tmp 151) (.tmp 153) (.int .i64 (n : Int)) (.int .i64 (nb : Int)) (.bool false) (fun wx ρ hwx h0 h1 hc => by simp [go_sem, h0, h1, hnlt]) ?_; refine lxB (.tmp 150) (.tmp 154) (.bool false) (.bool false) (.bool false) ?_; refine lxM (.bool false) rfl ?_; refine lxM (.slice az 256 cz) rfl ?_
         refine wpL_convK (.slice az 256 cz) (strV bn) rfl (by kernel_rfl) (by kernel_rfl) (by kernel_rfl) (by kernel_rfl) (fun wx hwx => CZ.out wx hwx) ?_
         refine lxM (.slice (some ⟨gA, 0, none⟩) nb cA) rfl ?_; refine lxM (.int .i64 (n : Int)) rfl ?_; refine lxT (.tmp 159) (.tmp 160) (.slice (some ⟨gA, 0, none⟩) nb cA) (.int .i64 (n : Int)) (.pointer (some ⟨gA, n, none⟩)) (fun wx ρ hwx h0 h1 hc => idxStr rfl gA nb cA n hnlt ρ wx h0 h1) ?_; refine lxR (.tmp 161) (.pointer (some ⟨gA, n, none⟩)) (strV bn) (fun wx ρ hwx h0 hc => by simp [h0, go_sem, RC.out wx hwx]) ?_; refine lxT (.tmp 158) (.tmp 162) (strV bn) (strV bn) (.bool false) (fun wx ρ hwx h0 h1 hc => neq_str rfl bn bn false (by simp) ρ wx h0 h1) ?_; refine lxB (.tmp 156) (.tmp 163) (.bool false) (.bool false) (.bool false) ?_; refine lxM (.bool false) rfl ?_; refine lxM (.slice az 256 cz) rfl ?_
         refine wpL_runT (partsTy [bn]) rfl (by kernel_rfl) (by kernel_rfl) (by kernel_rfl) (by kernel_rfl) (fun wx hwx => build1 rfl _ (by kernel_rfl) wx (VZ.out wx hwx) BL.out HCZ.out.1 HCZ.out.2.1 HCZ.out.2.2) ?_
         refine wpL_fnUV (t := 167) (R := partsTy [bn]) (.agg (S.map byteV).toArray) rfl rfl (by kernel_rfl) (by kernel_rfl) (fun _ _ => by simp [go_sem]) (fun u wx hwx hu => CS2.out u wx hwx hu) ?_
         refine lxR (.tmp 31) (.pointer (some ⟨b9, 0, none⟩)) (.pointer (some ⟨b9, 3, none⟩)) (fun wx ρ hwx h0 hc => by simp [go_sem, h0]) ?_; refine lxR (.tmp 169) (.pointer (some ⟨b9, 3, none⟩)) (.pointer (some ⟨b9, 6, none⟩)) (fun wx ρ hwx h0 hc => by simp [go_sem, h0]) ?_; refine lxR (.tmp 170) (.pointer (some ⟨b9, 6, none⟩)) (.pointer (some ⟨b9, 6, none⟩)) (fun wx ρ hwx h0 hc => by simp [go_sem, h0]) ?_; refine lxR (.tmp 171) (.pointer (some ⟨b9, 6, none⟩)) (.agg (S.map byteV).toArray) (fun wx ρ hwx h0 hc => loadSumAt rfl (RS.out wx hwx) SL.out ρ h0) ?_; refine lxT (.tmp 168) (.tmp 172) (.agg (S.map byteV).toArray) (.agg (S.map byteV).toArray) (.bool false) (fun wx ρ hwx h0 h1 hc => Spo.neqSum rfl SL.out SL.out (decide_eq_true rfl) ρ wx h0 h1) ?_; refine lxB (.tmp 165) (.tmp 173) (.bool false) (.bool false) (.bool false) ?_; refine lxM (.bool false) rfl ?_; refine lxR (.tmp 31) (.pointer (some ⟨b9, 0, none⟩)) (.pointer (some ⟨b9, 3, none⟩)) (fun wx ρ hwx h0 hc => by simp [go_sem, h0]) ?_; refine lxR (.tmp 176) (.pointer (some ⟨b9, 3, none⟩)) (.pointer (some ⟨b9, 5, none⟩)) (fun wx ρ hwx h0 hc => by simp [go_sem, h0]) ?_; refine lxR (.tmp 177) (.pointer (some ⟨b9, 5, none⟩)) (.int .u64 (n : Int)) (fun wx ρ hwx h0 hc => by simp [h0, go_sem, D5.out wx hwx]) ?_; refine lxM (.int .i64 (n : Int)) rfl ?_; refine lxR (.tmp 179) (.int .i64 (n : Int)) (.int .u64 (n : Int)) (fun wx ρ hwx h0 hc => by simp [go_sem, h0, hn64]) ?_; refine lxT (.tmp 178) (.tmp 180) (.int .u64 (n : Int)) (.int .u64 (n : Int)) (.bool false) (fun wx ρ hwx h0 h1 hc => by simp [go_sem, h0, h1]) ?_; refine lxB (.tmp 175) (.tmp 181) (.bool false) (.bool false) (.bool false) ?_
         refine wpL_end (by kernel_rfl) (fun w13 hw13 v167 hv167 => ?_)
         simp only [FinL, setL, List.set_cons_zero, List.set_cons_succ]
         have HL := Lib.hid (((H12.out.later hw13).front 3 rfl).drop 1)
         clear hv167 hw13 CZ D5 RS RC VZ CS2 HCZ H12 HBL12
         go_wp2_with (fail)
         go_roundw
         case rel => exact ⟨x + 1, n + 1, by omega, by rw [HN3.out, Nat.add_assoc], by go_num, by go_num, HL.out⟩
         case measure => simp [intOf]; omega
       · have hxe : x = nl := by omega
         have HL := Lib.hid ((((H.out.front 3 rfl).drop 1).front 3 rfl).drop 1)
         clear H
         go_wp2_with (fail)
         go_roundw
         case rel => exact ⟨j + 1, n, by omega, by rw [HN3.out, hxe, HNL.out]; rfl, rfl, by go_num, HL.out⟩
         case measure => simp [intOf]; omega
    · have hjk2 : j = k := by omega
      have hge : (cnt : Int) <= (n : Int) := by
       have h1 := HCNT.out
       have h2 := HN.out
       rw [hjk2] at h2
       omega
      clear hH hn HN HCNT H4
      go_wp2_with (fail)
      go_ret
      exact ⟨rfl, H.out.below⟩
end Top
end Go.Proofs.YtahjjcmeocibbaaGreatDoor
end
section
namespace Go.Proofs.YtahjjcmeocibbaaGreatDoor
open Go.RowKit Go.Own
namespace Srt
abbrev iV (n : Nat) : Value := .int .i64 (n : Int)
structure Cmp (f : FuncId) (bs cb : Array Value) (cf : Nat -> Nat -> Int) (Ok : Nat -> Prop) (B : Nat) (w0 : World) (Ts : List Asn) : Prop where
 ent : ∀ (args : Array Value) w, (callFunc f args).run Tryz.prog w = .ok (.enter f args) w
 ask : ∀ {w : World}, Own.St B w0 w Ts -> ∀ x y, Ok x -> Ok y -> Calls Tryz.prog f (bs ++ #[iV x, iV y] ++ cb) w fun e w' => e = .returned (.int .i64 (cf x y)) /\ Below w.heap.size w w'
 low : ∀ x y, -2 <= cf x y /\ cf x y <= 2
abbrev fvOf (f : FuncId) (bs cb : Array Value) : Value := .func (.func f) bs cb
def ltc (cf : Nat -> Nat -> Int) (x y : Nat) : Bool := decide (cf x y < 0)
structure Sd (Ok : Nat -> Prop) (B : Nat) (w0 : World) (Ts : List Asn) (g n c : Nat) (Rs : List Asn) (w : World) (d : Array Nat) : Prop where
 st : Own.St B w0 w (ARow 3 1 (.slice (some ⟨g, 0, none⟩) n c) n (d.toList.map iV) :: (Rs ++ Ts))
 size : d.size = n
 ok : ∀ i, i < n -> Ok d[i]!
section
variable {Ok : Nat -> Prop} {B : Nat} {w0 w : World} {Ts Rs : List Asn} {g n c : Nat} {d : Array Nat}
theorem at_bang {d : Array Nat} {i : Nat} (h : i < d.size) : (d.toList.map iV)[i]? = some (iV d[i]!) := by
 rw [List.getElem?_map, Array.getElem?_toList, Array.getElem?_eq_getElem h, getElem!_pos d i h]; rfl
theorem Sd.cell (S : Sd Ok B w0 Ts g n c Rs w d) {i : Nat} (hi : i < n) : w.cell? ⟨g, i, none⟩ = some (iV d[i]!) := by
 obtain ⟨g', e, ⟨u, hu, hc⟩, _, _⟩ := S.st.rowAt 0 rfl i (by omega)
 cases e
 rw [at_bang (by rw [S.size]; exact hi)] at hu
 cases hu
 exact hc
theorem Sd.later (S : Sd Ok B w0 Ts g n c Rs w d) {w' : World} (h : Below w.heap.size w w') : Sd Ok B w0 Ts g n c Rs w' d := ⟨S.st.later h, S.size, S.ok⟩
theorem Sd.rest (S : Sd Ok B w0 Ts g n c Rs w d) : Own.St B w0 w Ts := by
 have h := S.st.drop (Rs.length + 1)
 simpa using h
end
section
variable {o : Oper} {x y : Tmp} {X Y : Operand} {w : World}
theorem idx_i (ho : o.op = .indexAddr 23 X Y) {g n c i : Nat} (hi : i < n) (ρ : Operand -> Value) (w : World) (h0 : ρ X = .slice (some ⟨g, 0, none⟩) n c) (h1 : ρ Y = .int .i64 (i : Int)) : (execOp ρ o).run Tryz.prog w = .ok (.value (.pointer (some ⟨g, i, none⟩))) w := by
 have hi' : (i : Int) < (n : Int) := by omega
 simp [execOp, ho, h0, h1, go_sem, hi', add_of]
theorem load_i (ho : o.op = .load 3 X) {a : Addr} {v : Value} (ρ : Operand -> Value) {w : World} (hc : w.cell? a = some v) (h0 : ρ X = .pointer (some a)) : (execOp ρ o).run Tryz.prog w = .ok (.value v) w := by
 simp [execOp, ho, h0, go_sem, hc]
theorem bin_sub (ho : o.op = .binOp .sub 3 X Y 3) (k j : Nat) {q : Nat} (hq : k = q + j) (hb : k <= 4611686018427387904) (ρ : Operand -> Value) (w : World) (h0 : ρ X = .int .i64 (k : Int)) (h1 : ρ Y = .int .i64 (j : Int)) : (execOp ρ o).run Tryz.prog w = .ok (.value (.int .i64 (q : Int))) w := by
 have e : IntKind.i64.wrap ((k : Int) - (j : Int)) = (q : Int) := by rw [IntKind.wrap_i64]; omega
 simp only [execOp, ho, h0, h1]
 generalize (k : Int) = m at e
 generalize (j : Int) = m2 at e
 simp [go_sem, e]
theorem lss_i (ho : o.op = .binOp .lss 3 X Y 3) {a b : Int} {t : Bool} (ht : decide (a < b) = t) (ρ : Operand -> Value) (w : World) (h0 : ρ X = .int .i64 a) (h1 : ρ Y = .int .i64 b) : (execOp ρ o).run Tryz.prog w = .ok (.value (.bool t)) w := by
 subst ht
 simp [execOp, ho, h0, h1, go_sem]
theorem gtr_i (ho : o.op = .binOp .gtr 3 X Y 3) {a b : Int} {t : Bool} (ht : decide (b < a) = t) (ρ : Operand -> Value) (w : World) (h0 : ρ X = .int .i64 a) (h1 : ρ Y = .int .i64 b) : (execOp ρ o).run Tryz.prog w = .ok (.value (.bool t)) w := by
 subst ht
 simp [execOp, ho, h0, h1, go_sem]
theorem not_b (ho : o.op = .unOp .not 4 X) {t s : Bool} (hs : (!t) = s) (ρ : Operand -> Value) (w : World) (h0 : ρ X = .bool t) : (execOp ρ o).run Tryz.prog w = .ok (.value (.bool s)) w := by
 subst hs
 simp [execOp, ho, h0, go_sem]
theorem enter_val {f : FuncId} {bs cb : Array Value} {xs : List Operand} {ts : Array TypeId} (ho : o.op = .call { callee := .value X, args := xs.toArray, argTypes := ts }) (ρ : Operand -> Value) (hρ : ρ X = fvOf f bs cb)
 (hfn : ∀ (args : Array Value) w, (callFunc f args).run Tryz.prog w = .ok (.enter f args) w) : (execOp ρ o).run Tryz.prog w = .ok (.enter f (bs ++ (xs.map ρ).toArray ++ cb)) w := by
 simp [execOp, ho, resolve, hρ, Deferred.ofValue, invoke, go_sem, hfn]
end
section
variable {C : World -> Prop} {Q : Act -> World -> Prop} {ds : List Deferred} {rest : List Oper} {I : Lx} {fs : List Value} {ops : Array Oper} {o : Oper}
theorem wpL_val (v : Value) {X : Operand} {f : FuncId} {bs cb : Array Value} {xs : List Operand} {ts : Array TypeId} (args : List Value) (hX : ev fs X = fvOf f bs cb) (hKX : known I X = true) (ho : o.op = .call { callee := .value X, args := xs.toArray, argTypes := ts }) (ha : xs.map (ev fs) = args) (hk : xs.all (known I) = true) (hg : guardKnown ops o I = true) (hw : wantedL ops fs o = true)
 (hfn : ∀ (args : Array Value) w, (callFunc f args).run Tryz.prog w = .ok (.enter f args) w) (hc : ∀ w, C w -> Calls Tryz.prog f (bs ++ args.toArray ++ cb) w fun e w' => e = .returned v /\ Below w.heap.size w w') (k : wpL Tryz.prog ops C Q ds rest I (setL fs o.dst v)) : wpL Tryz.prog ops C Q ds (o :: rest) I fs :=
 wpL_call v (bs ++ args.toArray ++ cb) (by simp [notSelect, ho]) (by rw [ho]; simp [Op.operands, Call.operands, known] at *; exact ⟨hKX, hk⟩) hg hw (fun w => by rw [enter_val ho _ hX hfn, ha]) hc k
end
section
variable {Ok : Nat -> Prop} {B : Nat} {w0 w : World} {Ts Rs : List Asn} {g n c : Nat} {d : Array Nat}
end
end Srt
end Go.Proofs.YtahjjcmeocibbaaGreatDoor
end
section
namespace Go.Proofs.YtahjjcmeocibbaaGreatDoor
open Go.RowKit Go.Own
namespace Srt
section
variable {f : FuncId} {bs cb : Array Value} {cf : Nat -> Nat -> Int} {Ok : Nat -> Prop} {B : Nat} {w0 w : World} {Ts Rs : List Asn} {g n c : Nat} {d : Array Nat}
theorem ask_at (K : Cmp f bs cb cf Ok B w0 Ts) (S : Sd Ok B w0 Ts g n c Rs w d) {i j : Nat} (hi : i < n) (hj : j < n) :
 ∀ wx, Below w.heap.size w wx -> Calls Tryz.prog f (bs ++ [iV d[i]!, iV d[j]!].toArray ++ cb) wx fun e w' => e = .returned (.int .i64 (cf d[i]! d[j]!)) /\ Below wx.heap.size wx w' :=
 fun _ hw => K.ask (S.later hw).rest _ _ (S.ok i hi) (S.ok j hj)
theorem cell_at (S : Sd Ok B w0 Ts g n c Rs w d) {i : Nat} (hi : i < n) : ∀ wx, Below w.heap.size w wx -> wx.cell? ⟨g, i, none⟩ = some (iV d[i]!) := fun _ hw => (S.later hw).cell hi
theorem ltc_t {cf : Nat -> Nat -> Int} {x y : Nat} {t : Bool} (h : ltc cf x y = t) {z : Int} (hz : z = cf x y) : decide (z < 0) = t := by rw [hz]; exact h
end
end Srt
end Go.Proofs.YtahjjcmeocibbaaGreatDoor
end
section
namespace Go.Own
open Go.RowKit
def RdWin (w : World) (v : Value) (n : Nat) (xs : List Value) : Prop := ∃ ao cap, v = .slice ao n cap /\ (n = 0 \/ ∃ g o, ao = some ⟨g, o, none⟩ /\ ∀ j u, xs[j]? = some u -> w.cell? ⟨g, o + j, none⟩ = some u)
theorem RdWin.later {W w : World} {v : Value} {n : Nat} {xs : List Value} (h : RdWin W v n xs) (hb : Below W.heap.size W w) : RdWin w v n xs := by
 obtain ⟨ao, cap, e, h⟩ := h
 refine ⟨ao, cap, e, ?_⟩
 rcases h with h | ⟨g, o, e2, hc⟩
 · exact .inl h
 · exact .inr ⟨g, o, e2, fun j u hu => cellLater' (hc j u hu) hb⟩
def tyWin (n : Nat) (xs : List Value) : Ty where
 holds v w := RdWin w v n xs
 keep h g := h.later g
end Go.Own
end
section
namespace Go.Proofs.YtahjjcmeocibbaaGreatDoor
open Go.RowKit Go.Own
namespace Tba
open Go.TabM Tab
def cmpN (x y : Nat) : Int := if x < y then -1 else if y < x then 1 else 0
theorem cmp64 (x y : Nat) (w : World) : Calls Tryz.prog 79 #[.int .u64 (x : Int), .int .u64 (y : Int)] w fun e w' => e = .returned (.int .i64 (cmpN x y)) /\ w' = w := by
 unfold cmpN
 by_cases h1 : x < y
 · have h1I : (x : Int) < (y : Int) := by omega
   rw [if_pos h1]
   go_enter Tryz.func79, Tryz.ntmps79
   go_wp2
   go_ret
   exact ⟨rfl, rfl⟩
 · rw [if_neg h1]
   have h1I : ¬ (x : Int) < (y : Int) := by omega
   by_cases h2 : y < x
   · have h2I : (y : Int) < (x : Int) := by omega
     rw [if_pos h2]
     go_enter Tryz.func79, Tryz.ntmps79
     go_wp2
     go_ret
     exact ⟨rfl, rfl⟩
   · rw [if_neg h2]
     have h2I : ¬ (y : Int) < (x : Int) := by omega
     go_enter Tryz.func79, Tryz.ntmps79
     go_wp2
     go_ret
     exact ⟨rfl, rfl⟩
theorem cmp32 (x y : Nat) (w : World) : Calls Tryz.prog 143 #[.int .u32 (x : Int), .int .u32 (y : Int)] w fun e w' => e = .returned (.int .i64 (cmpN x y)) /\ w' = w := by
 unfold cmpN
 by_cases h1 : x < y
 · have h1I : (x : Int) < (y : Int) := by omega
   rw [if_pos h1]
   go_enter Tryz.func143, Tryz.ntmps143
   go_wp2
   go_ret
   exact ⟨rfl, rfl⟩
 · rw [if_neg h1]
   have h1I : ¬ (x : Int) < (y : Int) := by omega
   by_cases h2 : y < x
   · have h2I : (y : Int) < (x : Int) := by omega
     rw [if_pos h2]
     go_enter Tryz.func143, Tryz.ntmps143
     go_wp2
     go_ret
     exact ⟨rfl, rfl⟩
   · rw [if_neg h2]
     have h2I : ¬ (y : Int) < (x : Int) := by omega
     go_enter Tryz.func143, Tryz.ntmps143
     go_wp2
     go_ret
     exact ⟨rfl, rfl⟩
theorem cmpI (x y : Nat) (w : World) : Calls Tryz.prog 80 #[.int .i64 (x : Int), .int .i64 (y : Int)] w fun e w' => e = .returned (.int .i64 (cmpN x y)) /\ w' = w := by
 unfold cmpN
 by_cases h1 : x < y
 · have h1I : (x : Int) < (y : Int) := by omega
   rw [if_pos h1]
   go_enter Tryz.func80, Tryz.ntmps80
   go_wp2
   go_ret
   exact ⟨rfl, rfl⟩
 · rw [if_neg h1]
   have h1I : ¬ (x : Int) < (y : Int) := by omega
   by_cases h2 : y < x
   · have h2I : (y : Int) < (x : Int) := by omega
     rw [if_pos h2]
     go_enter Tryz.func80, Tryz.ntmps80
     go_wp2
     go_ret
     exact ⟨rfl, rfl⟩
   · rw [if_neg h2]
     have h2I : ¬ (y : Int) < (x : Int) := by omega
     go_enter Tryz.func80, Tryz.ntmps80
     go_wp2
     go_ret
     exact ⟨rfl, rfl⟩
def orI (a b : Int) : Int := if a = 0 then b else a
set_option maxHeartbeats 1600000 in
theorem or_any (a b : Int) (v : Value) (w : World) (hv : RdWin w v 2 [.int .i64 a, .int .i64 b]) : Calls Tryz.prog 78 #[v] w fun e w' => e = .returned (.int .i64 (orI a b)) /\ w' = w := by
 obtain ⟨ao, cap, rfl, h | ⟨g, o, rfl, hc⟩⟩ := hv
 · cases h
 · have c0 := hc 0 _ rfl
   rw [Nat.add_zero] at c0
   have c1 := hc 1 _ rfl
   clear hc
   have d0 : decide ((0 : Int) < 2) = true := rfl
   unfold orI
   by_cases ha : a = 0
   · subst ha
     rw [if_pos rfl]
     by_cases hb : b = 0
     · subst hb
       go_enter Tryz.func78, Tryz.ntmps78
       go_wp2
       go_loopw [8] (fun v8 wr => ∃ i : Nat, i <= 2 /\ v8 = .int .i64 (i : Int) /\ wr = w) (fun v8 _ => 2 - (intOf v8).toNat)
       case atStart => exact ⟨0, by omega, rfl, rfl⟩
       case round =>
        obtain ⟨i, hi, rfl, rfl⟩ := hrel
        rcases (show i = 0 \/ i = 1 \/ i = 2 by omega) with rfl | rfl | rfl
        · go_wp2
          go_roundw
          case rel => exact ⟨1, by omega, by go_num, (by first | rfl | trivial)⟩
          case measure => simp [intOf]
        · go_wp2
          go_roundw
          case rel => exact ⟨2, by omega, by go_num, (by first | rfl | trivial)⟩
          case measure => simp [intOf]
        · go_wp2
          go_ret
          exact ⟨rfl, rfl⟩
     · have hbb : (b == 0) = false := by simp [hb]
       have hbn : (b != 0) = true := by simp [hb]
       go_enter Tryz.func78, Tryz.ntmps78
       go_wp2
       go_loopw [8] (fun v8 wr => ∃ i : Nat, i <= 1 /\ v8 = .int .i64 (i : Int) /\ wr = w) (fun v8 _ => 2 - (intOf v8).toNat)
       case atStart => exact ⟨0, by omega, rfl, rfl⟩
       case round =>
        obtain ⟨i, hi, rfl, rfl⟩ := hrel
        rcases (show i = 0 \/ i = 1 by omega) with rfl | rfl
        · go_wp2
          go_roundw
          case rel => exact ⟨1, by omega, by go_num, (by first | rfl | trivial)⟩
          case measure => simp [intOf]
        · go_wp2
          go_ret
          exact ⟨rfl, rfl⟩
   · rw [if_neg ha]
     have haa : (a == 0) = false := by simp [ha]
     have han : (a != 0) = true := by simp [ha]
     go_enter Tryz.func78, Tryz.ntmps78
     go_wp2
     go_loopw [8] (fun v8 wr => v8 = .int .i64 0 /\ wr = w) (fun v8 _ => 2 - (intOf v8).toNat)
     case atStart => exact ⟨rfl, rfl⟩
     case round =>
      obtain ⟨rfl, rfl⟩ := hrel
      go_wp2
      go_ret
      exact ⟨rfl, rfl⟩
def seqCmp (rows : List Sg) (i j : Nat) : Int := orI (cmpN (at_ rows i).seq (at_ rows j).seq) (cmpN i j)
def wearCmp (rows : List Sg) (i j : Nat) : Int := cmpN (at_ rows i).wear (at_ rows j).wear
end Tba
end Go.Proofs.YtahjjcmeocibbaaGreatDoor
end
section
namespace Go.Proofs.YtahjjcmeocibbaaGreatDoor
open Go.RowKit Go.Own
namespace Tba
open Go.TabM Tab
theorem fld_rows {o : Oper} {X : Operand} (ho : o.op = .fieldAddr 85 X 0) {p : Nat} (ρ : Operand -> Value) (w : World) (h0 : ρ X = .pointer (some ⟨p, 0, none⟩)) : (execOp ρ o).run Tryz.prog w = .ok (.value (.pointer (some ⟨p, 0, none⟩))) w := by
 simp [execOp, ho, h0, go_sem, add_of]
theorem fld_seg1 {o : Oper} {X : Operand} (ho : o.op = .fieldAddr 145 X 1) {p i : Nat} (ρ : Operand -> Value) (w : World) (h0 : ρ X = .pointer (some ⟨p, i, none⟩)) : (execOp ρ o).run Tryz.prog w = .ok (.value (.pointer (some ⟨p, i + 1, none⟩))) w := by
 simp [execOp, ho, h0, go_sem, add_of]
theorem fld_seg2 {o : Oper} {X : Operand} (ho : o.op = .fieldAddr 145 X 2) {p i : Nat} (ρ : Operand -> Value) (w : World) (h0 : ρ X = .pointer (some ⟨p, i, none⟩)) : (execOp ρ o).run Tryz.prog w = .ok (.value (.pointer (some ⟨p, i + 2, none⟩))) w := by
 simp [execOp, ho, h0, go_sem, add_of]
theorem ld_rows {o : Oper} {X : Operand} (ho : o.op = .load 83 X) {a : Addr} {v : Value} (ρ : Operand -> Value) {w : World} (hc : w.cell? a = some v) (h0 : ρ X = .pointer (some a)) : (execOp ρ o).run Tryz.prog w = .ok (.value v) w := by
 simp [execOp, ho, h0, go_sem, hc]
theorem ld_w {o : Oper} {X : Operand} (ho : o.op = .load 49 X) {a : Addr} {v : Value} (ρ : Operand -> Value) {w : World} (hc : w.cell? a = some v) (h0 : ρ X = .pointer (some a)) : (execOp ρ o).run Tryz.prog w = .ok (.value v) w := by
 simp [execOp, ho, h0, go_sem, hc]
theorem ld_q {o : Oper} {X : Operand} (ho : o.op = .load 45 X) {a : Addr} {v : Value} (ρ : Operand -> Value) {w : World} (hc : w.cell? a = some v) (h0 : ρ X = .pointer (some a)) : (execOp ρ o).run Tryz.prog w = .ok (.value v) w := by
 simp [execOp, ho, h0, go_sem, hc]
theorem two_ints {o : Oper} {x y : Operand} (ho : o.op = .buildSlice 23 2 #[(0, x), (1, y)]) (a b : Int) (ρ : Operand -> Value) (h0 : ρ x = .int .i64 a) (h1 : ρ y = .int .i64 b) (w : World) : ∃ v w', (execOp ρ o).run Tryz.prog w = .ok (.value v) w' /\ (tyWin 2 [.int .i64 a, .int .i64 b]).holds v w' /\ Below w.heap.size w w' := by
 refine ⟨.slice (some ⟨w.heap.size, 0, none⟩) 2 2, w.alloc (.cells #[.int .i64 a, .int .i64 b] 3), ?_, ?_, ((Own.St.start w).alloc _).below⟩
 · simp [execOp, ho, h0, h1, go_sem]
 · refine ⟨_, _, rfl, .inr ⟨w.heap.size, 0, rfl, fun j u hu => ?_⟩⟩
   rw [Nat.zero_add]
   exact (((Own.St.start w).boxV 3 [.int .i64 a, .int .i64 b]).cellV 0 rfl j hu).1
section
variable {B : Nat} {w0 w : World} {Ps : List Asn} {p : Nat} {v : Value} {t : T} {N : Nat}
set_option maxHeartbeats 1600000 in
theorem byWear_any (H : Own.St B w0 w (AT p v t :: Ps)) (i j : Nat) (hi0 : i < t.rows.length) (hj0 : j < t.rows.length) : Calls Tryz.prog 135 #[ptr p, .int .i64 (i : Int), .int .i64 (j : Int)] w fun e w' => e = .returned (.int .i64 (wearCmp t.rows i j)) /\ Below w.heap.size w w' := by
 have h0 := at_open H
 obtain ⟨g, cap, rfl, ha⟩ := rowG_at h0 1 rfl i hi0
 obtain ⟨g', cap', e, hb⟩ := rowG_at h0 1 rfl j hj0
 simp only [Value.slice.injEq, Option.some.injEq, Addr.mk.injEq, and_true, true_and] at e
 obtain ⟨rfl, -⟩ := e
 obtain ⟨n, hn⟩ : ∃ n, n = t.rows.length := ⟨_, rfl⟩
 have hi : i < n := by omega
 have hj : j < n := by omega
 have CV : Hid (∀ wx, Below w.heap.size w wx -> wx.cell? ⟨p, 0, none⟩ = some (.slice (some ⟨g, 0, none⟩) n cap)) := fun wx hw => by rw [hn]; exact ((h0.later hw).cellV 0 rfl 0 rfl).1
 obtain ⟨x, hx⟩ : ∃ x, x = (at_ t.rows i).wear := ⟨_, rfl⟩
 obtain ⟨y, hy⟩ : ∃ x, x = (at_ t.rows j).wear := ⟨_, rfl⟩
 have CX : Hid (∀ wx, Below w.heap.size w wx -> wx.cell? ⟨g, i * 3 + 2, none⟩ = some (.int .u32 (x : Int))) := fun wx hw => by rw [hx]; exact cellLater' ha.c2 hw
 have CY : Hid (∀ wx, Below w.heap.size w wx -> wx.cell? ⟨g, j * 3 + 2, none⟩ = some (.int .u32 (y : Int))) := fun wx hw => by rw [hy]; exact cellLater' hb.c2 hw
 obtain ⟨z, hz⟩ : ∃ z, z = wearCmp t.rows i j := ⟨_, rfl⟩
 have CZ : Hid (∀ wx, Calls Tryz.prog 143 #[.int .u32 (x : Int), .int .u32 (y : Int)] wx fun e w' => e = .returned (.int .i64 z) /\ Below wx.heap.size wx w') := fun wx => (cmp32 x y wx).mono fun _ _ h => ⟨by rw [h.1, hz, hx, hy]; rfl, h.2 ▸ Below.refl _ _⟩
 rw [<- hz]
 clear hz hx hy ha hb h0 H hn hi0 hj0
 go_enter Tryz.func135, Tryz.ntmps135
 go_wp2_with (fail)
 refine lxX ?_; refine lxM (ptr p) rfl ?_; refine lxA (.tmp 7) (ptr p) (.pointer (some ⟨p, 0, none⟩)) ?_; refine lxR (.tmp 8) (.pointer (some ⟨p, 0, none⟩)) (.pointer (some ⟨p, 0, none⟩)) (fun wx ρ hwx h0 hc => fld_rows rfl ρ wx h0) ?_; refine lxR (.tmp 9) (.pointer (some ⟨p, 0, none⟩)) (.slice (some ⟨g, 0, none⟩) n cap) (fun wx ρ hwx h0 hc => ld_rows rfl ρ (CV.out wx hwx) h0) ?_; refine lxM (.int .i64 (i : Int)) rfl ?_; refine lxT (.tmp 10) (.tmp 11) (.slice (some ⟨g, 0, none⟩) n cap) (.int .i64 (i : Int)) (.pointer (some ⟨g, i * 3, none⟩)) (fun wx ρ hwx h0 h1 hc => idx_seg rfl hi ρ wx h0 h1) ?_; refine lxR (.tmp 12) (.pointer (some ⟨g, i * 3, none⟩)) (.pointer (some ⟨g, i * 3 + 2, none⟩)) (fun wx ρ hwx h0 hc => fld_seg2 rfl ρ wx h0) ?_; refine lxR (.tmp 13) (.pointer (some ⟨g, i * 3 + 2, none⟩)) (.int .u32 (x : Int)) (fun wx ρ hwx h0 hc => ld_w rfl ρ (CX.out wx hwx) h0) ?_; refine lxM (ptr p) rfl ?_; refine lxA (.tmp 15) (ptr p) (.pointer (some ⟨p, 0, none⟩)) ?_; refine lxR (.tmp 16) (.pointer (some ⟨p, 0, none⟩)) (.pointer (some ⟨p, 0, none⟩)) (fun wx ρ hwx h0 hc => fld_rows rfl ρ wx h0) ?_; refine lxR (.tmp 17) (.pointer (some ⟨p, 0, none⟩)) (.slice (some ⟨g, 0, none⟩) n cap) (fun wx ρ hwx h0 hc => ld_rows rfl ρ (CV.out wx hwx) h0) ?_; refine lxM (.int .i64 (j : Int)) rfl ?_; refine lxT (.tmp 18) (.tmp 19) (.slice (some ⟨g, 0, none⟩) n cap) (.int .i64 (j : Int)) (.pointer (some ⟨g, j * 3, none⟩)) (fun wx ρ hwx h0 h1 hc => idx_seg rfl hj ρ wx h0 h1) ?_; refine lxR (.tmp 20) (.pointer (some ⟨g, j * 3, none⟩)) (.pointer (some ⟨g, j * 3 + 2, none⟩)) (fun wx ρ hwx h0 hc => fld_seg2 rfl ρ wx h0) ?_; refine lxR (.tmp 21) (.pointer (some ⟨g, j * 3 + 2, none⟩)) (.int .u32 (y : Int)) (fun wx ρ hwx h0 hc => ld_w rfl ρ (CY.out wx hwx) h0) ?_
 refine wpL_fn (.int .i64 z) [.int .u32 (x : Int), .int .u32 (y : Int)] rfl (by kernel_rfl) (by kernel_rfl) (by kernel_rfl) (by kernel_rfl) (fun _ _ => by simp [go_sem]) (fun wx hwx => CZ.out wx) ?_
 refine wpL_assign (.int .i64 z) rfl (by kernel_rfl) (by kernel_rfl) (by kernel_rfl) (by kernel_rfl) ?_
 refine wpL_end (by kernel_rfl) (fun w1 hw1 => ?_)
 simp only [FinL, setL, List.set_cons_zero, List.set_cons_succ]
 have HW := Lib.hid hw1
 clear hw1
 go_wp2
 go_ret
 exact ⟨rfl, HW.out⟩
set_option maxHeartbeats 1600000 in
theorem bySeq_any (H : Own.St B w0 w (AT p v t :: Ps)) (i j : Nat) (hi0 : i < t.rows.length) (hj0 : j < t.rows.length) : Calls Tryz.prog 40 #[ptr p, .int .i64 (i : Int), .int .i64 (j : Int)] w fun e w' => e = .returned (.int .i64 (seqCmp t.rows i j)) /\ Below w.heap.size w w' := by
 have h0 := at_open H
 obtain ⟨g, cap, rfl, ha⟩ := rowG_at h0 1 rfl i hi0
 obtain ⟨g', cap', e, hb⟩ := rowG_at h0 1 rfl j hj0
 simp only [Value.slice.injEq, Option.some.injEq, Addr.mk.injEq, and_true, true_and] at e
 obtain ⟨rfl, -⟩ := e
 obtain ⟨n, hn⟩ : ∃ n, n = t.rows.length := ⟨_, rfl⟩
 have hi : i < n := by omega
 have hj : j < n := by omega
 have CV : Hid (∀ wx, Below w.heap.size w wx -> wx.cell? ⟨p, 0, none⟩ = some (.slice (some ⟨g, 0, none⟩) n cap)) := fun wx hw => by rw [hn]; exact ((h0.later hw).cellV 0 rfl 0 rfl).1
 obtain ⟨x, hx⟩ : ∃ x, x = (at_ t.rows i).seq := ⟨_, rfl⟩
 obtain ⟨y, hy⟩ : ∃ x, x = (at_ t.rows j).seq := ⟨_, rfl⟩
 have CX : Hid (∀ wx, Below w.heap.size w wx -> wx.cell? ⟨g, i * 3 + 1, none⟩ = some (.int .u64 (x : Int))) := fun wx hw => by rw [hx]; exact cellLater' ha.c1 hw
 have CY : Hid (∀ wx, Below w.heap.size w wx -> wx.cell? ⟨g, j * 3 + 1, none⟩ = some (.int .u64 (y : Int))) := fun wx hw => by rw [hy]; exact cellLater' hb.c1 hw
 obtain ⟨z1, hz1⟩ : ∃ z, z = cmpN x y := ⟨_, rfl⟩
 obtain ⟨z2, hz2⟩ : ∃ z, z = cmpN i j := ⟨_, rfl⟩
 obtain ⟨z, hz⟩ : ∃ z, z = seqCmp t.rows i j := ⟨_, rfl⟩
 have CZ : Hid (∀ wx, Calls Tryz.prog 79 #[.int .u64 (x : Int), .int .u64 (y : Int)] wx fun e w' => e = .returned (.int .i64 z1) /\ Below wx.heap.size wx w') := fun wx => (cmp64 x y wx).mono fun _ _ h => ⟨by rw [h.1, hz1], h.2 ▸ Below.refl _ _⟩
 have CI : Hid (∀ wx, Calls Tryz.prog 80 #[.int .i64 (i : Int), .int .i64 (j : Int)] wx fun e w' => e = .returned (.int .i64 z2) /\ Below wx.heap.size wx w') := fun wx => (cmpI i j wx).mono fun _ _ h => ⟨by rw [h.1, hz2], h.2 ▸ Below.refl _ _⟩
 have CO : Hid (∀ u wx, RdWin wx u 2 [.int .i64 z1, .int .i64 z2] -> Calls Tryz.prog 78 #[u] wx fun e w' => e = .returned (.int .i64 z) /\ w' = wx) := fun u wx hu => (or_any z1 z2 u wx hu).mono fun _ _ h => ⟨by rw [h.1, hz, hz1, hz2, hx, hy]; rfl, h.2⟩
 rw [<- hz]
 clear hz hz1 hz2 hx hy ha hb h0 H hn hi0 hj0
 go_enter Tryz.func40, Tryz.ntmps40
 go_wp2_with (fail)
 refine lxX ?_; refine lxM (ptr p) rfl ?_; refine lxR (.tmp 7) (ptr p) (.pointer (some ⟨p, 0, none⟩)) (fun wx ρ hwx h0 hc => by simp [go_sem, h0]) ?_; refine lxR (.tmp 8) (.pointer (some ⟨p, 0, none⟩)) (.pointer (some ⟨p, 0, none⟩)) (fun wx ρ hwx h0 hc => fld_rows rfl ρ wx h0) ?_; refine lxR (.tmp 9) (.pointer (some ⟨p, 0, none⟩)) (.slice (some ⟨g, 0, none⟩) n cap) (fun wx ρ hwx h0 hc => ld_rows rfl ρ (CV.out wx hwx) h0) ?_; refine lxM (.int .i64 (i : Int)) rfl ?_; refine lxT (.tmp 10) (.tmp 11) (.slice (some ⟨g, 0, none⟩) n cap) (.int .i64 (i : Int)) (.pointer (some ⟨g, i * 3, none⟩)) (fun wx ρ hwx h0 h1 hc => idx_seg rfl hi ρ wx h0 h1) ?_; refine lxR (.tmp 12) (.pointer (some ⟨g, i * 3, none⟩)) (.pointer (some ⟨g, i * 3 + 1, none⟩)) (fun wx ρ hwx h0 hc => fld_seg1 rfl ρ wx h0) ?_; refine lxR (.tmp 13) (.pointer (some ⟨g, i * 3 + 1, none⟩)) (.int .u64 (x : Int)) (fun wx ρ hwx h0 hc => ld_q rfl ρ (CX.out wx hwx) h0) ?_; refine lxM (ptr p) rfl ?_; refine lxR (.tmp 15) (ptr p) (.pointer (some ⟨p, 0, none⟩)) (fun wx ρ hwx h0 hc => by simp [go_sem, h0]) ?_; refine lxR (.tmp 16) (.pointer (some ⟨p, 0, none⟩)) (.pointer (some ⟨p, 0, none⟩)) (fun wx ρ hwx h0 hc => fld_rows rfl ρ wx h0) ?_; refine lxR (.tmp 17) (.pointer (some ⟨p, 0, none⟩)) (.slice (some ⟨g, 0, none⟩) n cap) (fun wx ρ hwx h0 hc => ld_rows rfl ρ (CV.out wx hwx) h0) ?_; refine lxM (.int .i64 (j : Int)) rfl ?_; refine lxT (.tmp 18) (.tmp 19) (.slice (some ⟨g, 0, none⟩) n cap) (.int .i64 (j : Int)) (.pointer (some ⟨g, j * 3, none⟩)) (fun wx ρ hwx h0 h1 hc => idx_seg rfl hj ρ wx h0 h1) ?_; refine lxR (.tmp 20) (.pointer (some ⟨g, j * 3, none⟩)) (.pointer (some ⟨g, j * 3 + 1, none⟩)) (fun wx ρ hwx h0 hc => fld_seg1 rfl ρ wx h0) ?_; refine lxR (.tmp 21) (.pointer (some ⟨g, j * 3 + 1, none⟩)) (.int .u64 (y : Int)) (fun wx ρ hwx h0 hc => ld_q rfl ρ (CY.out wx hwx) h0) ?_
 refine wpL_fn (.int .i64 z1) [.int .u64 (x : Int), .int .u64 (y : Int)] rfl (by kernel_rfl) (by kernel_rfl) (by kernel_rfl) (by kernel_rfl) (fun _ _ => by simp [go_sem]) (fun wx hwx => CZ.out wx) ?_
 refine lxM (.int .i64 (i : Int)) rfl ?_; refine lxM (.int .i64 (j : Int)) rfl ?_
 refine wpL_fn (.int .i64 z2) [.int .i64 (i : Int), .int .i64 (j : Int)] rfl (by kernel_rfl) (by kernel_rfl) (by kernel_rfl) (by kernel_rfl) (fun _ _ => by simp [go_sem]) (fun wx hwx => CI.out wx) ?_
 refine wpL_runT (tyWin 2 [.int .i64 z1, .int .i64 z2]) rfl (by kernel_rfl) (by kernel_rfl) (by kernel_rfl) (by kernel_rfl) (fun wx hwx => two_ints rfl z1 z2 _ (by kernel_rfl) (by kernel_rfl) wx) ?_
 refine wpL_fnUV (.int .i64 z) rfl rfl (by kernel_rfl) (by kernel_rfl) (fun _ _ => by simp [go_sem]) (fun u wx hwx hu => (CO.out u wx hu).mono fun _ _ h => ⟨h.1, h.2 ▸ Below.refl _ _⟩) ?_
 refine wpL_assign (.int .i64 z) rfl (by kernel_rfl) (by kernel_rfl) (by kernel_rfl) (by kernel_rfl) ?_
 refine wpL_end (by kernel_rfl) (fun w1 hw1 => ?_)
 simp only [FinL, setL, List.set_cons_zero, List.set_cons_succ]
 intro x27 _
 have HW := Lib.hid hw1
 clear hw1
 go_wp2
 go_ret
 exact ⟨rfl, HW.out⟩
end
end Tba
end Go.Proofs.YtahjjcmeocibbaaGreatDoor
end
section
namespace Go.Proofs.YtahjjcmeocibbaaGreatDoor
open Go.RowKit Go.Own
namespace Tba
open Go.TabM Tab
def minO (rows : List Sg) : Option Nat -> List Nat -> Option Nat
 | b, [] => b
 | none, x :: l => minO rows (some x) l
 | some m, x :: l => minO rows (some (if (at_ rows x).wear < (at_ rows m).wear then x else m)) l
theorem best_all (rows : List Sg) : ∀ (l : List Sg) (i : Nat) (b : Option Nat), (∀ k s, l[k]? = some s -> at_ rows (i + k) = s) ->
 bestF (b.map fun m => (m, (at_ rows m).wear)) i l = (minO rows b (allF 0 i l)).map fun m => (m, (at_ rows m).wear)
 | [], _, b, _ => by simp [bestF, allF, minO]
 | s :: l, i, b, h => by
  have hs := h 0 s rfl
  rw [Nat.add_zero] at hs
  have hl : ∀ k s', l[k]? = some s' -> at_ rows (i + 1 + k) = s' := fun k s' hk => by
   have := h (k + 1) s' hk
   rwa [show i + (k + 1) = i + 1 + k by omega] at this
  unfold bestF allF
  by_cases hk : s.kind = 0
  · rw [if_pos hk]
    cases b with
    | none =>
     have e : takes (Option.map (fun m => (m, (at_ rows m).wear)) none) s = true := by simp [takes, hk]
     rw [if_pos e, minO]
     have := best_all rows l (i + 1) (some i) hl
     rw [<- this, Option.map_some, hs]
    | some m =>
     rw [minO]
     by_cases hw : s.wear < (at_ rows m).wear
     · have e : takes (Option.map (fun m => (m, (at_ rows m).wear)) (some m)) s = true := by simp [takes, hk, hw]
       rw [if_pos e, hs, if_pos hw]
       have := best_all rows l (i + 1) (some i) hl
       rw [<- this, Option.map_some, hs]
     · have e : ¬ takes (Option.map (fun m => (m, (at_ rows m).wear)) (some m)) s = true := by simp [takes, hk, hw]
       rw [if_neg e, hs, if_neg hw]
       exact best_all rows l (i + 1) (some m) hl
  · rw [if_neg hk]
    have e : ¬ takes (Option.map (fun m => (m, (at_ rows m).wear)) b) s = true := by simp [takes, hk]
    rw [if_neg e]
    exact best_all rows l (i + 1) b hl
theorem best_min (t : T) : best t = (minO t.rows none (allL 0 t)).map fun m => (m, (at_ t.rows m).wear) := by
 have := best_all t.rows t.rows 0 none (fun k s hk => by rw [Nat.zero_add]; exact at_eq hk)
 exact this
theorem minO_some (rows : List Sg) : ∀ (l : List Nat) (m : Nat), ∃ k, minO rows (some m) l = some k /\ (k = m \/ k ∈ l)
 | [], m => ⟨m, rfl, .inl rfl⟩
 | x :: l, m => by
  obtain ⟨k, h1, h2⟩ := minO_some rows l (if (at_ rows x).wear < (at_ rows m).wear then x else m)
  refine ⟨k, h1, ?_⟩
  rcases h2 with h2 | h2
  · by_cases h : (at_ rows x).wear < (at_ rows m).wear
    · rw [if_pos h] at h2; exact .inr (by rw [h2]; exact List.mem_cons_self)
    · rw [if_neg h] at h2; exact .inl h2
  · exact .inr (List.mem_cons_of_mem _ h2)
theorem wear_lt (rows : List Sg) (x m : Nat) : decide (wearCmp rows x m < 0) = decide ((at_ rows x).wear < (at_ rows m).wear) := by
 unfold wearCmp cmpN
 by_cases h : (at_ rows x).wear < (at_ rows m).wear
 · simp [h]
 · by_cases h2 : (at_ rows m).wear < (at_ rows x).wear <;> simp [h, h2]
theorem minO_at {rows : List Sg} {L : List Nat} {i m : Nat} (hi : i < L.length) : minO rows (some m) (L.drop i) = minO rows (some (if (at_ rows L[i]).wear < (at_ rows m).wear then L[i] else m)) (L.drop (i + 1)) := by
 rw [List.drop_eq_getElem_cons hi, minO]
theorem enters40 (args : Array Value) (w : World) : (callFunc 135 args).run Tryz.prog w = .ok (.enter 135 args) w := by simp [go_sem]
section
variable {B : Nat} {w0 w : World} {Ps : List Asn} {p : Nat} {v : Value} {t : T} {N : Nat}
theorem rowG_at2 {rows : List Sg} {g c : Nat} (H : Own.St B w0 w Ps) (i : Nat) (hi : Ps[i]? = some (RowG (.slice (some ⟨g, 0, none⟩) rows.length c) rows)) (j : Nat) (hj : j < rows.length) : At w g j (at_ rows j) := by
 obtain ⟨g', c', e, ha⟩ := rowG_at H i hi j hj
 simp only [Value.slice.injEq, Option.some.injEq, Addr.mk.injEq, and_true, true_and] at e
 obtain ⟨rfl, rfl⟩ := e
 exact ha
set_option maxHeartbeats 4000000 in
theorem min_any (H : Own.St B w0 w (AT p v t :: Ps)) (L : List Nat) (hL : ∀ x ∈ L, x < t.rows.length) (hl : L.length <= 256) (m : Nat) (l : List Nat) (hml : L = m :: l) {w1 : World} {ao : Option Addr} {c : Nat} (h1 : Own.St w.heap.size w w1 [RowI (.slice ao L.length c) L L.length]) :
 Calls Tryz.prog 134 #[.slice ao L.length c, .func (.func 135) #[ptr p] #[]] w1 fun e w' => e = .returned (.int .i64 (((minO t.rows (some m) l).getD 0 : Nat) : Int)) /\ Below w.heap.size w w' := by
 obtain ⟨R, hR⟩ : ∃ R, R = (minO t.rows (some m) l).getD 0 := ⟨_, rfl⟩
 rw [<- hR]
 have hR0 : R = (minO t.rows (some m) (L.drop 1)).getD 0 := by rw [hR, hml]; rfl
 have HR0 := Lib.hid hR0
 have HL := Lib.hid hL
 have HH := Lib.hid H
 have H1 := Lib.hid h1
 obtain ⟨n, hn⟩ : ∃ n, n = L.length := ⟨_, rfl⟩
 have hn1 : 0 < n := by rw [hn, hml]; exact Nat.succ_pos _
 have HN := Lib.hid hn
 rw [<- hn] at hl H1 ⊢
 have hmL : L[0]'(by omega) = m := by subst hml; rfl
 have hm0 : (L.map iV)[0]? = some (iV m) := by rw [hml]; rfl
 obtain ⟨g, rfl, ⟨u, hu, d0⟩, _, _⟩ := H1.out.rowAt 0 rfl 0 (by omega)
 rw [hm0] at hu
 cases hu
 have HM : Hid (m ∈ L) := by show m ∈ L; rw [hml]; exact List.mem_cons_self
 clear hR hR0 hL H h1 hn hmL hm0 hml
 have hlt1 : ¬ (n : Int) < 1 := by omega
 go_enter Tryz.func134, Tryz.ntmps134
 go_wp2
 go_loopw [5, 6] (fun v5 v6 wr => ∃ (i k : Nat), v5 = .int .i64 (k : Int) /\ v6 = .int .i64 (i : Int) /\ 1 <= i /\ i <= n /\ k ∈ L /\ R = (minO t.rows (some k) (L.drop i)).getD 0 /\ Own.St w.heap.size w wr [RowI (.slice (some ⟨g, 0, none⟩) n c) L n]) (fun _ v6 _ => n - (intOf v6).toNat)
 case atStart => exact ⟨1, m, rfl, rfl, Nat.le_refl _, hn1, HM.out, HR0.out, H1.out⟩
 case round =>
  obtain ⟨i, k, rfl, rfl, h1i, hin, hk, hr, hs⟩ := hrel
  have HS := Lib.hid hs
  have HRR := Lib.hid hr
  have HK := Lib.hid hk
  clear hs hr hk HR0 H1 d0
  by_cases hi : i < n
  · have hiI : (i : Int) < (n : Int) := by omega
    have hiL : i < L.length := by rw [<- HN.out]; exact hi
    obtain ⟨x, hx⟩ : ∃ x, x = L[i] := ⟨_, rfl⟩
    have hxL : x ∈ L := by rw [hx]; exact List.getElem_mem _
    have hxm : (L.map iV)[i]? = some (iV x) := by rw [List.getElem?_map, List.getElem?_eq_getElem hiL, hx]; rfl
    obtain ⟨g2, hg2, ⟨u, hu, d0⟩, _, _⟩ := HS.out.rowAt 0 rfl i (by omega)
    cases hg2
    rw [hxm] at hu
    cases hu
    have CB := Lib.hid (byWear_any (HH.out.later HS.out.below) x k (HL.out x hxL) (HL.out k HK.out))
    obtain ⟨z, hz⟩ : ∃ z, z = wearCmp t.rows x k := ⟨_, rfl⟩
    rw [<- hz] at CB
    have hwl := wear_lt t.rows x k
    rw [<- hz] at hwl
    have HRN : Hid (R = (minO t.rows (some (if (at_ t.rows x).wear < (at_ t.rows k).wear then x else k)) (L.drop (i + 1))).getD 0) := by show _ = _; rw [HRR.out, minO_at hiL, <- hx]
    have HXL := Lib.hid hxL
    have ENT := Lib.hid enters40
    clear hz hx hxL hxm HRR
    by_cases hlt : (at_ t.rows x).wear < (at_ t.rows k).wear
    · have hzI : z < 0 := by rw [decide_eq_true hlt] at hwl; exact of_decide_eq_true hwl
      have HRM : Hid (R = (minO t.rows (some x) (L.drop (i + 1))).getD 0) := by show _ = _; rw [HRN.out, if_pos hlt]
      clear hwl hlt HRN hiL
      go_wp2_with (fail)
      refine CB.out.mono ?_
      clear CB
      rintro e w2 ⟨rfl, hb⟩
      have HS2 := Lib.hid (HS.out.later hb)
      obtain ⟨g3, hg3, ⟨u, hu, d1⟩, _, _⟩ := HS2.out.rowAt 0 rfl i (by omega)
      have hxm : (L.map iV)[i]? = some (iV x) := by
       obtain ⟨g4, hg4, ⟨u4, hu4, d4⟩, _, _⟩ := HS.out.rowAt 0 rfl i (by omega)
       cases hg4
       rw [d0] at d4
       cases d4
       exact hu4
      cases hg3
      rw [hxm] at hu
      cases hu
      clear hb hxm d0
      go_wp2
      go_roundw
      case rel => exact ⟨i + 1, x, rfl, by go_num, by omega, by omega, HXL.out, HRM.out, HS2.out⟩
      case measure => simp [intOf]; omega
    · have hzI : ¬ z < 0 := by rw [decide_eq_false hlt] at hwl; exact of_decide_eq_false hwl
      have HRM : Hid (R = (minO t.rows (some k) (L.drop (i + 1))).getD 0) := by show _ = _; rw [HRN.out, if_neg hlt]
      clear hwl hlt HRN hiL
      go_wp2_with (fail)
      refine CB.out.mono ?_
      clear CB
      rintro e w2 ⟨rfl, hb⟩
      have HS2 := Lib.hid (HS.out.later hb)
      clear hb d0
      go_wp2
      go_roundw
      case rel => exact ⟨i + 1, k, rfl, by go_num, by omega, by omega, HK.out, HRM.out, HS2.out⟩
      case measure => simp [intOf]; omega
  · have hiI : ¬ (i : Int) < (n : Int) := by omega
    have HE : Hid (R = k) := by show _ = _; rw [HRR.out, List.drop_of_length_le (by rw [<- HN.out]; omega)]; rfl
    clear HRR
    have HB := Lib.hid HS.out.below
    go_wp2
    go_ret
    exact ⟨by rw [HE.out]; rfl, HB.out⟩
def lwV (t : T) : Value := .tuple #[.int .i64 (((best t).map (·.1)).getD 0 : Nat), .bool (best t).isSome]
set_option maxHeartbeats 4000000 in
theorem least_any (H : Own.St B w0 w (AT p v t :: Ps)) (ok : Ok t N) : Calls Tryz.prog 117 #[ptr p] w fun e w' => e = .returned (lwV t) /\ Below w.heap.size w w' := by
 have CC := Lib.hid (all_any H ok 0 (by decide))
 have HH := Lib.hid H
 obtain ⟨L, hL⟩ : ∃ L, L = allL 0 t := ⟨_, rfl⟩
 have hlen : L.length <= 256 := by rw [hL]; unfold allL; rw [allF_len]; exact Nat.le_trans List.countP_le_length ok.len
 have HLT : Hid (∀ x ∈ L, x < t.rows.length) := fun x hx => (all_lt (by rw [<- hL]; exact hx)).1
 have HBM := Lib.hid (best_min t)
 rw [<- hL] at CC HBM
 clear H ok hL
 cases hc : L with
 | nil =>
  have HV : Hid (lwV t = .tuple #[.int .i64 0, .bool false]) := by show _ = _; unfold lwV; rw [HBM.out, hc]; rfl
  rw [HV.out]
  rw [hc] at CC
  clear hc HBM HLT hlen
  go_enter Tryz.func117, Tryz.ntmps117
  go_wp2_with (fail)
  refine CC.out.mono ?_
  clear CC
  rintro e w1 ⟨ao, c, rfl, h⟩
  have HB := Lib.hid h.below
  clear h
  go_wp2
  go_ret2
  exact ⟨rfl, HB.out⟩
 | cons m l =>
  have HV : Hid (lwV t = .tuple #[.int .i64 (((minO t.rows (some m) l).getD 0 : Nat) : Int), .bool true]) := by
   show _ = _
   obtain ⟨k, hk, _⟩ := minO_some t.rows l m
   unfold lwV
   rw [HBM.out, hc, minO, hk]
   rfl
  rw [HV.out]
  have MM := Lib.hid (fun (w1 : World) (ao : Option Addr) (c : Nat) (h1 : Own.St w.heap.size w w1 [RowI (.slice ao L.length c) L L.length]) => min_any HH.out L HLT.out hlen m l hc h1)
  obtain ⟨R, hR⟩ : ∃ R, R = (minO t.rows (some m) l).getD 0 := ⟨_, rfl⟩
  obtain ⟨n, hn⟩ : ∃ n, n = L.length := ⟨_, rfl⟩
  have hn1 : ((n : Int) == 0) = false := by rw [hn, hc]; simp; omega
  rw [<- hR] at MM ⊢
  rw [<- hn] at CC hlen MM
  clear hc HBM HLT hR hn HV
  go_enter Tryz.func117, Tryz.ntmps117
  go_wp2_with (fail)
  refine CC.out.mono ?_
  clear CC
  rintro e w1 ⟨ao, c, rfl, h⟩
  have M1 := Lib.hid (MM.out w1 ao c h)
  clear h MM
  go_wp2_with (fail)
  refine M1.out.mono ?_
  clear M1
  rintro e w2 ⟨rfl, hb⟩
  have HB := Lib.hid hb
  clear hb
  go_wp2
  go_ret2
  exact ⟨rfl, HB.out⟩
end
end Tba
end Go.Proofs.YtahjjcmeocibbaaGreatDoor
end
section
namespace Go.Proofs.YtahjjcmeocibbaaGreatDoor
open Go.RowKit Go.Own
namespace Tba
open Go.TabM Tab
section
variable {B : Nat} {w0 w : World} {Ps : List Asn} {p : Nat} {v : Value} {t : T} {N : Nat}
set_option maxRecDepth 4000 in
set_option maxHeartbeats 4000000 in
theorem open_any (H : Own.St B w0 w (AT p v t :: Ps)) (ok : Ok t N) (hN : N <= 100000) : Calls Tryz.prog 94 #[ptr p] w fun e w' => e = .returned (opV (openT t).2) /\ Own.St B w0 w' (AT p v (openT t).1 :: Ps) := by
 have CC := Lib.hid (cur_any H ok)
 have HH := Lib.hid H
 have HOK := Lib.hid ok
 obtain ⟨X, hX⟩ : ∃ X, X = openT t := ⟨_, rfl⟩
 rw [<- hX]
 have HX := Lib.hid hX
 clear hX H ok
 cases hc : cur t with
 | some i =>
  have e1 : curV t = .tuple #[.int .i64 (i : Int), .bool true] := by unfold curV; rw [hc]; rfl
  have e2 : Hid (X = (t, (0, 0, 3))) := by show _ = _; rw [HX.out]; unfold openT; rw [hc]
  rw [e1] at CC
  clear hc e1
  go_enter Tryz.func94, Tryz.ntmps94
  go_wp2_with (fail)
  refine CC.out.mono ?_
  clear CC
  rintro e w1 ⟨rfl, hb⟩
  have H1 := Lib.hid (HH.out.later hb)
  clear hb
  go_wp2
  go_ret3
  rw [e2.out]
  exact ⟨rfl, H1.out⟩
 | none =>
  have e1 : curV t = .tuple #[.int .i64 0, .bool false] := by unfold curV; rw [hc]; rfl
  rw [e1] at CC
  cases hbst : best t with
  | none =>
   have e2 : Hid (X = (t, (0, 0, 5))) := by show _ = _; rw [HX.out]; unfold openT; rw [hc, hbst]
   have e3 : lwV t = .tuple #[.int .i64 0, .bool false] := by unfold lwV; rw [hbst]; rfl
   have LW := Lib.hid (fun (w1 : World) (hb : Below w.heap.size w w1) => least_any (HH.out.later hb) HOK.out)
   rw [e3] at LW
   clear hc e1 hbst e3
   go_enter Tryz.func94, Tryz.ntmps94
   go_wp2_with (fail)
   refine CC.out.mono ?_
   clear CC
   rintro e w1 ⟨rfl, hb⟩
   have H1 := Lib.hid (HH.out.later hb)
   have L1 := Lib.hid (LW.out w1 hb)
   clear hb LW
   go_wp2_with (fail)
   refine L1.out.mono ?_
   clear L1
   rintro e w2 ⟨rfl, hb⟩
   have H2 := Lib.hid (H1.out.later hb)
   clear hb
   go_wp2
   go_ret3
   rw [e2.out]
   exact ⟨rfl, H2.out⟩
  | some pr =>
   obtain ⟨i, we⟩ := pr
   have e2 : Hid (X = (opened t i we, (i, t.next, 0))) := by show _ = _; rw [HX.out]; unfold openT; rw [hc, hbst]
   have e3 : lwV t = .tuple #[.int .i64 (i : Int), .bool true] := by unfold lwV; rw [hbst]; rfl
   have LW := Lib.hid (fun (w1 : World) (hb : Below w.heap.size w w1) => least_any (HH.out.later hb) HOK.out)
   rw [e3] at LW
   obtain ⟨hi, hk, hw⟩ := best_some hbst
   have hweb : we <= 100000 := by rw [<- hw]; exact Nat.le_trans (HOK.out.wear _ (at_mem hi)) hN
   obtain ⟨nx, hnx⟩ : ∃ x, x = t.next := ⟨_, rfl⟩
   have hnxb : nx <= 100001 := by rw [hnx]; have := HOK.out.next; omega
   have HW := Lib.hid hw
   have HNX := Lib.hid hnx
   clear hc e1 hbst e3 hk hw hnx
   go_enter Tryz.func94, Tryz.ntmps94
   go_wp2_with (fail)
   refine CC.out.mono ?_
   clear CC
   rintro e w1 ⟨rfl, hb⟩
   have H1 := Lib.hid (HH.out.later hb)
   have L1 := Lib.hid (LW.out w1 hb)
   clear hb LW
   go_wp2_with (fail)
   refine L1.out.mono ?_
   clear L1
   rintro e w2 ⟨rfl, hb⟩
   have h0 := at_open (H1.out.later hb)
   obtain ⟨ao, cap, rfl⟩ := h0.rowForm 1 rfl
   obtain ⟨g, cc, e, ha⟩ := rowG_at h0 1 rfl i hi
   simp only [Value.slice.injEq, true_and] at e
   obtain ⟨rfl, rfl⟩ := e
   clear hb
   obtain ⟨sq, hsq⟩ : ∃ s, s = (at_ t.rows i).seq := ⟨_, rfl⟩
   obtain ⟨f0, s1⟩ := rowG_set h0 1 rfl i 0 ⟨1, sq, we⟩ (.int .u8 1) hi (by omega) (by rw [hsq, <- HW.out]; rfl)
   simp only [List.set_cons_zero, List.set_cons_succ, Nat.add_zero] at f0 s1
   have hi1 : i < (t.rows.set i ⟨1, sq, we⟩).length := by simpa using hi
   have a1 : at_ (t.rows.set i ⟨1, sq, we⟩) i = ⟨1, sq, we⟩ := at_eq (by rw [List.getElem?_set_self hi])
   obtain ⟨W1, hW1⟩ : ∃ W, W = w2.setCell ⟨g, i * 3, none⟩ (.int .u8 1) := ⟨_, rfl⟩
   rw [<- hW1] at s1
   rw [show RowG (.slice (some ⟨g, 0, none⟩) t.rows.length cap) (t.rows.set i ⟨1, sq, we⟩) = RowG (.slice (some ⟨g, 0, none⟩) (t.rows.set i ⟨1, sq, we⟩).length cap) (t.rows.set i ⟨1, sq, we⟩) by rw [List.length_set]] at s1
   have q1 := rowG_at2 s1 1 rfl i hi1
   rw [a1] at q1
   obtain ⟨f1, s2⟩ := rowG_set s1 1 rfl i 1 ⟨1, nx, we⟩ (.int .u64 (nx : Int)) hi1 (by omega) (by rw [a1]; rfl)
   simp only [List.set_cons_zero, List.set_cons_succ, List.set_set, List.length_set] at s2
   obtain ⟨W2, hW2⟩ : ∃ W, W = W1.setCell ⟨g, i * 3 + 1, none⟩ (.int .u64 (nx : Int)) := ⟨_, rfl⟩
   rw [<- hW2] at s2
   have hi2 : i < (t.rows.set i ⟨1, nx, we⟩).length := by simpa using hi
   have a2 : at_ (t.rows.set i ⟨1, nx, we⟩) i = ⟨1, nx, we⟩ := at_eq (by rw [List.getElem?_set_self hi])
   rw [show RowG (.slice (some ⟨g, 0, none⟩) t.rows.length cap) (t.rows.set i ⟨1, nx, we⟩) = RowG (.slice (some ⟨g, 0, none⟩) (t.rows.set i ⟨1, nx, we⟩).length cap) (t.rows.set i ⟨1, nx, we⟩) by rw [List.length_set]] at s2
   have q2 := rowG_at2 s2 1 rfl i hi2
   rw [a2] at q2
   obtain ⟨f2, s3⟩ := rowG_set s2 1 rfl i 2 ⟨1, nx, we + 1⟩ (.int .u32 ((we + 1 : Nat) : Int)) hi2 (by omega) (by rw [a2]; rfl)
   simp only [List.set_cons_zero, List.set_cons_succ, List.set_set, List.length_set] at s3
   obtain ⟨W3, hW3⟩ : ∃ W, W = W2.setCell ⟨g, i * 3 + 2, none⟩ (.int .u32 ((we + 1 : Nat) : Int)) := ⟨_, rfl⟩
   rw [<- hW3] at s3
   have s4 := s3.storeV 0 rfl 1 (.int .u64 ((nx + 1 : Nat) : Int))
   simp only [List.set_cons_zero, List.set_cons_succ] at s4
   obtain ⟨W4, hW4⟩ : ∃ W, W = W3.setCell ⟨p, 1, none⟩ (.int .u64 ((nx + 1 : Nat) : Int)) := ⟨_, rfl⟩
   rw [<- hW4] at s4
   have k0 := (h0.cellV 0 rfl 0 rfl).1
   have k1 := (s1.cellV 0 rfl 1 rfl).1
   have k3 := (s3.cellV 0 rfl 1 rfl).1
   have k3f := (s3.cellV 0 rfl 1 rfl).2
   have m0 := ha.c0
   have m1 := q1.c1
   have m2 := q2.c2
   have s5 : Own.St B w0 W4 (AVals p 85 (tabC (.slice (some ⟨g, 0, none⟩) t.rows.length cap) (opened t i we)) :: RowG (.slice (some ⟨g, 0, none⟩) (t.rows.set i ⟨1, nx, we + 1⟩).length cap) (t.rows.set i ⟨1, nx, we + 1⟩) :: Ps) := by
    rw [List.length_set]
    have e : tabC (.slice (some ⟨g, 0, none⟩) t.rows.length cap) (opened t i we) = [.slice (some ⟨g, 0, none⟩) t.rows.length cap, .int .u64 ((nx + 1 : Nat) : Int)] := by rw [HNX.out]; rfl
    rw [e]
    have e2 : RowG (.slice (some ⟨g, 0, none⟩) t.rows.length cap) (t.rows.set i ⟨1, nx, we + 1⟩) = ARow 145 3 (.slice (some ⟨g, 0, none⟩) t.rows.length cap) (t.rows.set i ⟨1, nx, we + 1⟩).length ((t.rows.set i ⟨1, nx, we + 1⟩).flatMap sgC) := rfl
    exact s4
   have hi3 : i < (t.rows.set i ⟨1, nx, we + 1⟩).length := by simpa using hi
   have a3 : at_ (t.rows.set i ⟨1, nx, we + 1⟩) i = ⟨1, nx, we + 1⟩ := at_eq (by rw [List.getElem?_set_self hi])
   have q3 := rowG_at2 s5 1 rfl i hi3
   rw [a3] at q3
   have n1 := q3.c1
   have HF : Hid (Own.St B w0 W4 (AT p (.slice (some ⟨g, 0, none⟩) t.rows.length cap) (opened t i we) :: Ps)) := Lib.hid (by
    refine at_close ?_
    have e : (opened t i we).rows = t.rows.set i ⟨1, nx, we + 1⟩ := by rw [HNX.out]; rfl
    rw [e]
    rw [List.length_set] at s5
    exact s5)
   simp only at m1 m2 n1
   rw [<- HNX.out] at k1 k3
   obtain ⟨n, hn⟩ : ∃ n, n = t.rows.length := ⟨_, rfl⟩
   have hin : i < n := by omega
   have hnb : n <= 256 := by rw [hn]; exact HOK.out.len
   rw [<- hn] at k0
   have HN := Lib.hid hn
   have E1 := hW1.symm
   have E2 := hW2.symm
   have E3 : W2.setCell ⟨g, i * 3 + 2, none⟩ (.int .u32 ((we : Int) + 1)) = W3 := hW3.symm
   have E4 : W3.setCell ⟨p, 1, none⟩ (.int .u64 ((nx : Int) + 1)) = W4 := hW4.symm
   clear h0 ha hsq s1 s2 s3 s4 s5 q1 q2 q3 a1 a2 a3 hi1 hi2 hi3 hi hW1 hW2 hW3 hW4 hn H1 HH
   go_wp2_with (refine Byt.wpList_val rfl (sat_lt (x := 44) rfl hweb _ _ rfl rfl) ?_)
   go_quiet (fail)
   go_wp2
   go_ret3
   rw [e2.out]
   exact ⟨by rw [<- HNX.out]; rfl, HF.out.drewN nq⟩
end
end Tba
end Go.Proofs.YtahjjcmeocibbaaGreatDoor
end
section
namespace Go.Proofs.YtahjjcmeocibbaaGreatDoor
open Go.RowKit Go.Own
namespace Srt
abbrev cntA (bx s : Nat) : Asn := AVals bx 3 [iV s]
section
variable {f : FuncId} {bs cb : Array Value} {cf : Nat -> Nat -> Int} {Ok : Nat -> Prop} {B : Nat} {w0 w : World} {Ts Rs : List Asn} {g n c bx s : Nat} {d : Array Nat}
theorem Sd.cnt (S : Sd Ok B w0 Ts g n c (cntA bx s :: Rs) w d) : w.cell? ⟨bx, 0, none⟩ = some (iV s) /\ w.frozen? ⟨bx, 0, none⟩ = false := S.st.cellV 1 rfl 0 rfl
theorem Sd.bump (S : Sd Ok B w0 Ts g n c (cntA bx s :: Rs) w d) (s' : Nat) : Sd Ok B w0 Ts g n c (cntA bx s' :: Rs) (w.setCell ⟨bx, 0, none⟩ (iV s')) d :=
 ⟨S.st.storeV 1 rfl 0 (iV s'), S.size, S.ok⟩
theorem order2_t {lt : Nat -> Nat -> Bool} {a b : Nat} (h : lt d[b]! d[a]! = true) : Sort.order2 lt d a b s = (b, a, s + 1) := by unfold Sort.order2; rw [if_pos h]
theorem order2_f {lt : Nat -> Nat -> Bool} {a b : Nat} (h : ¬ lt d[b]! d[a]! = true) : Sort.order2 lt d a b s = (a, b, s) := by unfold Sort.order2; rw [if_neg h]
set_option maxHeartbeats 4000000 in
theorem order2_any (K : Cmp f bs cb cf Ok B w0 Ts) (S : Sd Ok B w0 Ts g n c (cntA bx s :: Rs) w d) (a b : Nat) (ha : a < n) (hb : b < n) (hs : s <= 1000) :
 Calls Tryz.prog 142 #[.slice (some ⟨g, 0, none⟩) n c, .int .i64 (a : Int), .int .i64 (b : Int), .pointer (some ⟨bx, 0, none⟩), fvOf f bs cb] w fun e w' =>
  e = .returned (.tuple #[iV (Sort.order2 (ltc cf) d a b s).1, iV (Sort.order2 (ltc cf) d a b s).2.1]) /\ Sd Ok B w0 Ts g n c (cntA bx (Sort.order2 (ltc cf) d a b s).2.2 :: Rs) w' d := by
 have HS := Lib.hid S
 have ENT := Lib.hid K.ent
 obtain ⟨x, hx⟩ : ∃ x, x = d[b]! := ⟨_, rfl⟩
 obtain ⟨y, hy⟩ : ∃ y, y = d[a]! := ⟨_, rfl⟩
 obtain ⟨z, hz⟩ : ∃ z, z = cf x y := ⟨_, rfl⟩
 have ASK := Lib.hid (ask_at K HS.out hb ha)
 have CX := Lib.hid (cell_at HS.out hb)
 have CY := Lib.hid (cell_at HS.out ha)
 rw [<- hx, <- hy, <- hz] at ASK
 rw [<- hx] at CX
 rw [<- hy] at CY
 by_cases hlt : ltc cf x y = true
 · have HT := Lib.hid (ltc_t hlt hz)
   have HE := Lib.hid (order2_t (s := s) (by rw [<- hx, <- hy]; exact hlt) : Sort.order2 (ltc cf) d a b s = (b, a, s + 1))
   rw [HE.out]
   clear hlt hz hx hy S
   go_enter Tryz.func142, Tryz.ntmps142
   go_wp2_with (fail)
   refine lxX ?_; refine lxM (fvOf f bs cb) rfl ?_; refine lxM (.slice (some ⟨g, 0, none⟩) n c) rfl ?_; refine lxM (.int .i64 (b : Int)) rfl ?_; refine lxT (.tmp 13) (.tmp 14) (.slice (some ⟨g, 0, none⟩) n c) (.int .i64 (b : Int)) (.pointer (some ⟨g, b, none⟩)) (fun wx ρ hwx h0 h1 hc => idx_i rfl hb ρ wx h0 h1) ?_; refine lxR (.tmp 15) (.pointer (some ⟨g, b, none⟩)) (iV x) (fun wx ρ hwx h0 hc => load_i rfl ρ (CX.out wx hwx) h0) ?_; refine lxM (.slice (some ⟨g, 0, none⟩) n c) rfl ?_; refine lxM (.int .i64 (a : Int)) rfl ?_; refine lxT (.tmp 17) (.tmp 18) (.slice (some ⟨g, 0, none⟩) n c) (.int .i64 (a : Int)) (.pointer (some ⟨g, a, none⟩)) (fun wx ρ hwx h0 h1 hc => idx_i rfl ha ρ wx h0 h1) ?_; refine lxR (.tmp 19) (.pointer (some ⟨g, a, none⟩)) (iV y) (fun wx ρ hwx h0 hc => load_i rfl ρ (CY.out wx hwx) h0) ?_
   refine wpL_val (.int .i64 z) [iV x, iV y] (by kernel_rfl) (by kernel_rfl) rfl (by kernel_rfl) (by kernel_rfl) (by kernel_rfl) (by kernel_rfl) ENT.out (fun wx hwx => ASK.out wx hwx) ?_
   refine lxR (.tmp 21) (.int .i64 z) (.bool true) (fun wx ρ hwx h0 hc => lss_i rfl HT.out ρ wx h0 (hc _)) ?_
   refine wpL_end (by kernel_rfl) (fun w1 hw1 => ?_)
   simp only [FinL, setL, List.set_cons_zero, List.set_cons_succ]
   have S1 := Lib.hid (HS.out.later hw1)
   obtain ⟨k1, k2⟩ := S1.out.cnt
   have S2 := Lib.hid (S1.out.bump (s + 1))
   clear ASK CX CY
   go_wp2
   go_ret2
   exact ⟨rfl, S2.out⟩
 · have hlf : ltc cf x y = false := by simpa using hlt
   have HT := Lib.hid (ltc_t hlf hz)
   have HE := Lib.hid (order2_f (s := s) (by rw [<- hx, <- hy]; exact hlt) : Sort.order2 (ltc cf) d a b s = (a, b, s))
   rw [HE.out]
   clear hlt hlf hz hx hy S
   go_enter Tryz.func142, Tryz.ntmps142
   go_wp2_with (fail)
   refine lxX ?_; refine lxM (fvOf f bs cb) rfl ?_; refine lxM (.slice (some ⟨g, 0, none⟩) n c) rfl ?_; refine lxM (.int .i64 (b : Int)) rfl ?_; refine lxT (.tmp 13) (.tmp 14) (.slice (some ⟨g, 0, none⟩) n c) (.int .i64 (b : Int)) (.pointer (some ⟨g, b, none⟩)) (fun wx ρ hwx h0 h1 hc => idx_i rfl hb ρ wx h0 h1) ?_; refine lxR (.tmp 15) (.pointer (some ⟨g, b, none⟩)) (iV x) (fun wx ρ hwx h0 hc => load_i rfl ρ (CX.out wx hwx) h0) ?_; refine lxM (.slice (some ⟨g, 0, none⟩) n c) rfl ?_; refine lxM (.int .i64 (a : Int)) rfl ?_; refine lxT (.tmp 17) (.tmp 18) (.slice (some ⟨g, 0, none⟩) n c) (.int .i64 (a : Int)) (.pointer (some ⟨g, a, none⟩)) (fun wx ρ hwx h0 h1 hc => idx_i rfl ha ρ wx h0 h1) ?_; refine lxR (.tmp 19) (.pointer (some ⟨g, a, none⟩)) (iV y) (fun wx ρ hwx h0 hc => load_i rfl ρ (CY.out wx hwx) h0) ?_
   refine wpL_val (.int .i64 z) [iV x, iV y] (by kernel_rfl) (by kernel_rfl) rfl (by kernel_rfl) (by kernel_rfl) (by kernel_rfl) (by kernel_rfl) ENT.out (fun wx hwx => ASK.out wx hwx) ?_
   refine lxR (.tmp 21) (.int .i64 z) (.bool false) (fun wx ρ hwx h0 hc => lss_i rfl HT.out ρ wx h0 (hc _)) ?_
   refine wpL_end (by kernel_rfl) (fun w1 hw1 => ?_)
   simp only [FinL, setL, List.set_cons_zero, List.set_cons_succ]
   have S1 := Lib.hid (HS.out.later hw1)
   clear ASK CX CY
   go_wp2
   go_ret2
   exact ⟨rfl, S1.out⟩
theorem order2_in {lt : Nat -> Nat -> Bool} {a b : Nat} (ha : a < n) (hb : b < n) : (Sort.order2 lt d a b s).1 < n /\ (Sort.order2 lt d a b s).2.1 < n := by
 rcases Sort.order2_mem lt d a b s with ⟨h1, h2⟩ | ⟨h1, h2⟩ <;> rw [h1, h2] <;> exact ⟨by omega, by omega⟩
set_option maxHeartbeats 4000000 in
theorem median_any (K : Cmp f bs cb cf Ok B w0 Ts) (S : Sd Ok B w0 Ts g n c (cntA bx s :: Rs) w d) (a b e : Nat) (ha : a < n) (hb : b < n) (he : e < n) (hs : s <= 900) :
 Calls Tryz.prog 133 #[.slice (some ⟨g, 0, none⟩) n c, .int .i64 (a : Int), .int .i64 (b : Int), .int .i64 (e : Int), .pointer (some ⟨bx, 0, none⟩), fvOf f bs cb] w fun r w' =>
  r = .returned (iV (Sort.median (ltc cf) d a b e s).1) /\ Sd Ok B w0 Ts g n c (cntA bx (Sort.median (ltc cf) d a b e s).2 :: Rs) w' d := by
 have KK := Lib.hid (fun (w : World) (s : Nat) (S : Sd Ok B w0 Ts g n c (cntA bx s :: Rs) w d) (a b : Nat) (ha : a < n) (hb : b < n) (hs : s <= 1000) => order2_any K S a b ha hb hs)
 have C1 := Lib.hid (KK.out _ _ S a b ha hb (by omega))
 obtain ⟨⟨x1, y1, s1⟩, h1⟩ : ∃ r, r = Sort.order2 (ltc cf) d a b s := ⟨_, rfl⟩
 have i1 := order2_in (lt := ltc cf) (d := d) (s := s) ha hb
 have t1 := Sort.order2_count (ltc cf) d a b s
 rw [<- h1] at C1 i1 t1
 obtain ⟨⟨x2, y2, s2⟩, h2⟩ : ∃ r, r = Sort.order2 (ltc cf) d y1 e s1 := ⟨_, rfl⟩
 have i2 := order2_in (lt := ltc cf) (d := d) (s := s1) i1.2 he
 have t2 := Sort.order2_count (ltc cf) d y1 e s1
 rw [<- h2] at i2 t2
 obtain ⟨⟨x3, y3, s3⟩, h3⟩ : ∃ r, r = Sort.order2 (ltc cf) d x1 x2 s2 := ⟨_, rfl⟩
 have HM : Hid (Sort.median (ltc cf) d a b e s = (y3, s3)) := by
  show _ = _
  unfold Sort.median
  simp only
  rw [<- h1, <- h2, <- h3]
 simp only at i1 i2 t1 t2
 obtain ⟨ix1, iy1⟩ := i1
 obtain ⟨ix2, iy2⟩ := i2
 rw [HM.out]
 have H2 := Lib.hid h2
 have H3 := Lib.hid h3
 have hs1 : s1 <= 1000 := by omega
 have hs2 : s2 <= 1000 := by omega
 clear h1 h2 h3 S K t1 t2
 go_enter Tryz.func133, Tryz.ntmps133
 go_wp2_with (fail)
 refine C1.out.mono ?_
 clear C1
 rintro e1 w1 ⟨rfl, h⟩
 have C2 := Lib.hid (KK.out _ _ h y1 e iy1 he hs1)
 rw [<- H2.out] at C2
 clear h
 go_wp2_with (fail)
 refine C2.out.mono ?_
 clear C2
 rintro e2 w2 ⟨rfl, h⟩
 have C3 := Lib.hid (KK.out _ _ h x1 x2 ix1 ix2 hs2)
 rw [<- H3.out] at C3
 clear h
 go_wp2_with (fail)
 refine C3.out.mono ?_
 clear C3
 rintro e3 w3 ⟨rfl, h⟩
 have H9 := Lib.hid h
 clear h
 go_wp2
 go_ret
 exact ⟨rfl, H9.out⟩
set_option maxHeartbeats 4000000 in
theorem medianAdj_any (K : Cmp f bs cb cf Ok B w0 Ts) (S : Sd Ok B w0 Ts g n c (cntA bx s :: Rs) w d) (a : Nat) (ha : 1 <= a) (hb : a + 1 < n) (hn : n <= 100000) (hs : s <= 900) :
 Calls Tryz.prog 132 #[.slice (some ⟨g, 0, none⟩) n c, .int .i64 (a : Int), .pointer (some ⟨bx, 0, none⟩), fvOf f bs cb] w fun r w' =>
  r = .returned (iV (Sort.medianAdjacent (ltc cf) d a s).1) /\ Sd Ok B w0 Ts g n c (cntA bx (Sort.medianAdjacent (ltc cf) d a s).2 :: Rs) w' d := by
 have C1 := Lib.hid (median_any K S (a - 1) a (a + 1) (by omega) (by omega) hb hs)
 obtain ⟨⟨r, s2⟩, hr⟩ : ∃ r, r = Sort.medianAdjacent (ltc cf) d a s := ⟨_, rfl⟩
 have hr2 : (r, s2) = Sort.median (ltc cf) d (a - 1) a (a + 1) s := hr
 rw [<- hr2] at C1
 rw [<- hr]
 obtain ⟨p, hp⟩ : ∃ p, a = p + 1 := ⟨a - 1, by omega⟩
 have e0 : a - 1 = p := by omega
 rw [e0] at C1
 obtain ⟨q, hq⟩ : ∃ q, q = a + 1 := ⟨_, rfl⟩
 rw [<- hq] at C1
 have s1 : (a : Int) - 1 = (p : Int) := by omega
 have s2' : (a : Int) + 1 = (q : Int) := by omega
 clear S K hr hr2 hp e0 hq
 go_enter Tryz.func132, Tryz.ntmps132
 go_wp2_with (fail)
 refine C1.out.mono ?_
 clear C1
 rintro e1 w1 ⟨rfl, h⟩
 have H9 := Lib.hid h
 clear h
 go_wp2
 go_ret
 exact ⟨rfl, H9.out⟩
def hintV : Sort.Hint -> Value
 | .unknown => .int .i64 0
 | .increasing => .int .i64 1
 | .decreasing => .int .i64 2
theorem Sd.boxC (S : Sd Ok B w0 Ts g n c Rs w d) : Sd Ok B w0 Ts g n c (cntA w.heap.size 0 :: Rs) (w.alloc (.cells #[iV 0] 3)) d :=
 ⟨(S.st.boxV 3 [iV 0]).swap2, S.size, S.ok⟩
theorem Sd.dropC (S : Sd Ok B w0 Ts g n c (cntA bx s :: Rs) w d) : Sd Ok B w0 Ts g n c Rs w d := ⟨S.st.drop2, S.size, S.ok⟩
set_option maxRecDepth 4000 in
set_option maxHeartbeats 8000000 in
theorem choose_any (K : Cmp f bs cb cf Ok B w0 Ts) (S : Sd Ok B w0 Ts g n c Rs w d) (a b : Nat) (hab : a + 12 < b) (hb : b <= n) (hn : n <= 100000) :
 Calls Tryz.prog 107 #[.slice (some ⟨g, 0, none⟩) n c, .int .i64 (a : Int), .int .i64 (b : Int), fvOf f bs cb] w fun r w' =>
  r = .returned (.tuple #[iV (Sort.choosePivot (ltc cf) d a b).1, hintV (Sort.choosePivot (ltc cf) d a b).2]) /\ Sd Ok B w0 Ts g n c Rs w' d := by
 have KM := Lib.hid (fun (w : World) (bx s : Nat) (S : Sd Ok B w0 Ts g n c (cntA bx s :: Rs) w d) (a b e : Nat) (ha : a < n) (hb : b < n) (he : e < n) (hs : s <= 900) => median_any K S a b e ha hb he hs)
 have KA := Lib.hid (fun (w : World) (bx s : Nat) (S : Sd Ok B w0 Ts g n c (cntA bx s :: Rs) w d) (a : Nat) (ha : 1 <= a) (hb : a + 1 < n) (hs : s <= 900) => medianAdj_any K S a ha hb hn hs)
 obtain ⟨l, hl⟩ : ∃ l, l = b - a := ⟨_, rfl⟩
 obtain ⟨q, hq⟩ : ∃ q, q = l / 4 := ⟨_, rfl⟩
 obtain ⟨i, hi⟩ : ∃ i, i = a + q * 1 := ⟨_, rfl⟩
 obtain ⟨j, hj⟩ : ∃ j, j = a + q * 2 := ⟨_, rfl⟩
 obtain ⟨k, hk⟩ : ∃ k, k = a + q * 3 := ⟨_, rfl⟩
 have hl2 : (b : Int) - (a : Int) = (l : Int) := by omega
 have hq2 : (l : Int).tdiv 4 = (q : Int) := by rw [hq]; rfl
 have hi2 : (a : Int) + (q : Int) = (i : Int) := by omega
 have hj2 : (a : Int) + (q : Int) * 2 = (j : Int) := by omega
 have hk2 : (a : Int) + (q : Int) * 3 = (k : Int) := by omega
 have hqb : q <= 100000 := by omega
 have hlb : l <= 100000 := by omega
 have hib : 1 <= i /\ i + 1 < n := by omega
 have hjb : 1 <= j /\ j + 1 < n := by omega
 have hkb : 1 <= k /\ k + 1 < n := by omega
 have hl8 : (8 : Int) <= (l : Int) := by omega
 have h0 := Lib.hid S.boxC
 have HCP : Hid (Sort.choosePivot (ltc cf) d a b = (let r : Nat × Nat := if l >= 50 then Sort.median (ltc cf) d (Sort.medianAdjacent (ltc cf) d i 0).1 (Sort.medianAdjacent (ltc cf) d j (Sort.medianAdjacent (ltc cf) d i 0).2).1 (Sort.medianAdjacent (ltc cf) d k (Sort.medianAdjacent (ltc cf) d j (Sort.medianAdjacent (ltc cf) d i 0).2).2).1 (Sort.medianAdjacent (ltc cf) d k (Sort.medianAdjacent (ltc cf) d j (Sort.medianAdjacent (ltc cf) d i 0).2).2).2 else Sort.median (ltc cf) d i j k 0; (r.1, if r.2 = 0 then .increasing else if r.2 = 12 then .decreasing else .unknown))) := by
  show _ = _
  unfold Sort.choosePivot
  simp only
  rw [<- hl, <- hq, <- hi, <- hj, <- hk, if_pos (by omega : l >= 8)]
 rw [HCP.out]
 have hanM : ∀ (d : Array Nat) (a b e s : Nat), a < n -> b < n -> e < n -> (Sort.median (ltc cf) d a b e s).1 < n := by
  intro d a b e s ha hb he
  rcases Sort.median_mem (ltc cf) d a b e s with h | h | h <;> rw [h] <;> assumption
 have hanA : ∀ (d : Array Nat) (a s : Nat), 1 <= a -> a + 1 < n -> (Sort.medianAdjacent (ltc cf) d a s).1 < n := by
  intro d a s h1 h2
  rcases Sort.medianAdjacent_mem (ltc cf) d a s with h | h | h <;> rw [h] <;> omega
 obtain ⟨hi1, hin⟩ := hib
 obtain ⟨hj1, hjn⟩ := hjb
 obtain ⟨hk1, hkn⟩ := hkb
 by_cases h50 : 50 <= l
 · rw [if_pos h50]
   have h50' : (50 : Int) <= (l : Int) := by omega
   obtain ⟨⟨ri, si⟩, e1⟩ : ∃ r, r = Sort.medianAdjacent (ltc cf) d i 0 := ⟨_, rfl⟩
   have b1 := hanA d i 0 hi1 hin
   have t1 := Sort.medianAdjacent_count (ltc cf) d i 0
   rw [<- e1] at b1 t1 ⊢
   obtain ⟨⟨rj, sj⟩, e2⟩ : ∃ r, r = Sort.medianAdjacent (ltc cf) d j si := ⟨_, rfl⟩
   have b2 := hanA d j si hj1 hjn
   have t2 := Sort.medianAdjacent_count (ltc cf) d j si
   simp only at b1 t1 ⊢
   rw [<- e2] at b2 t2 ⊢
   obtain ⟨⟨rk, sk⟩, e3⟩ : ∃ r, r = Sort.medianAdjacent (ltc cf) d k sj := ⟨_, rfl⟩
   have b3 := hanA d k sj hk1 hkn
   have t3 := Sort.medianAdjacent_count (ltc cf) d k sj
   simp only at b2 t2 ⊢
   rw [<- e3] at b3 t3 ⊢
   obtain ⟨⟨rm, sm⟩, e4⟩ : ∃ r, r = Sort.median (ltc cf) d ri rj rk sk := ⟨_, rfl⟩
   have t4 := Sort.median_count (ltc cf) d ri rj rk sk
   simp only at b3 t3 ⊢
   rw [<- e4] at t4 ⊢
   simp only at t4 ⊢
   have E1 := Lib.hid e1
   have E2 := Lib.hid e2
   have E3 := Lib.hid e3
   have E4 := Lib.hid e4
   have hsi : si <= 900 := by omega
   have hsj : sj <= 900 := by omega
   have hsk : sk <= 900 := by omega
   have hsm : sm <= 12 := by omega
   clear e1 e2 e3 e4 t1 t2 t3 t4 HCP S K hq hl hi hj hk hanM hanA
   go_enter Tryz.func107, Tryz.ntmps107
   go_wp2_with (fail)
   have C1 := Lib.hid (KA.out _ _ _ h0.out i hi1 hin (by omega))
   rw [<- E1.out] at C1
   refine C1.out.mono ?_
   clear C1
   rintro e1 w1 ⟨rfl, h⟩
   have C2 := Lib.hid (KA.out _ _ _ h j hj1 hjn hsi)
   rw [<- E2.out] at C2
   clear h h0
   go_wp2_with (fail)
   refine C2.out.mono ?_
   clear C2
   rintro e2 w2 ⟨rfl, h⟩
   have C3 := Lib.hid (KA.out _ _ _ h k hk1 hkn hsj)
   rw [<- E3.out] at C3
   clear h
   go_wp2_with (fail)
   refine C3.out.mono ?_
   clear C3
   rintro e3 w3 ⟨rfl, h⟩
   have C4 := Lib.hid (KM.out _ _ _ h ri rj rk b1 b2 b3 hsk)
   rw [<- E4.out] at C4
   clear h
   go_wp2_with (fail)
   refine C4.out.mono ?_
   clear C4
   rintro e4 w4 ⟨rfl, h⟩
   have cc := h.cnt.1
   have H9 := Lib.hid h.dropC
   clear h
   by_cases z0 : sm = 0
   · subst z0
     go_wp2
     go_ret2
     exact ⟨rfl, H9.out⟩
   · have d0 : ((sm : Int) == 0) = false := by simp; omega
     have Z0 := Lib.hid z0
     by_cases z1 : sm = 12
     · subst z1
       clear z0
       go_wp2
       go_ret2
       exact ⟨rfl, H9.out⟩
     · have d1 : ((sm : Int) == 12) = false := by simp; omega
       have Z1 := Lib.hid z1
       clear z0 z1
       go_wp2
       go_ret2
       exact ⟨rfl, H9.out⟩
 · rw [if_neg h50]
   have h50' : ¬ (50 : Int) <= (l : Int) := by omega
   obtain ⟨⟨rm, sm⟩, e4⟩ : ∃ r, r = Sort.median (ltc cf) d i j k 0 := ⟨_, rfl⟩
   have t4 := Sort.median_count (ltc cf) d i j k 0
   rw [<- e4] at t4 ⊢
   simp only at t4 ⊢
   have E4 := Lib.hid e4
   have hsm : sm <= 12 := by omega
   clear e4 t4 HCP S K hq hl hi hj hk hanM hanA KA
   go_enter Tryz.func107, Tryz.ntmps107
   go_wp2_with (fail)
   have C4 := Lib.hid (KM.out _ _ _ h0.out i j k (by omega) (by omega) (by omega) (by omega))
   rw [<- E4.out] at C4
   refine C4.out.mono ?_
   clear C4
   rintro e4 w4 ⟨rfl, h⟩
   have cc := h.cnt.1
   have H9 := Lib.hid h.dropC
   clear h h0
   by_cases z0 : sm = 0
   · subst z0
     go_wp2
     go_ret2
     exact ⟨rfl, H9.out⟩
   · have d0 : ((sm : Int) == 0) = false := by simp; omega
     have Z0 := Lib.hid z0
     by_cases z1 : sm = 12
     · subst z1
       clear z0
       go_wp2
       go_ret2
       exact ⟨rfl, H9.out⟩
     · have d1 : ((sm : Int) == 12) = false := by simp; omega
       have Z1 := Lib.hid z1
       clear z0 z1
       go_wp2
       go_ret2
       exact ⟨rfl, H9.out⟩
end
end Srt
end Go.Proofs.YtahjjcmeocibbaaGreatDoor
end
section
namespace Go.Proofs.YtahjjcmeocibbaaGreatDoor
open Go.RowKit Go.Own
namespace Srt
theorem geq_q {o : Oper} {X Y : Operand} (ho : o.op = .binOp .geq 45 X Y 45) {a b : Int} {t : Bool} (ht : decide (b <= a) = t) (ρ : Operand -> Value) (w : World) (h0 : ρ X = .int .u64 a) (h1 : ρ Y = .int .u64 b) : (execOp ρ o).run Tryz.prog w = .ok (.value (.bool t)) w := by
 subst ht
 simp [execOp, ho, h0, h1, go_sem]
set_option maxRecDepth 100000 in
set_option maxHeartbeats 4000000 in
theorem len64_any (n : Nat) (hn : n <= 100000) (w : World) : Calls Tryz.prog 113 #[.int .u64 (n : Int)] w fun e w' => e = .returned (.int .i64 (Lib.bitLen n : Nat)) /\ w' = w := by
 have G1 : Hid (decide ((4294967296 : Int) <= (n : Int)) = false) := decide_eq_false (by omega)
 by_cases h1 : n < 256
 · have G2 : Hid (decide ((65536 : Int) <= (n : Int)) = false) := decide_eq_false (by omega)
   have G3 : Hid (decide ((256 : Int) <= (n : Int)) = false) := decide_eq_false (by omega)
   have H1 := Lib.hid h1
   clear h1 hn
   go_enter Tryz.func113, Tryz.ntmps113
   go_wp2_with (first
    | (refine Byt.wpList_val rfl (geq_q (X := .tmp 3) rfl G1.out _ _ rfl rfl) ?_)
    | (refine Byt.wpList_val rfl (geq_q (X := .tmp 7) rfl G2.out _ _ rfl rfl) ?_)
    | (refine Byt.wpList_val rfl (geq_q (X := .tmp 13) rfl G3.out _ _ rfl rfl) ?_))
   go_ret
   refine ⟨congrArg Ending.returned (congrArg (Value.int IntKind.i64) ?_), rfl⟩
   have h1 := H1.out
   rw [Lib.len8_of ((n : Int) % 256) (by omega) (by omega)]
   have l := Lib.bitLen_le8' ((n : Int) % 256) (by omega) (by omega)
   have e : ((n : Int) % 256).toNat = n := by omega
   rw [e] at l ⊢
   obtain ⟨z, hz⟩ : ∃ z, z = Lib.bitLen n := ⟨_, rfl⟩
   rw [<- hz] at l ⊢
   clear hz e
   first | omega | go_num | (unfold wrap64; omega)
 · by_cases h2 : n < 65536
   · have G2 : Hid (decide ((65536 : Int) <= (n : Int)) = false) := decide_eq_false (by omega)
     have G3 : Hid (decide ((256 : Int) <= (n : Int)) = true) := decide_eq_true (by omega)
     have H1 := Lib.hid h1
     have H2 := Lib.hid h2
     clear h1 hn h2
     go_enter Tryz.func113, Tryz.ntmps113
     go_wp2_with (first
      | (refine Byt.wpList_val rfl (geq_q (X := .tmp 3) rfl G1.out _ _ rfl rfl) ?_)
      | (refine Byt.wpList_val rfl (geq_q (X := .tmp 7) rfl G2.out _ _ rfl rfl) ?_)
      | (refine Byt.wpList_val rfl (geq_q (X := .tmp 13) rfl G3.out _ _ rfl rfl) ?_))
     go_ret
     refine ⟨congrArg Ending.returned (congrArg (Value.int IntKind.i64) ?_), rfl⟩
     have h1 := H1.out
     have h2 := H2.out
     rw [Lib.len8_of ((n : Int) / 256 % 256) (by omega) (by omega)]
     have l := Lib.bitLen_le8' ((n : Int) / 256 % 256) (by omega) (by omega)
     have s := Lib.bitLen_shift8 n (by omega) (by omega)
     have e : ((n : Int) / 256 % 256).toNat = n / 256 := by omega
     rw [e] at l ⊢
     rw [s]
     obtain ⟨z, hz⟩ : ∃ z, z = Lib.bitLen (n / 256) := ⟨_, rfl⟩
     rw [<- hz] at l ⊢
     clear hz e s
     first | omega | go_num | (unfold wrap64; omega)
   · have g2 : (65536 : Int) <= (n : Int) := by omega
     have g1 : ¬ (4294967296 : Int) <= (n : Int) := by omega
     have g4 : (n : Int) / 65536 = 1 := by omega
     have H2 := Lib.hid h2
     have HN := Lib.hid hn
     go_enter Tryz.func113, Tryz.ntmps113
     go_wp2
     go_ret
     refine ⟨congrArg Ending.returned (congrArg (Value.int IntKind.i64) ?_), rfl⟩
     have s := Lib.bitLen_shift16 n (by omega) (by omega)
     have e : n / 65536 = 1 := by have := HN.out; omega
     rw [e] at s
     rw [s, Lib.len8_of 1 (by omega) (by omega)]
     have l : Lib.bitLen 1 <= 8 := Lib.bitLen_le8' 1 (by omega) (by omega)
     have e2 : Int.toNat 1 = 1 := rfl
     rw [e2]
     obtain ⟨z, hz⟩ : ∃ z, z = Lib.bitLen 1 := ⟨_, rfl⟩
     rw [<- hz] at l ⊢
     clear hz s e e2
     first | omega | go_num | (unfold wrap64; omega)
theorem len_any (n : Nat) (hn : n <= 100000) (w : World) : Calls Tryz.prog 77 #[.int .u64 (n : Int)] w fun e w' => e = .returned (iV (Lib.bitLen n)) /\ w' = w := by
 have CC := Lib.hid (len64_any n hn w)
 obtain ⟨z, hz⟩ : ∃ z, z = Lib.bitLen n := ⟨_, rfl⟩
 rw [<- hz] at CC ⊢
 clear hz
 go_enter Tryz.func77, Tryz.ntmps77
 go_wp2_with (fail)
 refine CC.out.mono ?_
 rintro e w' ⟨rfl, rfl⟩
 go_wp2
 go_ret
 exact ⟨rfl, rfl⟩
end Srt
end Go.Proofs.YtahjjcmeocibbaaGreatDoor
end
section
namespace Go.Proofs.YtahjjcmeocibbaaGreatDoor
open Go.RowKit Go.Own
namespace Srt
section
variable {f : FuncId} {bs cb : Array Value} {cf : Nat -> Nat -> Int} {Ok : Nat -> Prop} {B : Nat} {w0 w : World} {Ts Rs : List Asn} {g n c : Nat} {d : Array Nat}
end
set_option maxHeartbeats 1600000 in
theorem insertion_none (ao : Option Addr) (cap : Nat) (fv : Value) (w : World) : Calls Tryz.prog 104 #[.slice ao 0 cap, .int .i64 0, .int .i64 0, fv] w fun e w' => e = .returned (.tuple #[]) /\ w' = w := by
 go_enter Tryz.func104, Tryz.ntmps104
 go_wp2
 go_loopw [8] (fun v8 wr => v8 = .int .i64 1 /\ wr = w) (fun _ _ => 0)
 case atStart => exact ⟨rfl, rfl⟩
 case round =>
  obtain ⟨rfl, rfl⟩ := hrel
  go_wp2
  go_end0
  exact ⟨rfl, rfl⟩
set_option maxHeartbeats 1600000 in
theorem pdq_none (ao : Option Addr) (cap : Nat) (l : Nat) (fv : Value) (w : World) : Calls Tryz.prog 76 #[.slice ao 0 cap, .int .i64 0, .int .i64 0, .int .i64 (l : Int), fv] w fun e w' => e = .returned (.tuple #[]) /\ w' = w := by
 have CC := Lib.hid (insertion_none ao cap fv)
 go_enter Tryz.func76, Tryz.ntmps76
 go_wp2
 go_loopw [1, 2] (fun v1 v2 wr => v1 = .int .i64 0 /\ v2 = .int .i64 0 /\ wr = w) (fun _ _ _ => 0)
 case atStart => exact ⟨rfl, rfl, rfl⟩
 case round =>
  obtain ⟨rfl, rfl, rfl⟩ := hrel
  go_wp2_with (fail)
  refine (CC.out _).mono ?_
  rintro e w1 ⟨rfl, rfl⟩
  go_wp2
  refine bodyPost_ret (results_none rfl _ _ _) rfl ?_
  exact ⟨rfl, rfl⟩
set_option maxHeartbeats 1600000 in
theorem sort_none (ao : Option Addr) (cap : Nat) (fv : Value) (w : World) : Calls Tryz.prog 39 #[.slice ao 0 cap, fv] w fun e w' => e = .returned (.tuple #[]) /\ w' = w := by
 have LC := Lib.hid (len_any 0 (by omega))
 have PC := Lib.hid (pdq_none ao cap (Lib.bitLen 0) fv)
 go_enter Tryz.func39, Tryz.ntmps39
 go_wp2_with (fail)
 refine (LC.out _).mono ?_
 rintro e w1 ⟨rfl, rfl⟩
 go_wp2_with (fail)
 refine (PC.out _).mono ?_
 rintro e w2 ⟨rfl, rfl⟩
 go_wp2
 go_end0
 exact ⟨rfl, rfl⟩
end Srt
end Go.Proofs.YtahjjcmeocibbaaGreatDoor
end
section
namespace Go.Proofs.YtahjjcmeocibbaaGreatDoor
open Go.RowKit Go.Own
namespace Tba
open Go.TabM Tab
def leS (rows : List Sg) (i j : Nat) : Prop := (at_ rows i).seq < (at_ rows j).seq \/ ((at_ rows i).seq = (at_ rows j).seq /\ i <= j)
theorem seqLt (rows : List Sg) (i j : Nat) : Srt.ltc (seqCmp rows) i j = decide ((at_ rows i).seq < (at_ rows j).seq \/ ((at_ rows i).seq = (at_ rows j).seq /\ i < j)) := by
 unfold Srt.ltc seqCmp orI cmpN
 by_cases h1 : (at_ rows i).seq < (at_ rows j).seq
 · simp [h1]
 · by_cases h2 : (at_ rows j).seq < (at_ rows i).seq
   · have h3 : ¬ (at_ rows i).seq = (at_ rows j).seq := by omega
     simp [h1, h2, h3]
   · have h3 : (at_ rows i).seq = (at_ rows j).seq := by omega
     by_cases h4 : i < j
     · simp [h3, h4]
     · by_cases h5 : j < i <;> simp [h3, h4, h5]
theorem ins_cons (rows : List Sg) (j : Nat) (l : List Nat) (i : Nat) : ins rows (j :: l) i = if (at_ rows j).seq <= (at_ rows i).seq then j :: ins rows l i else i :: j :: l := by
 unfold ins
 rw [aheadN]
 by_cases h : (at_ rows j).seq <= (at_ rows i).seq
 · rw [if_pos h, if_pos h, List.take_succ_cons, List.drop_succ_cons, List.cons_append]
 · rw [if_neg h, if_neg h]; rfl
theorem ins_perm (rows : List Sg) : ∀ (l : List Nat) (i : Nat), (ins rows l i).Perm (i :: l)
 | [], i => List.Perm.refl _
 | j :: l, i => by
  rw [ins_cons]
  split
  · exact ((ins_perm rows l i).cons j).trans (List.Perm.swap i j l)
  · exact List.Perm.refl _
theorem ins_sorted (rows : List Sg) : ∀ (l : List Nat) (i : Nat), l.Pairwise (leS rows) -> (∀ j ∈ l, j < i) -> (ins rows l i).Pairwise (leS rows)
 | [], i, _, _ => by
  show [i].Pairwise _
  exact List.pairwise_singleton _ _
 | j :: l, i, h, hlt => by
  rw [List.pairwise_cons] at h
  have hji := hlt j List.mem_cons_self
  rw [ins_cons]
  by_cases hs : (at_ rows j).seq <= (at_ rows i).seq
  · rw [if_pos hs, List.pairwise_cons]
    refine ⟨fun y hy => ?_, ins_sorted rows l i h.2 (fun k hk => hlt k (List.mem_cons_of_mem _ hk))⟩
    rcases ins_mem hy with rfl | hy
    · unfold leS; omega
    · exact h.1 y hy
  · rw [if_neg hs, List.pairwise_cons, List.pairwise_cons]
    refine ⟨fun y hy => ?_, h.1, h.2⟩
    rcases List.mem_cons.1 hy with rfl | hy
    · unfold leS; omega
    · have := h.1 y hy
      unfold leS at this ⊢
      omega
theorem sealedF_perm (rows : List Sg) : ∀ (l : List Sg) (acc : List Nat) (i : Nat), (sealedF rows acc i l).Perm (acc ++ allF 2 i l)
 | [], acc, i => by simp [sealedF, allF]
 | s :: l, acc, i => by
  unfold sealedF allF
  by_cases h : s.kind = 2
  · rw [if_pos h, if_pos h]
    exact (sealedF_perm rows l _ (i + 1)).trans (((ins_perm rows acc i).append_right _).trans (List.perm_middle.symm))
  · rw [if_neg h, if_neg h]
    exact sealedF_perm rows l acc (i + 1)
theorem sealedF_sorted (rows : List Sg) : ∀ (l : List Sg) (acc : List Nat) (i : Nat), acc.Pairwise (leS rows) -> (∀ j ∈ acc, j < i) -> (sealedF rows acc i l).Pairwise (leS rows)
 | [], acc, i, h, _ => h
 | s :: l, acc, i, h, hlt => by
  unfold sealedF
  by_cases hs : s.kind = 2
  · rw [if_pos hs]
    refine sealedF_sorted rows l _ (i + 1) (ins_sorted rows acc i h hlt) (fun j hj => ?_)
    rcases ins_mem hj with rfl | hj
    · exact Nat.lt_succ_self _
    · exact Nat.lt_succ_of_lt (hlt j hj)
  · rw [if_neg hs]
    exact sealedF_sorted rows l acc (i + 1) h (fun j hj => Nat.lt_succ_of_lt (hlt j hj))
theorem sealed_perm (t : T) : (sealedL t).Perm (allL 2 t) := sealedF_perm t.rows t.rows [] 0
theorem sealed_sorted (t : T) : (sealedL t).Pairwise (leS t.rows) := sealedF_sorted t.rows t.rows [] 0 List.Pairwise.nil (fun _ h => by cases h)
theorem enters38 (args : Array Value) (w : World) : (callFunc 40 args).run Tryz.prog w = .ok (.enter 40 args) w := by simp [go_sem]
section
variable {B : Nat} {w0 w : World} {Ps : List Asn} {p : Nat} {v : Value} {t : T} {N : Nat}
theorem cmpK (H : Own.St B w0 w (AT p v t :: Ps)) : Srt.Cmp 40 #[ptr p] #[] (seqCmp t.rows) (fun i => i < t.rows.length) w.heap.size w [] where
 ent := enters38
 ask := fun hs x y hx hy => bySeq_any (H.later hs.below) x y hx hy
 low := fun x y => by unfold seqCmp orI cmpN; split <;> (try split) <;> (try split) <;> (try split) <;> omega
end
end Tba
end Go.Proofs.YtahjjcmeocibbaaGreatDoor
end
section
namespace Go.Proofs.YtahjjcmeocibbaaGreatDoor
open Go.RowKit Go.Own
namespace Srt
section
variable {f : FuncId} {bs cb : Array Value} {cf : Nat -> Nat -> Int} {Ok : Nat -> Prop} {B : Nat} {w0 w : World} {Ts Rs : List Asn} {g n c : Nat} {d : Array Nat}
set_option maxHeartbeats 4000000 in
theorem insertion_up (K : Cmp f bs cb cf Ok B w0 Ts) (S : Sd Ok B w0 Ts g n c Rs w d) (hn : n <= 100000) (hu : Sort.SortedIn (ltc cf) 0 n d) :
 Calls Tryz.prog 104 #[.slice (some ⟨g, 0, none⟩) n c, .int .i64 0, .int .i64 (n : Int), fvOf f bs cb] w fun e w' => e = .returned (.tuple #[]) /\ Sd Ok B w0 Ts g n c Rs w' d := by
 have HS := Lib.hid S
 have ENT := Lib.hid K.ent
 have UP := Lib.hid hu
 clear S hu
 go_enter Tryz.func104, Tryz.ntmps104
 go_wp2
 go_loopw [8] (fun v8 wr => ∃ (i : Nat), v8 = .int .i64 (i : Int) /\ 1 <= i /\ i <= n + 1 /\ Sd Ok B w0 Ts g n c Rs wr d) (fun v8 _ => n + 1 - (intOf v8).toNat)
 case atStart => exact ⟨1, by go_num, Nat.le_refl _, by omega, HS.out⟩
 case round =>
  obtain ⟨i, rfl, hai, hib, hs⟩ := hrel
  have HK := Lib.hid hs
  clear hs HS
  by_cases hi : (i : Int) < (n : Int)
  · have hin : i < n := by omega
    go_wp2
    go_loopw [9] (fun v9 ws => v9 = .int .i64 (i : Int) /\ Sd Ok B w0 Ts g n c Rs ws d) (fun v9 _ => 0)
    case atStart => exact ⟨rfl, HK.out⟩
    case round =>
     obtain ⟨rfl, hs⟩ := hrel
     have HK := Lib.hid hs
     clear hs
     have hgt : decide ((0 : Int) < (i : Int)) = true := decide_eq_true (by omega)
     obtain ⟨k, hik⟩ : ∃ k, i = k + 1 := ⟨i - 1, by omega⟩
     have hkn : k < n := by omega
     obtain ⟨x, hx⟩ : ∃ x, x = d[i]! := ⟨_, rfl⟩
     obtain ⟨y, hy⟩ : ∃ y, y = d[k]! := ⟨_, rfl⟩
     obtain ⟨z, hz⟩ : ∃ z, z = cf x y := ⟨_, rfl⟩
     have hlf : ltc cf x y = false := by rw [hx, hy]; exact UP.out k i (Nat.zero_le _) (by omega) hin
     have HT := Lib.hid (ltc_t hlf hz)
     have ASK := Lib.hid (ask_at K HK.out hin hkn)
     have CX := Lib.hid (cell_at HK.out hin)
     have CY := Lib.hid (cell_at HK.out hkn)
     rw [<- hx, <- hy, <- hz] at ASK
     rw [<- hx] at CX
     rw [<- hy] at CY
     clear hlf hz hx hy
     go_wp2_with (fail)
     refine lxX ?_; refine lxM (.int .i64 (i : Int)) rfl ?_; refine lxM (.int .i64 0) rfl ?_; refine lxT (.tmp 18) (.tmp 19) (.int .i64 (i : Int)) (.int .i64 0) (.bool true) (fun wx ρ hwx h0 h1 hc => gtr_i rfl hgt ρ wx h0 h1) ?_; refine lxM (.bool true) rfl ?_; refine lxM (fvOf f bs cb) rfl ?_; refine lxM (.slice (some ⟨g, 0, none⟩) n c) rfl ?_; refine lxM (.int .i64 (i : Int)) rfl ?_; refine lxT (.tmp 23) (.tmp 24) (.slice (some ⟨g, 0, none⟩) n c) (.int .i64 (i : Int)) (.pointer (some ⟨g, i, none⟩)) (fun wx ρ hwx h0 h1 hc => idx_i rfl hin ρ wx h0 h1) ?_; refine lxR (.tmp 25) (.pointer (some ⟨g, i, none⟩)) (iV x) (fun wx ρ hwx h0 hc => load_i rfl ρ (CX.out wx hwx) h0) ?_; refine lxM (.slice (some ⟨g, 0, none⟩) n c) rfl ?_; refine lxM (.int .i64 (i : Int)) rfl ?_; refine lxR (.tmp 28) (.int .i64 (i : Int)) (.int .i64 (k : Int)) (fun wx ρ hwx h0 hc => bin_sub rfl _ 1 hik (by omega) ρ wx h0 (hc _)) ?_; refine lxT (.tmp 27) (.tmp 29) (.slice (some ⟨g, 0, none⟩) n c) (.int .i64 (k : Int)) (.pointer (some ⟨g, k, none⟩)) (fun wx ρ hwx h0 h1 hc => idx_i rfl hkn ρ wx h0 h1) ?_; refine lxR (.tmp 30) (.pointer (some ⟨g, k, none⟩)) (iV y) (fun wx ρ hwx h0 hc => load_i rfl ρ (CY.out wx hwx) h0) ?_
     refine wpL_val (.int .i64 z) [iV x, iV y] (by kernel_rfl) (by kernel_rfl) rfl (by kernel_rfl) (by kernel_rfl) (by kernel_rfl) (by kernel_rfl) ENT.out (fun wx hwx => ASK.out wx hwx) ?_
     refine lxR (.tmp 32) (.int .i64 z) (.bool false) (fun wx ρ hwx h0 hc => lss_i rfl HT.out ρ wx h0 (hc _)) ?_; refine lxB (.tmp 21) (.tmp 33) (.bool true) (.bool false) (.bool false) ?_
     refine wpL_end (by kernel_rfl) (fun w1 hw1 => ?_)
     simp only [FinL, setL, List.set_cons_zero, List.set_cons_succ]
     have H1 := Lib.hid (HK.out.later hw1)
     clear hik ASK CX CY
     go_wp2
     go_roundw
     case rel => exact ⟨i + 1, by go_num, by omega, by omega, H1.out⟩
     case measure => simp [intOf]; omega
  · go_wp2
    go_end0
    exact ⟨rfl, HK.out⟩
theorem order2_up {lt : Nat -> Nat -> Bool} {n a b s : Nat} (hu : Sort.SortedIn lt 0 n d) (hab : a < b) (hb : b < n) : Sort.order2 lt d a b s = (a, b, s) := order2_f (by rw [hu a b (Nat.zero_le _) hab hb]; simp)
theorem median_up {lt : Nat -> Nat -> Bool} {n a b e s : Nat} (hu : Sort.SortedIn lt 0 n d) (hab : a < b) (hbe : b < e) (he : e < n) : Sort.median lt d a b e s = (b, s) := by
 unfold Sort.median
 simp only [order2_up hu hab (show b < n by omega), order2_up hu hbe he]
theorem choose_up {lt : Nat -> Nat -> Bool} {n : Nat} (hu : Sort.SortedIn lt 0 n d) (hn : 12 < n) : (Sort.choosePivot lt d 0 n).2 = .increasing := by
 have h1 : 3 <= n / 4 := by omega
 have h2 : n / 4 * 4 <= n := by omega
 unfold Sort.choosePivot
 simp only [Nat.sub_zero, Nat.zero_add]
 rw [if_pos (by omega : n >= 8)]
 have m1 : Sort.median lt d (n / 4 * 1 - 1) (n / 4 * 1) (n / 4 * 1 + 1) 0 = (n / 4 * 1, 0) := median_up hu (by omega) (by omega) (by omega)
 have m2 : Sort.median lt d (n / 4 * 2 - 1) (n / 4 * 2) (n / 4 * 2 + 1) 0 = (n / 4 * 2, 0) := median_up hu (by omega) (by omega) (by omega)
 have m3 : Sort.median lt d (n / 4 * 3 - 1) (n / 4 * 3) (n / 4 * 3 + 1) 0 = (n / 4 * 3, 0) := median_up hu (by omega) (by omega) (by omega)
 have m4 : Sort.median lt d (n / 4 * 1) (n / 4 * 2) (n / 4 * 3) 0 = (n / 4 * 2, 0) := median_up hu (by omega) (by omega) (by omega)
 simp only [Sort.medianAdjacent, m1, m2, m3, m4, ite_self, if_true]
set_option maxRecDepth 6000 in
set_option maxHeartbeats 8000000 in
theorem partial_up (K : Cmp f bs cb cf Ok B w0 Ts) (S : Sd Ok B w0 Ts g n c Rs w d) (h12 : 12 < n) (hn : n <= 100000) (hu : Sort.SortedIn (ltc cf) 0 n d) :
 Calls Tryz.prog 109 #[.slice (some ⟨g, 0, none⟩) n c, .int .i64 0, .int .i64 (n : Int), fvOf f bs cb] w fun e w' => e = .returned (.bool true) /\ Sd Ok B w0 Ts g n c Rs w' d := by
 have HS := Lib.hid S
 have ENT := Lib.hid K.ent
 have UP := Lib.hid hu
 clear S hu
 go_enter Tryz.func109, Tryz.ntmps109
 go_wp2
 go_loopw [9, 10] (fun v9 v10 wr => v10 = .int .i64 0 /\ v9 = .int .i64 1 /\ Sd Ok B w0 Ts g n c Rs wr d) (fun _ _ _ => 0)
 case atStart => exact ⟨rfl, rfl, HS.out⟩
 case round =>
  obtain ⟨rfl, rfl, hs⟩ := hrel
  have HK := Lib.hid hs
  clear hs HS
  go_wp2
  go_loopw [9] (fun v9 ws => ∃ (i : Nat), v9 = .int .i64 (i : Int) /\ 1 <= i /\ i <= n /\ Sd Ok B w0 Ts g n c Rs ws d) (fun v9 _ => n + 1 - (intOf v9).toNat)
  case atStart => exact ⟨1, rfl, Nat.le_refl _, by omega, HK.out⟩
  case round =>
   obtain ⟨i, rfl, hai, hib, hs⟩ := hrel
   have HK := Lib.hid hs
   clear hs
   by_cases hi : i < n
   · have hin : i < n := hi
     have hgd : decide ((i : Int) < (n : Int)) = true := decide_eq_true (by omega)
     obtain ⟨k, hik⟩ : ∃ k, i = k + 1 := ⟨i - 1, by omega⟩
     have hkn : k < n := by omega
     obtain ⟨x, hx⟩ : ∃ x, x = d[i]! := ⟨_, rfl⟩
     obtain ⟨y, hy⟩ : ∃ y, y = d[k]! := ⟨_, rfl⟩
     obtain ⟨z, hz⟩ : ∃ z, z = cf x y := ⟨_, rfl⟩
     have hlf : ltc cf x y = false := by rw [hx, hy]; exact UP.out k i (Nat.zero_le _) (by omega) hin
     have HT := Lib.hid (ltc_t hlf hz)
     have ASK := Lib.hid (ask_at K HK.out hin hkn)
     have CX := Lib.hid (cell_at HK.out hin)
     have CY := Lib.hid (cell_at HK.out hkn)
     rw [<- hx, <- hy, <- hz] at ASK
     rw [<- hx] at CX
     rw [<- hy] at CY
     clear hlf hz hx hy
     go_wp2_with (fail)
     refine lxX ?_; refine lxM (.int .i64 (i : Int)) rfl ?_; refine lxM (.int .i64 (n : Int)) rfl ?_; refine lxT (.tmp 19) (.tmp 20) (.int .i64 (i : Int)) (.int .i64 (n : Int)) (.bool true) (fun wx ρ hwx h0 h1 hc => lss_i rfl hgd ρ wx h0 h1) ?_; refine lxM (.bool true) rfl ?_; refine lxM (fvOf f bs cb) rfl ?_; refine lxM (.slice (some ⟨g, 0, none⟩) n c) rfl ?_; refine lxM (.int .i64 (i : Int)) rfl ?_; refine lxT (.tmp 24) (.tmp 25) (.slice (some ⟨g, 0, none⟩) n c) (.int .i64 (i : Int)) (.pointer (some ⟨g, i, none⟩)) (fun wx ρ hwx h0 h1 hc => idx_i rfl hin ρ wx h0 h1) ?_; refine lxR (.tmp 26) (.pointer (some ⟨g, i, none⟩)) (iV x) (fun wx ρ hwx h0 hc => load_i rfl ρ (CX.out wx hwx) h0) ?_; refine lxM (.slice (some ⟨g, 0, none⟩) n c) rfl ?_; refine lxM (.int .i64 (i : Int)) rfl ?_; refine lxR (.tmp 29) (.int .i64 (i : Int)) (.int .i64 (k : Int)) (fun wx ρ hwx h0 hc => bin_sub rfl _ 1 hik (by omega) ρ wx h0 (hc _)) ?_; refine lxT (.tmp 28) (.tmp 30) (.slice (some ⟨g, 0, none⟩) n c) (.int .i64 (k : Int)) (.pointer (some ⟨g, k, none⟩)) (fun wx ρ hwx h0 h1 hc => idx_i rfl hkn ρ wx h0 h1) ?_; refine lxR (.tmp 31) (.pointer (some ⟨g, k, none⟩)) (iV y) (fun wx ρ hwx h0 hc => load_i rfl ρ (CY.out wx hwx) h0) ?_
     refine wpL_val (.int .i64 z) [iV x, iV y] (by kernel_rfl) (by kernel_rfl) rfl (by kernel_rfl) (by kernel_rfl) (by kernel_rfl) (by kernel_rfl) ENT.out (fun wx hwx => ASK.out wx hwx) ?_
     refine lxR (.tmp 33) (.int .i64 z) (.bool false) (fun wx ρ hwx h0 hc => lss_i rfl HT.out ρ wx h0 (hc _)) ?_; refine lxR (.tmp 34) (.bool false) (.bool true) (fun wx ρ hwx h0 hc => not_b rfl rfl ρ wx h0) ?_; refine lxB (.tmp 22) (.tmp 35) (.bool true) (.bool true) (.bool true) ?_
     refine wpL_end (by kernel_rfl) (fun w1 hw1 => ?_)
     simp only [FinL, setL, List.set_cons_zero, List.set_cons_succ]
     have H1 := Lib.hid (HK.out.later hw1)
     clear hik ASK CX CY
     go_wp2
     go_roundw
     case rel => exact ⟨i + 1, by go_num, by omega, by omega, H1.out⟩
     case measure => simp [intOf]; omega
   · have hgd : decide ((i : Int) < (n : Int)) = false := decide_eq_false (by omega)
     obtain rfl : i = n := by omega
     go_wp2_with (fail)
     refine lxX ?_; refine lxM (.int .i64 (i : Int)) rfl ?_; refine lxM (.int .i64 (i : Int)) rfl ?_; refine lxT (.tmp 19) (.tmp 20) (.int .i64 (i : Int)) (.int .i64 (i : Int)) (.bool false) (fun wx ρ hwx h0 h1 hc => lss_i rfl hgd ρ wx h0 h1) ?_; refine lxM (.bool false) rfl ?_; refine lxS ?_; refine lxS ?_; refine lxS ?_; refine lxS ?_; refine lxS ?_; refine lxS ?_; refine lxS ?_; refine lxS ?_; refine lxS ?_; refine lxS ?_; refine lxS ?_; refine lxS ?_; refine lxS ?_; refine lxR (.tmp 22) (.bool false) (.bool false) (fun wx ρ hwx h0 hc => by simp [go_sem, h0, hc]) ?_
     refine wpL_end (by kernel_rfl) (fun w1 hw1 => ?_)
     simp only [FinL, setL, List.set_cons_zero, List.set_cons_succ]
     have H1 := Lib.hid (HK.out.later hw1)
     clear HK
     go_wp2
     go_ret
     exact ⟨rfl, H1.out⟩
set_option maxRecDepth 6000 in
set_option maxHeartbeats 16000000 in
theorem pdq_up (K : Cmp f bs cb cf Ok B w0 Ts) (S : Sd Ok B w0 Ts g n c Rs w d) (hn : n <= 100000) (hu : Sort.SortedIn (ltc cf) 0 n d) (l : Nat) (hl : 1 <= l) (hl2 : l <= 1000) :
 Calls Tryz.prog 76 #[.slice (some ⟨g, 0, none⟩) n c, .int .i64 0, .int .i64 (n : Int), .int .i64 (l : Int), fvOf f bs cb] w fun e w' => e = .returned (.tuple #[]) /\ Sd Ok B w0 Ts g n c Rs w' d := by
 have HS := Lib.hid S
 have UP := Lib.hid hu
 have KK := Lib.hid K
 clear S hu
 go_enter Tryz.func76, Tryz.ntmps76
 go_wp2
 go_loopw [1, 2, 3, 10, 11] (fun v1 v2 v3 v10 v11 wr => v1 = .int .i64 0 /\ v2 = .int .i64 (n : Int) /\ v3 = .int .i64 (l : Int) /\ v10 = .bool true /\ v11 = .bool true /\ Sd Ok B w0 Ts g n c Rs wr d) (fun _ _ _ _ _ _ => 0)
 case atStart => exact ⟨rfl, rfl, rfl, rfl, rfl, HS.out⟩
 case round =>
  obtain ⟨rfl, rfl, rfl, rfl, rfl, hs⟩ := hrel
  have HK := Lib.hid hs
  clear hs HS
  by_cases h12 : n <= 12
  · have h12I : (n : Int) <= 12 := by omega
    have CC := Lib.hid (insertion_up KK.out HK.out hn UP.out)
    go_wp2_with (fail)
    refine CC.out.mono ?_
    clear CC
    rintro e w1 ⟨rfl, h⟩
    have S1 := Lib.hid h
    clear h
    go_wp2
    refine bodyPost_ret (results_none rfl _ _ _) rfl ?_
    exact ⟨rfl, S1.out⟩
  · have h12I : ¬ (n : Int) <= 12 := by omega
    have hl0I : ((l : Int) == 0) = false := by simp; omega
    have hl0J : ¬ (l : Int) = 0 := by omega
    have CC := Lib.hid (choose_any KK.out HK.out 0 n (by omega) (Nat.le_refl _) hn)
    obtain ⟨pv, hpv⟩ : ∃ x, x = (Sort.choosePivot (ltc cf) d 0 n).1 := ⟨_, rfl⟩
    have hci := choose_up UP.out (show 12 < n by omega)
    rw [hci, <- hpv] at CC
    clear hci hpv
    go_wp2_with (fail)
    refine CC.out.mono ?_
    clear CC
    rintro e w1 ⟨rfl, h⟩
    have PC := Lib.hid (partial_up KK.out h (by omega) hn UP.out)
    clear h
    unfold hintV
    go_wp2_with (fail)
    refine PC.out.mono ?_
    clear PC
    rintro e w2 ⟨rfl, h⟩
    have S2 := Lib.hid h
    clear h
    go_wp2
    refine bodyPost_ret (results_none rfl _ _ _) rfl ?_
    exact ⟨rfl, S2.out⟩
set_option maxHeartbeats 1600000 in
theorem sort_up (K : Cmp f bs cb cf Ok B w0 Ts) (h1 : 1 <= n) (hn : n <= 100000) (S : Sd Ok B w0 Ts g n c Rs w d) (hu : Sort.SortedIn (ltc cf) 0 n d) :
 Calls Tryz.prog 39 #[.slice (some ⟨g, 0, none⟩) n c, fvOf f bs cb] w fun e w' => e = .returned (.tuple #[]) /\ Sd Ok B w0 Ts g n c Rs w' d := by
 have hl : Lib.bitLen n <= 1000 := Nat.le_trans (Lib.bitLen_le n 17 (by omega) (by omega)) (by decide)
 have hl1 : 1 <= Lib.bitLen n := by
  cases hb : Lib.bitLen n with
  | zero => have := Lib.bitLen_half n (by omega) (by omega); omega
  | succ k => omega
 obtain ⟨l, hle⟩ : ∃ l, l = Lib.bitLen n := ⟨_, rfl⟩
 rw [<- hle] at hl hl1
 have LC := Lib.hid (len_any n hn)
 rw [<- hle] at LC
 have PC := Lib.hid (fun (w : World) (S : Sd Ok B w0 Ts g n c Rs w d) => pdq_up K S hn hu l hl1 hl)
 have HS := Lib.hid S
 clear S K hle hu
 go_enter Tryz.func39, Tryz.ntmps39
 go_wp2_with (fail)
 refine (LC.out _).mono ?_
 clear LC
 rintro e w1 ⟨rfl, rfl⟩
 go_wp2_with (fail)
 refine (PC.out _ HS.out).mono ?_
 rintro e w2 ⟨rfl, h⟩
 have H2 := Lib.hid h
 clear h
 go_wp2
 go_end0
 exact ⟨rfl, H2.out⟩
end
end Srt
end Go.Proofs.YtahjjcmeocibbaaGreatDoor
end
section
namespace Go.Proofs.YtahjjcmeocibbaaGreatDoor
open Go.RowKit Go.Own
namespace Tba
open Go.TabM Tab
theorem allF_up (k : Nat) : ∀ (l : List Sg) (i : Nat), (allF k i l).Pairwise (fun a b => a < b) /\ ∀ x ∈ allF k i l, i <= x
 | [], i => ⟨List.Pairwise.nil, fun x h => by (cases h)⟩
 | s :: l, i => by
  obtain ⟨h1, h2⟩ := allF_up k l (i + 1)
  unfold allF
  split
  · refine ⟨List.pairwise_cons.2 ⟨fun x hx => ?_, h1⟩, fun x hx => ?_⟩
    · have := h2 x hx; omega
    · rcases List.mem_cons.1 hx with rfl | hx
      · exact Nat.le_refl _
      · have := h2 x hx; omega
  · exact ⟨h1, fun x hx => by have := h2 x hx; omega⟩
theorem all_range {t : T} {s : Nat} (h : sealedL t = List.range s) : allL 2 t = List.range s := by
 have hp := sealed_perm t
 rw [h] at hp
 exact List.Perm.eq_of_pairwise (fun a b _ _ h1 h2 => by omega) (allF_up 2 t.rows 0).1 List.pairwise_lt_range hp.symm
theorem up_sorted {t : T} {s : Nat} (h : sealedL t = List.range s) : Sort.SortedIn (Srt.ltc (seqCmp t.rows)) 0 s (List.range s).toArray := by
 have hs := sealed_sorted t
 rw [h, List.pairwise_iff_getElem] at hs
 intro i j _ hij hj
 have h1 := hs i j (by simpa using Nat.lt_trans hij hj) (by simpa using hj) hij
 have hi' : i < (List.range s).toArray.size := by simpa using Nat.lt_trans hij hj
 have hj' : j < (List.range s).toArray.size := by simpa using hj
 rw [getElem!_pos _ i hi', getElem!_pos _ j hj']
 simp only [List.getElem_toArray]
 unfold leS at h1
 rw [seqLt, decide_eq_false_iff_not]
 omega
section
variable {B : Nat} {w0 w : World} {Ps : List Asn} {p : Nat} {v : Value} {t : T} {N : Nat}
set_option maxHeartbeats 4000000 in
theorem sealed_up (H : Own.St B w0 w (AT p v t :: Ps)) (ok : Ok t N) {s : Nat} (hs : sealedL t = List.range s) : Calls Tryz.prog 14 #[ptr p] w fun e w' => ∃ ao c, e = .returned (.slice ao s c) /\ Own.St w.heap.size w w' [RowI (.slice ao s c) (List.range s) s] := by
 have CC := Lib.hid (all_any H ok 2 (by decide))
 have HH := Lib.hid H
 have hlen : (allL 2 t).length <= 256 := by unfold allL; rw [allF_len]; exact Nat.le_trans List.countP_le_length ok.len
 have hall := all_range hs
 have HLT : Hid (∀ x ∈ List.range s, x < t.rows.length) := fun x hx => (all_lt (k := 2) (by rw [hall]; exact hx)).1
 rw [hall, List.length_range] at CC hlen
 have HU := Lib.hid (up_sorted hs)
 have SS : Hid (∀ (w1 : World) (ao : Option Addr) (c : Nat), Own.St w.heap.size w w1 [RowI (.slice ao s c) (List.range s) s] ->
  Calls Tryz.prog 39 #[.slice ao s c, .func (.func 40) #[ptr p] #[]] w1 fun e w' => e = .returned (.tuple #[]) /\ Own.St w.heap.size w w' [RowI (.slice ao s c) (List.range s) s]) := by
  intro w1 ao c h1
  by_cases h0 : s = 0
  · subst h0
    exact (Srt.sort_none ao c _ w1).mono fun e w' h => ⟨h.1, by rw [h.2]; exact h1⟩
  · obtain ⟨g, hg, _, _, _⟩ := h1.rowAt 0 rfl 0 (by omega)
    cases hg
    have S0 : Srt.Sd (fun i => i < t.rows.length) w.heap.size w [] g s c [] w1 (List.range s).toArray := by
     refine ⟨h1, by simp, fun i hi => ?_⟩
     have hil : i < (List.range s).toArray.size := by simpa using hi
     rw [getElem!_pos _ i hil]
     exact HLT.out _ (by simp; exact hi)
    refine (Srt.sort_up (cmpK HH.out) (by omega) (by omega) S0 HU.out).mono ?_
    rintro e w' ⟨rfl, hS⟩
    exact ⟨rfl, hS.st⟩
 clear H ok HLT HH HU hall hs
 go_enter Tryz.func14, Tryz.ntmps14
 go_wp2_with (fail)
 refine CC.out.mono ?_
 clear CC
 rintro e w1 ⟨ao, c, rfl, h⟩
 have S1 := Lib.hid (SS.out w1 ao c h)
 clear h SS
 go_wp2_with (fail)
 refine S1.out.mono ?_
 clear S1
 rintro e w2 ⟨rfl, h⟩
 have H2 := Lib.hid h
 clear h
 go_wp2
 go_ret
 exact ⟨ao, c, rfl, H2.out⟩
end
end Tba
end Go.Proofs.YtahjjcmeocibbaaGreatDoor
end
section
namespace Go.Proofs.YtahjjcmeocibbaaGreatDoor
open Go.RowKit Go.Own
namespace Tba
open Go.TabM Tab
section
variable {B : Nat} {w0 w : World} {Ps : List Asn} {p : Nat} {t : T} {N : Nat}
theorem A_of {v : Value} (h : Own.St B w0 w (AT p v t :: Ps)) : Own.St B w0 w (A p t :: Ps) := Own.St.closeE v h
theorem A_to (h : Own.St B w0 w (A p t :: Ps)) : ∃ v, Own.St B w0 w (AT p v t :: Ps) := Own.St.openE h
end
end Tba
namespace Tab
open Go.TabM Tba
noncomputable def kept (W : World) : Kept W where
 A := Tba.A
 new := fun num _ H hn => (new_any H num hn).mono fun e w' h => by
  by_cases hm : mayBe num = true
  · rw [if_pos hm] at h ⊢
    obtain ⟨q, v, h1, h2⟩ := h
    exact ⟨q, h1, A_of h2⟩
  · rw [if_neg hm] at h ⊢
    obtain ⟨h1, rfl⟩ := h
    exact ⟨h1, H⟩
 open_ := fun _ H ok hN => by
  obtain ⟨v, h⟩ := A_to H
  exact (open_any h ok (by omega)).mono fun e w' h => ⟨h.1, A_of h.2⟩
 seal_ := fun _ H ok _ => by
  obtain ⟨v, h⟩ := A_to H
  exact (seal_any h ok).mono fun e w' h => ⟨h.1, A_of h.2⟩
 cur := fun _ H ok _ => by
  obtain ⟨v, h⟩ := A_to H
  exact cur_any h ok
 sealedUp := fun _ H ok _ _ hs => by
  obtain ⟨v, h⟩ := A_to H
  exact (sealed_up h ok hs).mono fun e w' h => by
   obtain ⟨ao, c, h1, h2⟩ := h
   exact ⟨ao, c, h1, H.adoptNew h2⟩
 rows := fun _ H ok _ => by
  obtain ⟨v, h⟩ := A_to H
  exact (rows_any h ok).mono fun e w' h => by
   obtain ⟨ao, c, h1, h2, h3⟩ := h
   exact ⟨ao, c, h1, (A_of h2.swap2).swap2, h3⟩
end Tab
end Go.Proofs.YtahjjcmeocibbaaGreatDoor
end
section
namespace Go.Proofs.YtahjjcmeocibbaaGreatDoor
open Go.RowKit Go.Own
namespace Fla
open Go.FlaM Byt
theorem info_page (l : Bs) (h : l.length = 128) : (Tryz.prog.info? 123).map (·.size) = some (l.map byteV).toArray.size := by
 have e : (l.map byteV).toArray.size = 128 := by simp [h]
 have h0 : (Tryz.prog.info? 123).map (fun i => i.size) = some 128 := by kernel_rfl
 rw [e]
 exact h0
theorem info_pageL (l : Bs) (h : l.length = 128) : (Tryz.prog.info? 123).map (·.size) = some (l.map byteV).length := by
 have h0 : (Tryz.prog.info? 123).map (fun i => i.size) = some 128 := by kernel_rfl
 rw [List.length_map, h]
 exact h0
theorem wpList_allocZ {P : Program} {ops : Array Oper} {rest : List Oper} {o : Oper} {a : Act} {w : World} {Q : Exit -> Act -> World -> Prop} (hgd : o.guard = none) (ty : TypeId) (ho : o.op = .alloc ty) (z : Array Value) (hz : (P.info? ty).bind (·.zero) = some (.agg z))
 (h : wpList P ops Q rest (a.put o.dst (.pointer (some ⟨w.heap.size, 0, none⟩))) (w.alloc (.cells z ty))) : wpList P ops Q (o :: rest) a w := by
 refine wpList_plain hgd fun K hK => ?_
 obtain ⟨i, hi, hi2⟩ := Option.bind_eq_some_iff.1 hz
 unfold Oper.wp
 simp [execOp, ho, Instr.alloc, zeroValue, typeInfo, hi, hi2, Result.andThen]
 exact hK _ _ h
theorem zero_page : (Tryz.prog.info? 123).bind (·.zero) = some (.agg ((List.replicate 128 (0 : UInt8)).map byteV).toArray) := by kernel_rfl
set_option maxRecDepth 10000 in
set_option maxHeartbeats 4000000 in
theorem erased_st {B : Nat} {w0 w : World} {Ps : List Asn} (H : Own.St B w0 w Ps) : Calls Tryz.prog 62 #[] w fun e w' => e = .returned (.agg (FlaM.blank.map byteV).toArray) /\ Own.St B w0 w' Ps := by
 obtain ⟨bl, hbl⟩ : ∃ b, b = FlaM.blank := ⟨_, rfl⟩
 rw [<- hbl]
 have HBL : Hid (bl.length = 128) := by show bl.length = 128; rw [hbl]; exact blank_len
 have HRE : Hid (List.replicate 128 255 = bl) := by show List.replicate 128 255 = bl; rw [hbl]; rfl
 clear hbl
 have hst := A8.box (A8.box H 123 (List.replicate 128 0)) 123 (List.replicate 128 0)
 simp only [size_alloc'] at hst
 obtain ⟨z, hz⟩ : ∃ z, z = ((List.replicate 128 (0 : UInt8)).map byteV).toArray := ⟨_, rfl⟩
 have ZP : Hid ((Tryz.prog.info? 123).bind (·.zero) = some (.agg z)) := by rw [hz]; exact zero_page
 rw [<- hz] at hst
 clear hz
 go_enter Tryz.func62, Tryz.ntmps62
 go_wp2_with (first
  | (refine Fla.wpList_allocZ rfl 123 rfl z ZP.out ?_))
 generalize (w.alloc (.cells z 123)).alloc (.cells z 123) = W1 at hst ⊢
 obtain ⟨br, hbr⟩ : ∃ b, b = w.heap.size := ⟨_, rfl⟩
 obtain ⟨bc, hbc⟩ : ∃ b, b = w.heap.size + 1 := ⟨_, rfl⟩
 rw [<- hbc, <- hbr] at hst
 rw [<- hbc, <- hbr]
 have HST := Lib.hid hst
 clear hst hbr hbc
 go_loopw [3] (fun v wr => ∃ k : Nat, k <= 128 /\ v = .int .i64 (k : Int) /\ Own.St B w0 wr (A8 bc 123 (ones 255 128 k) :: A8 br 123 (List.replicate 128 0) :: Ps)) (fun v _ => 128 - (intOf v).toNat)
 case atStart => exact ⟨0, Nat.zero_le _, rfl, by rw [ones_zero]; exact HST.out⟩
 case round =>
  obtain ⟨k, hk128, rfl, H⟩ := hrel
  have H := Lib.hid H
  clear HST
  by_cases hk : (k : Int) < 128
  · have hkn : k < 128 := by omega
    obtain ⟨cc, cf⟩ := A8.cell H.out 0 rfl k (by unfold ones; simp; omega)
    have PUT : Hid (Own.St B w0 (wr.setCell ⟨bc, k, none⟩ (.int .u8 255)) (A8 bc 123 (ones 255 128 (k + 1)) :: A8 br 123 (List.replicate 128 0) :: Ps)) := by
     have h := A8.store H.out 0 rfl k 255
     simp only [List.set_cons_zero] at h
     rw [ones_set 255 128 k hkn] at h
     exact h
    clear H
    go_wp2
    go_roundw
    case rel => exact ⟨k + 1, by omega, by go_num, PUT.out⟩
    case measure => simp [intOf]; omega
  · have H2 : Hid (Own.St B w0 wr (A8 bc 123 bl :: A8 br 123 (List.replicate 128 0) :: Ps)) := by
     have h := H.out
     rw [show k = 128 by omega, ones_all, HRE.out] at h
     exact h
    have ROW := Lib.hid (A8.row H2.out 0 rfl)
    have THERE := Lib.hid (A8.there H2.out 1 rfl bl (by rw [HBL.out]; rfl))
    have IB := Lib.hid (info_page _ HBL.out)
    have OB := Lib.hid (one8 bl)
    have LAST := Lib.hid (A8.setAll H2.out 1 rfl bl (by rw [HBL.out]; rfl))
    clear H hk128 HRE HBL
    go_wp2_with (first
     | (refine wpList_load_row rfl 123 (.tmp 1) rfl bc rfl 123 _ (0, 0) _ ROW.out Tryz.underlying123 rfl IB.out ?_)
     | (refine wpList_store_mid rfl 123 (.tmp 0) (.tmp 9) rfl br 0 (bl.map byteV).toArray rfl rfl THERE.out IB.out OB.out ?_))
    have END := Lib.hid (A8.row LAST.out 1 rfl)
    refine bodyPost_ret (results_cell_row rfl _ _ br 123 _ (0, 0) _ rfl END.out Tryz.underlying123 rfl IB.out) rfl ?_
    exact ⟨rfl, LAST.out.drop 2⟩
theorem wipe_cells {row : List Bs} (h : Wide row) (k : Nat) (hk : k < row.length) : ((wipeTo row (k + 1)).flatten.map byteV) = ((wipeTo row k).flatten.map byteV).take (k * 128) ++ FlaM.blank.map byteV ++ ((wipeTo row k).flatten.map byteV).drop (k * 128 + 128) := by
 have hl := wipeTo_len row k
 show (((wipeTo row k).set k FlaM.blank).flatten.map byteV) = _
 rw [flat_set k FlaM.blank (wide_wipe h k) (by omega), List.map_append, List.map_append, List.map_take, List.map_drop, show (k + 1) * 128 = k * 128 + 128 by omega]
set_option maxRecDepth 10000 in
set_option maxHeartbeats 4000000 in
theorem wipe_st {B : Nat} {w0 w : World} {Ps : List Asn} {r : Option Addr × Nat} {row : List Bs} (H : Own.St B w0 w (pRow 123 r row :: Ps)) (hw : Wide row) (m : Nat) (hm : m <= row.length) (hb : row.length <= 64) :
 Calls Tryz.prog 23 #[.slice r.1 m r.2] w fun e w' => e = .returned (.tuple #[]) /\ Own.St B w0 w' (pRow 123 r (wipeTo row m) :: Ps) := by
 obtain ⟨ao, cap⟩ := r
 obtain ⟨bl, hbl⟩ : ∃ b, b = FlaM.blank := ⟨_, rfl⟩
 have HBL : Hid (bl.length = 128) := by show bl.length = 128; rw [hbl]; exact blank_len
 have HEQ := Lib.hid hbl
 clear hbl
 have HST := Lib.hid H
 have HW := Lib.hid hw
 have hlen := H.rowLen 0 rfl
 have HL := Lib.hid hlen
 have hm64 : m <= 64 := by omega
 clear H hw hlen
 go_enter Tryz.func23, Tryz.ntmps23
 go_wp2
 go_loopw [5] (fun v wr => ∃ k : Nat, k <= m /\ v = .int .i64 (k : Int) /\ Own.St B w0 wr (pRow 123 (ao, cap) (wipeTo row k) :: Ps)) (fun v _ => m - (intOf v).toNat)
 case atStart => exact ⟨0, Nat.zero_le _, rfl, HST.out⟩
 case round =>
  obtain ⟨k, hkm, rfl, H⟩ := hrel
  have H := Lib.hid H
  clear HST
  by_cases hk : (k : Int) < (m : Int)
  · have hkn : k < m := by omega
    have ce := erased_st H.out
    rw [<- HEQ.out] at ce
    have CE := Lib.hid ce
    clear ce
    go_wp2_with (fail)
    refine CE.out.mono ?_
    clear CE
    rintro e w1 ⟨rfl, h1⟩
    have hl2 := wipeTo_len row k
    obtain ⟨g, rfl, _, _, _⟩ := h1.rowAt 0 rfl (k * 128) (by omega)
    have H1 := Lib.hid h1
    have hlen := (h1.rowLen 0 rfl)
    clear h1
    have THERE : Hid (w1.there g (k * 128) (bl.map byteV).toArray.size) := by
     intro j hj
     have hj2 : j < 128 := by simpa [HBL.out] using hj
     have hjn : k * 128 + j < (wipeTo row k).length * 128 := by omega
     obtain ⟨c1, c2⟩ := H1.out.rowRange 0 rfl (k * 128 + j) hjn
     refine ⟨?_, c2⟩
     rw [c1, List.getElem?_eq_getElem (by omega)]
     rfl
    have PUT : Hid (Own.St B w0 (w1.setCells g (k * 128) (bl.map byteV).toArray.toList) (pRow 123 (some ⟨g, 0, none⟩, cap) (wipeTo row (k + 1)) :: Ps)) := by
     have h := St.rowCells 0 (bl.map byteV) (k * 128) w1 _ _ H1.out rfl (by simp [HBL.out]; omega)
     simp only [List.set_cons_zero, List.length_map, HBL.out] at h
     rw [HEQ.out, <- wipe_cells HW.out k (by omega), <- HEQ.out] at h
     unfold pRow
     rw [wipeTo_len]
     rw [wipeTo_len] at h
     exact h
    have IB := Lib.hid (info_page _ HBL.out)
    have OB := Lib.hid (one8 bl)
    clear H H1 hlen
    go_wp2_with (refine wpList_store_mid rfl 123 (.tmp 11) (.tmp 10) rfl g (k * 128) (bl.map byteV).toArray rfl rfl THERE.out IB.out OB.out ?_)
    go_roundw
    case rel => exact ⟨k + 1, by omega, by go_num, PUT.out⟩
    case measure => simp [intOf]; omega
  · obtain rfl : k = m := by omega
    go_wp2
    go_end0
    exact ⟨rfl, H.out⟩
end Fla
end Go.Proofs.YtahjjcmeocibbaaGreatDoor
end
