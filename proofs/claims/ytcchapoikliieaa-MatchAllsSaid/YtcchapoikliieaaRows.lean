/-
  No cell of these rows narrows 'for every input' (looked for: loops, veiled, ifaces, maps, wideKeys, modest, calm, conditions, laid).
  DERIVED. THE GIVEN ROWS OF THIS SEAT. 7 by the template 'for every input the law returns true; each argument reads behind the call as it read before'; 0 by the template 'total and deterministic' (their statements: YtcchapoikliieaaTotals.lean).
  GIVEN WITH THE SEED: the statements are not yours to turn. If you find one false, say at which input.
  Laid BY PROGRAM, IN A SANDBOX (cutbox-rows.mjs): the forced cells as the released guide's own fill.sh prints them over the translation 4d1c447cd0cd595f… (all of the seat's roots in one cut). By AI agents, Wed Nov 11 2026. No macro, syntax, notation, axiom, sorry.
-/
import Derived.Test.YtcchapoikliieaaChecked
import GoSem.Claim
import GoSem.ClaimJoined
import GoSem.ClaimMapViews
import Derived.JoinedTies
import Derived.KernelRfl
namespace Go.Proofs.Ytcchapoikliieaa
/- THE CELL 'sum', in the pinned program and in every row, IS THE sha256 OF THE DUMP (.gsa) THAT YtcchapoikliieaaProg.lean LOADS. Nothing in Lean hashes anything: it is a label: what it is worth is what the hold of that sum in a sandbox is worth. -/
noncomputable def Try.pinned : Pinned := { name := "ytcchapoikliieaa", sum := "4d1c447cd0cd595f05384ef914bd19977dfcaf05d84e97d191629e2a13c05e6a", checked := Try.checked }
namespace Rows
def none {H : Type} : Left H := { results := [], args := [] }

/-- 'pumicelaw05.MatchCommon': WHATEVER THE INPUT: true; the input reads as it did. -/
def matchCommonSpec : ChangeSpec := { name := "matchCommon", fn := fun _ => fun
  | [d1, d2, d3] => { results := [.lit (.bool true)], args := [d1, d2, d3] }
  | _ => none }
def matchCommonRow : OpenClaim := { program := "ytcchapoikliieaa", sum := "4d1c447cd0cd595f05384ef914bd19977dfcaf05d84e97d191629e2a13c05e6a", func := "pumice/pumicelaw05.MatchCommon", spec := "matchCommon", unfollowed := true, recurses := true, plainKeys := false, apart := false }
def MatchCommonSaid : Prop := matchCommonRow.holds Try.pinned (OpenSpec.ofChange matchCommonSpec)

/-- ITS FALSE NEIGHBOUR: 'it returns false'. Refute it at one input. -/
def matchCommonWrong : ChangeSpec := { name := "matchCommon", fn := fun _ => fun
  | [d1, d2, d3] => { results := [.lit (.bool false)], args := [d1, d2, d3] }
  | _ => none }
def MatchCommonWrongFalsely : Prop := matchCommonRow.holds Try.pinned (OpenSpec.ofChange matchCommonWrong)

/-- 'pumicelaw05.MatchLongest': WHATEVER THE INPUT: true; the input reads as it did. -/
def matchLongestSpec : ChangeSpec := { name := "matchLongest", fn := fun _ => fun
  | [d1, d2] => { results := [.lit (.bool true)], args := [d1, d2] }
  | _ => none }
def matchLongestRow : OpenClaim := { program := "ytcchapoikliieaa", sum := "4d1c447cd0cd595f05384ef914bd19977dfcaf05d84e97d191629e2a13c05e6a", func := "pumice/pumicelaw05.MatchLongest", spec := "matchLongest", unfollowed := true, recurses := true, plainKeys := false, apart := false }
def MatchLongestSaid : Prop := matchLongestRow.holds Try.pinned (OpenSpec.ofChange matchLongestSpec)

/-- ITS FALSE NEIGHBOUR: 'it returns false'. Refute it at one input. -/
def matchLongestWrong : ChangeSpec := { name := "matchLongest", fn := fun _ => fun
  | [d1, d2] => { results := [.lit (.bool false)], args := [d1, d2] }
  | _ => none }
def MatchLongestWrongFalsely : Prop := matchLongestRow.holds Try.pinned (OpenSpec.ofChange matchLongestWrong)

/-- 'pumicelaw05.MatchAlls': WHATEVER THE INPUT: true; the input reads as it did. -/
def matchAllsSpec : ChangeSpec := { name := "matchAlls", fn := fun _ => fun
  | [d] => { results := [.lit (.bool true)], args := [d] }
  | _ => none }
def matchAllsRow : OpenClaim := { program := "ytcchapoikliieaa", sum := "4d1c447cd0cd595f05384ef914bd19977dfcaf05d84e97d191629e2a13c05e6a", func := "pumice/pumicelaw05.MatchAlls", spec := "matchAlls", unfollowed := true, recurses := true, plainKeys := false, apart := false }
def MatchAllsSaid : Prop := matchAllsRow.holds Try.pinned (OpenSpec.ofChange matchAllsSpec)

/-- ITS FALSE NEIGHBOUR: 'it returns false'. Refute it at one input. -/
def matchAllsWrong : ChangeSpec := { name := "matchAlls", fn := fun _ => fun
  | [d] => { results := [.lit (.bool false)], args := [d] }
  | _ => none }
def MatchAllsWrongFalsely : Prop := matchAllsRow.holds Try.pinned (OpenSpec.ofChange matchAllsWrong)

/-- 'pumicelaw05.MatchRuns': WHATEVER THE INPUT: true; the input reads as it did. -/
def matchRunsSpec : ChangeSpec := { name := "matchRuns", fn := fun _ => fun
  | [d] => { results := [.lit (.bool true)], args := [d] }
  | _ => none }
def matchRunsRow : OpenClaim := { program := "ytcchapoikliieaa", sum := "4d1c447cd0cd595f05384ef914bd19977dfcaf05d84e97d191629e2a13c05e6a", func := "pumice/pumicelaw05.MatchRuns", spec := "matchRuns", unfollowed := true, recurses := true, plainKeys := false, apart := false }
def MatchRunsSaid : Prop := matchRunsRow.holds Try.pinned (OpenSpec.ofChange matchRunsSpec)

/-- ITS FALSE NEIGHBOUR: 'it returns false'. Refute it at one input. -/
def matchRunsWrong : ChangeSpec := { name := "matchRuns", fn := fun _ => fun
  | [d] => { results := [.lit (.bool false)], args := [d] }
  | _ => none }
def MatchRunsWrongFalsely : Prop := matchRunsRow.holds Try.pinned (OpenSpec.ofChange matchRunsWrong)

/-- 'pumicelaw05.MatchShrinks': WHATEVER THE INPUT: true; the input reads as it did. -/
def matchShrinksSpec : ChangeSpec := { name := "matchShrinks", fn := fun _ => fun
  | [d] => { results := [.lit (.bool true)], args := [d] }
  | _ => none }
def matchShrinksRow : OpenClaim := { program := "ytcchapoikliieaa", sum := "4d1c447cd0cd595f05384ef914bd19977dfcaf05d84e97d191629e2a13c05e6a", func := "pumice/pumicelaw05.MatchShrinks", spec := "matchShrinks", unfollowed := true, recurses := true, plainKeys := false, apart := false }
def MatchShrinksSaid : Prop := matchShrinksRow.holds Try.pinned (OpenSpec.ofChange matchShrinksSpec)

/-- ITS FALSE NEIGHBOUR: 'it returns false'. Refute it at one input. -/
def matchShrinksWrong : ChangeSpec := { name := "matchShrinks", fn := fun _ => fun
  | [d] => { results := [.lit (.bool false)], args := [d] }
  | _ => none }
def MatchShrinksWrongFalsely : Prop := matchShrinksRow.holds Try.pinned (OpenSpec.ofChange matchShrinksWrong)

/-- 'pumicelaw05.MatchSame': WHATEVER THE INPUT: true; the input reads as it did. -/
def matchSameSpec : ChangeSpec := { name := "matchSame", fn := fun _ => fun
  | [d1, d2, d3] => { results := [.lit (.bool true)], args := [d1, d2, d3] }
  | _ => none }
def matchSameRow : OpenClaim := { program := "ytcchapoikliieaa", sum := "4d1c447cd0cd595f05384ef914bd19977dfcaf05d84e97d191629e2a13c05e6a", func := "pumice/pumicelaw05.MatchSame", spec := "matchSame", unfollowed := true, recurses := true, plainKeys := false, apart := false }
def MatchSameSaid : Prop := matchSameRow.holds Try.pinned (OpenSpec.ofChange matchSameSpec)

/-- ITS FALSE NEIGHBOUR: 'it returns false'. Refute it at one input. -/
def matchSameWrong : ChangeSpec := { name := "matchSame", fn := fun _ => fun
  | [d1, d2, d3] => { results := [.lit (.bool false)], args := [d1, d2, d3] }
  | _ => none }
def MatchSameWrongFalsely : Prop := matchSameRow.holds Try.pinned (OpenSpec.ofChange matchSameWrong)

/-- 'pumicelaw05.MatchOne': WHATEVER THE INPUT: true; the input reads as it did. -/
def matchOneSpec : ChangeSpec := { name := "matchOne", fn := fun _ => fun
  | [d1, d2, d3] => { results := [.lit (.bool true)], args := [d1, d2, d3] }
  | _ => none }
def matchOneRow : OpenClaim := { program := "ytcchapoikliieaa", sum := "4d1c447cd0cd595f05384ef914bd19977dfcaf05d84e97d191629e2a13c05e6a", func := "pumice/pumicelaw05.MatchOne", spec := "matchOne", unfollowed := true, recurses := true, plainKeys := false, apart := false }
def MatchOneSaid : Prop := matchOneRow.holds Try.pinned (OpenSpec.ofChange matchOneSpec)

/-- ITS FALSE NEIGHBOUR: 'it returns false'. Refute it at one input. -/
def matchOneWrong : ChangeSpec := { name := "matchOne", fn := fun _ => fun
  | [d1, d2, d3] => { results := [.lit (.bool false)], args := [d1, d2, d3] }
  | _ => none }
def MatchOneWrongFalsely : Prop := matchOneRow.holds Try.pinned (OpenSpec.ofChange matchOneWrong)

/- THE SECOND FORM. 'bulk': how many values and letters a reading holds, each counted each time it is reached (what is shared counts as often as it is met; a slice's spare places count too). A statement '..UptoSaid' is the law's where the arguments, and the package variables that the reading takes, are together of bulk at most 1048576: NARROWER than '..Said'. Prove '..Said' where nothing that the law and all that it calls make is longer than what came in: it says more and counts as full. Else prove '..UptoSaid'. A law counts once. -/
mutual
def uptoBulk {H : Type} : DataW H → Nat
  | .lit (.string bytes) => bytes.length + 1
  | .lit _ => 1
  | .nil => 1
  | .ptr d => uptoBulk d + 1
  | .slice elems spare => uptoBulkAll elems + uptoBulkAll spare + 1
  | .agg parts => uptoBulkAll parts + 1
  | .iface _ d => uptoBulk d + 1
  | .map entries => uptoBulkEntries entries + 1
  | .held _ => 1
def uptoBulkAll {H : Type} : List (DataW H) → Nat
  | [] => 0
  | d :: r => uptoBulk d + uptoBulkAll r
def uptoBulkEntries {H : Type} : List (Lit × DataW H) → Nat
  | [] => 0
  | x :: r => uptoBulkEntry x + uptoBulkEntries r
def uptoBulkEntry {H : Type} : Lit × DataW H → Nat
  | (.string bytes, d) => bytes.length + uptoBulk d + 1
  | (_, d) => uptoBulk d + 1
 end
def uptoSmall : (H : Type) → List (DataW H) → Bool := fun _ ds => decide (uptoBulkAll ds ≤ 1048576)
def OpenSpec.upto (s : _root_.Go.ChangeSpec) : _root_.Go.OpenSpec := { _root_.Go.OpenSpec.ofChange s with cond := some uptoSmall }

/-- 'pumicelaw05.MatchCommon', WHERE WHAT IT READS IS OF BULK AT MOST 1048576: true; the input reads as it did. -/
def matchCommonUptoRow : OpenClaim := { program := "ytcchapoikliieaa", sum := "4d1c447cd0cd595f05384ef914bd19977dfcaf05d84e97d191629e2a13c05e6a", func := "pumice/pumicelaw05.MatchCommon", spec := "matchCommon", unfollowed := true, recurses := true, plainKeys := false, apart := false, narrowed := true }
def MatchCommonUptoSaid : Prop := matchCommonUptoRow.holds Try.pinned (OpenSpec.upto matchCommonSpec)

/-- 'pumicelaw05.MatchLongest', WHERE WHAT IT READS IS OF BULK AT MOST 1048576: true; the input reads as it did. -/
def matchLongestUptoRow : OpenClaim := { program := "ytcchapoikliieaa", sum := "4d1c447cd0cd595f05384ef914bd19977dfcaf05d84e97d191629e2a13c05e6a", func := "pumice/pumicelaw05.MatchLongest", spec := "matchLongest", unfollowed := true, recurses := true, plainKeys := false, apart := false, narrowed := true }
def MatchLongestUptoSaid : Prop := matchLongestUptoRow.holds Try.pinned (OpenSpec.upto matchLongestSpec)

/-- 'pumicelaw05.MatchAlls', WHERE WHAT IT READS IS OF BULK AT MOST 1048576: true; the input reads as it did. -/
def matchAllsUptoRow : OpenClaim := { program := "ytcchapoikliieaa", sum := "4d1c447cd0cd595f05384ef914bd19977dfcaf05d84e97d191629e2a13c05e6a", func := "pumice/pumicelaw05.MatchAlls", spec := "matchAlls", unfollowed := true, recurses := true, plainKeys := false, apart := false, narrowed := true }
def MatchAllsUptoSaid : Prop := matchAllsUptoRow.holds Try.pinned (OpenSpec.upto matchAllsSpec)

/-- 'pumicelaw05.MatchRuns', WHERE WHAT IT READS IS OF BULK AT MOST 1048576: true; the input reads as it did. -/
def matchRunsUptoRow : OpenClaim := { program := "ytcchapoikliieaa", sum := "4d1c447cd0cd595f05384ef914bd19977dfcaf05d84e97d191629e2a13c05e6a", func := "pumice/pumicelaw05.MatchRuns", spec := "matchRuns", unfollowed := true, recurses := true, plainKeys := false, apart := false, narrowed := true }
def MatchRunsUptoSaid : Prop := matchRunsUptoRow.holds Try.pinned (OpenSpec.upto matchRunsSpec)

/-- 'pumicelaw05.MatchShrinks', WHERE WHAT IT READS IS OF BULK AT MOST 1048576: true; the input reads as it did. -/
def matchShrinksUptoRow : OpenClaim := { program := "ytcchapoikliieaa", sum := "4d1c447cd0cd595f05384ef914bd19977dfcaf05d84e97d191629e2a13c05e6a", func := "pumice/pumicelaw05.MatchShrinks", spec := "matchShrinks", unfollowed := true, recurses := true, plainKeys := false, apart := false, narrowed := true }
def MatchShrinksUptoSaid : Prop := matchShrinksUptoRow.holds Try.pinned (OpenSpec.upto matchShrinksSpec)

/-- 'pumicelaw05.MatchSame', WHERE WHAT IT READS IS OF BULK AT MOST 1048576: true; the input reads as it did. -/
def matchSameUptoRow : OpenClaim := { program := "ytcchapoikliieaa", sum := "4d1c447cd0cd595f05384ef914bd19977dfcaf05d84e97d191629e2a13c05e6a", func := "pumice/pumicelaw05.MatchSame", spec := "matchSame", unfollowed := true, recurses := true, plainKeys := false, apart := false, narrowed := true }
def MatchSameUptoSaid : Prop := matchSameUptoRow.holds Try.pinned (OpenSpec.upto matchSameSpec)

/-- 'pumicelaw05.MatchOne', WHERE WHAT IT READS IS OF BULK AT MOST 1048576: true; the input reads as it did. -/
def matchOneUptoRow : OpenClaim := { program := "ytcchapoikliieaa", sum := "4d1c447cd0cd595f05384ef914bd19977dfcaf05d84e97d191629e2a13c05e6a", func := "pumice/pumicelaw05.MatchOne", spec := "matchOne", unfollowed := true, recurses := true, plainKeys := false, apart := false, narrowed := true }
def MatchOneUptoSaid : Prop := matchOneUptoRow.holds Try.pinned (OpenSpec.upto matchOneSpec)

end Rows
end Go.Proofs.Ytcchapoikliieaa
