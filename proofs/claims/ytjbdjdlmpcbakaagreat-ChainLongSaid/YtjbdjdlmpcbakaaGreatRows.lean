/-
  No cell of these rows narrows 'for every input' (looked for: loops, veiled, ifaces, maps, wideKeys, modest, calm, conditions, laid).
  DERIVED. THE GIVEN ROWS OF THIS SEAT. 6 by the template 'for every input the law returns true; each argument reads behind the call as it read before'; 0 by the template 'total and deterministic' (their statements: YtjbdjdlmpcbakaaGreatTotals.lean).
  GIVEN WITH THE SEED: the statements are not yours to turn. If you find one false, say at which input.
  Laid BY PROGRAM, IN A SANDBOX (cutbox-rows.mjs): the forced cells as the released guide's own fill.sh prints them over the translation 1882f191a43932b4… (all of the seat's roots in one cut). By AI agents, Wed Nov 11 2026. No macro, syntax, notation, axiom, sorry.
-/
import Derived.Test.YtjbdjdlmpcbakaaGreatChecked
import GoSem.Claim
import GoSem.ClaimJoined
import GoSem.ClaimMapViews
import Derived.JoinedTies
import Derived.KernelRfl
namespace Go.Proofs.YtjbdjdlmpcbakaaGreat
/- THE CELL 'sum', in the pinned program and in every row, IS THE sha256 OF THE DUMP (.gsa) THAT YtjbdjdlmpcbakaaGreatProg.lean LOADS. Nothing in Lean hashes anything: it is a label: what it is worth is what the hold of that sum in a sandbox is worth. -/
noncomputable def Tryz.pinned : Pinned := { name := "ytjbdjdlmpcbakaagreat", sum := "1882f191a43932b413f67c45cba439d8f61ade91b5ac836a8aa6a0098d1d8310", checked := Tryz.checked }
namespace Rows
def none {H : Type} : Left H := { results := [], args := [] }

/-- 'keelsonlaw13.ScanPlays': WHATEVER THE INPUT: true; the input reads as it did. -/
def scanPlaysSpec : ChangeSpec := { name := "scanPlays", fn := fun _ => fun
  | [d1, d2, d3, d4, d5, d6] => { results := [.lit (.bool true)], args := [d1, d2, d3, d4, d5, d6] }
  | _ => none }
def scanPlaysRow : OpenClaim := { program := "ytjbdjdlmpcbakaagreat", sum := "1882f191a43932b413f67c45cba439d8f61ade91b5ac836a8aa6a0098d1d8310", func := "keelson/keelsonlaw13.ScanPlays", spec := "scanPlays", unfollowed := true, recurses := true, apart := false }
def ScanPlaysSaid : Prop := scanPlaysRow.holds Tryz.pinned (OpenSpec.ofChange scanPlaysSpec)

/-- ITS FALSE NEIGHBOUR: 'it returns false'. Refute it at one input. -/
def scanPlaysWrong : ChangeSpec := { name := "scanPlays", fn := fun _ => fun
  | [d1, d2, d3, d4, d5, d6] => { results := [.lit (.bool false)], args := [d1, d2, d3, d4, d5, d6] }
  | _ => none }
def ScanPlaysWrongFalsely : Prop := scanPlaysRow.holds Tryz.pinned (OpenSpec.ofChange scanPlaysWrong)

/-- 'keelsonlaw13.ScanBreaks': WHATEVER THE INPUT: true; the input reads as it did. -/
def scanBreaksSpec : ChangeSpec := { name := "scanBreaks", fn := fun _ => fun
  | [d1, d2, d3] => { results := [.lit (.bool true)], args := [d1, d2, d3] }
  | _ => none }
def scanBreaksRow : OpenClaim := { program := "ytjbdjdlmpcbakaagreat", sum := "1882f191a43932b413f67c45cba439d8f61ade91b5ac836a8aa6a0098d1d8310", func := "keelson/keelsonlaw13.ScanBreaks", spec := "scanBreaks", unfollowed := true, recurses := true, apart := false }
def ScanBreaksSaid : Prop := scanBreaksRow.holds Tryz.pinned (OpenSpec.ofChange scanBreaksSpec)

/-- ITS FALSE NEIGHBOUR: 'it returns false'. Refute it at one input. -/
def scanBreaksWrong : ChangeSpec := { name := "scanBreaks", fn := fun _ => fun
  | [d1, d2, d3] => { results := [.lit (.bool false)], args := [d1, d2, d3] }
  | _ => none }
def ScanBreaksWrongFalsely : Prop := scanBreaksRow.holds Tryz.pinned (OpenSpec.ofChange scanBreaksWrong)

/-- 'keelsonlaw14.ChainPlays': WHATEVER THE INPUT: true; the input reads as it did. -/
def chainPlaysSpec : ChangeSpec := { name := "chainPlays", fn := fun _ => fun
  | [d1, d2, d3, d4, d5] => { results := [.lit (.bool true)], args := [d1, d2, d3, d4, d5] }
  | _ => none }
def chainPlaysRow : OpenClaim := { program := "ytjbdjdlmpcbakaagreat", sum := "1882f191a43932b413f67c45cba439d8f61ade91b5ac836a8aa6a0098d1d8310", func := "keelson/keelsonlaw14.ChainPlays", spec := "chainPlays", unfollowed := true, recurses := true, apart := false }
def ChainPlaysSaid : Prop := chainPlaysRow.holds Tryz.pinned (OpenSpec.ofChange chainPlaysSpec)

/-- ITS FALSE NEIGHBOUR: 'it returns false'. Refute it at one input. -/
def chainPlaysWrong : ChangeSpec := { name := "chainPlays", fn := fun _ => fun
  | [d1, d2, d3, d4, d5] => { results := [.lit (.bool false)], args := [d1, d2, d3, d4, d5] }
  | _ => none }
def ChainPlaysWrongFalsely : Prop := chainPlaysRow.holds Tryz.pinned (OpenSpec.ofChange chainPlaysWrong)

/-- 'keelsonlaw14.ChainLong': WHATEVER THE INPUT: true; the input reads as it did. -/
def chainLongSpec : ChangeSpec := { name := "chainLong", fn := fun _ => fun
  | [d1, d2, d3] => { results := [.lit (.bool true)], args := [d1, d2, d3] }
  | _ => none }
def chainLongRow : OpenClaim := { program := "ytjbdjdlmpcbakaagreat", sum := "1882f191a43932b413f67c45cba439d8f61ade91b5ac836a8aa6a0098d1d8310", func := "keelson/keelsonlaw14.ChainLong", spec := "chainLong", unfollowed := true, recurses := true, apart := false }
def ChainLongSaid : Prop := chainLongRow.holds Tryz.pinned (OpenSpec.ofChange chainLongSpec)

/-- ITS FALSE NEIGHBOUR: 'it returns false'. Refute it at one input. -/
def chainLongWrong : ChangeSpec := { name := "chainLong", fn := fun _ => fun
  | [d1, d2, d3] => { results := [.lit (.bool false)], args := [d1, d2, d3] }
  | _ => none }
def ChainLongWrongFalsely : Prop := chainLongRow.holds Tryz.pinned (OpenSpec.ofChange chainLongWrong)

/-- 'keelsonlaw14.ChainCut': WHATEVER THE INPUT: true; the input reads as it did. -/
def chainCutSpec : ChangeSpec := { name := "chainCut", fn := fun _ => fun
  | [d1, d2, d3, d4] => { results := [.lit (.bool true)], args := [d1, d2, d3, d4] }
  | _ => none }
def chainCutRow : OpenClaim := { program := "ytjbdjdlmpcbakaagreat", sum := "1882f191a43932b413f67c45cba439d8f61ade91b5ac836a8aa6a0098d1d8310", func := "keelson/keelsonlaw14.ChainCut", spec := "chainCut", unfollowed := true, recurses := true, apart := false }
def ChainCutSaid : Prop := chainCutRow.holds Tryz.pinned (OpenSpec.ofChange chainCutSpec)

/-- ITS FALSE NEIGHBOUR: 'it returns false'. Refute it at one input. -/
def chainCutWrong : ChangeSpec := { name := "chainCut", fn := fun _ => fun
  | [d1, d2, d3, d4] => { results := [.lit (.bool false)], args := [d1, d2, d3, d4] }
  | _ => none }
def ChainCutWrongFalsely : Prop := chainCutRow.holds Tryz.pinned (OpenSpec.ofChange chainCutWrong)

/-- 'keelsonlaw14.ChainFault': WHATEVER THE INPUT: true; the input reads as it did. -/
def chainFaultSpec : ChangeSpec := { name := "chainFault", fn := fun _ => fun
  | [d1, d2, d3] => { results := [.lit (.bool true)], args := [d1, d2, d3] }
  | _ => none }
def chainFaultRow : OpenClaim := { program := "ytjbdjdlmpcbakaagreat", sum := "1882f191a43932b413f67c45cba439d8f61ade91b5ac836a8aa6a0098d1d8310", func := "keelson/keelsonlaw14.ChainFault", spec := "chainFault", unfollowed := true, recurses := true, apart := false }
def ChainFaultSaid : Prop := chainFaultRow.holds Tryz.pinned (OpenSpec.ofChange chainFaultSpec)

/-- ITS FALSE NEIGHBOUR: 'it returns false'. Refute it at one input. -/
def chainFaultWrong : ChangeSpec := { name := "chainFault", fn := fun _ => fun
  | [d1, d2, d3] => { results := [.lit (.bool false)], args := [d1, d2, d3] }
  | _ => none }
def ChainFaultWrongFalsely : Prop := chainFaultRow.holds Tryz.pinned (OpenSpec.ofChange chainFaultWrong)

/- THE SECOND FORM. 'bulk': how many values and letters a reading holds, each counted each time it is reached (what is shared counts as often as it is met; a slice's spare places count too). A statement '..UptoSaid' is the law's where the arguments, and the package variables that the reading takes, are together of bulk at most 1048576: NARROWER than '..Said'. Prove '..Said' where nothing that the law and all that it calls make is longer than what came in: it says more and counts as full. Else prove '..UptoSaid'. A law counts once. -/
mutual
def uptoBulk {H : Type} : DataW H → Nat
  | .lit (.string bytes) => bytes.length + 1
  | .lit _ => 1
  | .nil => 1
  | .ptr d => uptoBulk d + 1
  | .slice elems spare => uptoBulkAll elems + uptoBulkAll spare + 1
  | .agg parts => uptoBulkAll parts + 1
  | .iface _ d => uptoBulk d + 1
  | .map entries => uptoBulkEntries entries + 1
  | .held _ => 1
def uptoBulkAll {H : Type} : List (DataW H) → Nat
  | [] => 0
  | d :: r => uptoBulk d + uptoBulkAll r
def uptoBulkEntries {H : Type} : List (Lit × DataW H) → Nat
  | [] => 0
  | x :: r => uptoBulkEntry x + uptoBulkEntries r
def uptoBulkEntry {H : Type} : Lit × DataW H → Nat
  | (.string bytes, d) => bytes.length + uptoBulk d + 1
  | (_, d) => uptoBulk d + 1
 end
def uptoSmall : (H : Type) → List (DataW H) → Bool := fun _ ds => decide (uptoBulkAll ds ≤ 1048576)
def OpenSpec.upto (s : _root_.Go.ChangeSpec) : _root_.Go.OpenSpec := { _root_.Go.OpenSpec.ofChange s with cond := some uptoSmall }

/-- 'keelsonlaw13.ScanPlays', WHERE WHAT IT READS IS OF BULK AT MOST 1048576: true; the input reads as it did. -/
def scanPlaysUptoRow : OpenClaim := { program := "ytjbdjdlmpcbakaagreat", sum := "1882f191a43932b413f67c45cba439d8f61ade91b5ac836a8aa6a0098d1d8310", func := "keelson/keelsonlaw13.ScanPlays", spec := "scanPlays", unfollowed := true, recurses := true, apart := false, narrowed := true }
def ScanPlaysUptoSaid : Prop := scanPlaysUptoRow.holds Tryz.pinned (OpenSpec.upto scanPlaysSpec)

/-- 'keelsonlaw13.ScanBreaks', WHERE WHAT IT READS IS OF BULK AT MOST 1048576: true; the input reads as it did. -/
def scanBreaksUptoRow : OpenClaim := { program := "ytjbdjdlmpcbakaagreat", sum := "1882f191a43932b413f67c45cba439d8f61ade91b5ac836a8aa6a0098d1d8310", func := "keelson/keelsonlaw13.ScanBreaks", spec := "scanBreaks", unfollowed := true, recurses := true, apart := false, narrowed := true }
def ScanBreaksUptoSaid : Prop := scanBreaksUptoRow.holds Tryz.pinned (OpenSpec.upto scanBreaksSpec)

/-- 'keelsonlaw14.ChainPlays', WHERE WHAT IT READS IS OF BULK AT MOST 1048576: true; the input reads as it did. -/
def chainPlaysUptoRow : OpenClaim := { program := "ytjbdjdlmpcbakaagreat", sum := "1882f191a43932b413f67c45cba439d8f61ade91b5ac836a8aa6a0098d1d8310", func := "keelson/keelsonlaw14.ChainPlays", spec := "chainPlays", unfollowed := true, recurses := true, apart := false, narrowed := true }
def ChainPlaysUptoSaid : Prop := chainPlaysUptoRow.holds Tryz.pinned (OpenSpec.upto chainPlaysSpec)

/-- 'keelsonlaw14.ChainLong', WHERE WHAT IT READS IS OF BULK AT MOST 1048576: true; the input reads as it did. -/
def chainLongUptoRow : OpenClaim := { program := "ytjbdjdlmpcbakaagreat", sum := "1882f191a43932b413f67c45cba439d8f61ade91b5ac836a8aa6a0098d1d8310", func := "keelson/keelsonlaw14.ChainLong", spec := "chainLong", unfollowed := true, recurses := true, apart := false, narrowed := true }
def ChainLongUptoSaid : Prop := chainLongUptoRow.holds Tryz.pinned (OpenSpec.upto chainLongSpec)

/-- 'keelsonlaw14.ChainCut', WHERE WHAT IT READS IS OF BULK AT MOST 1048576: true; the input reads as it did. -/
def chainCutUptoRow : OpenClaim := { program := "ytjbdjdlmpcbakaagreat", sum := "1882f191a43932b413f67c45cba439d8f61ade91b5ac836a8aa6a0098d1d8310", func := "keelson/keelsonlaw14.ChainCut", spec := "chainCut", unfollowed := true, recurses := true, apart := false, narrowed := true }
def ChainCutUptoSaid : Prop := chainCutUptoRow.holds Tryz.pinned (OpenSpec.upto chainCutSpec)

/-- 'keelsonlaw14.ChainFault', WHERE WHAT IT READS IS OF BULK AT MOST 1048576: true; the input reads as it did. -/
def chainFaultUptoRow : OpenClaim := { program := "ytjbdjdlmpcbakaagreat", sum := "1882f191a43932b413f67c45cba439d8f61ade91b5ac836a8aa6a0098d1d8310", func := "keelson/keelsonlaw14.ChainFault", spec := "chainFault", unfollowed := true, recurses := true, apart := false, narrowed := true }
def ChainFaultUptoSaid : Prop := chainFaultUptoRow.holds Tryz.pinned (OpenSpec.upto chainFaultSpec)

end Rows
end Go.Proofs.YtjbdjdlmpcbakaaGreat
