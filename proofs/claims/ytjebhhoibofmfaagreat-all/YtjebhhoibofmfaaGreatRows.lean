/-
  No cell of these rows narrows 'for every input' (looked for: loops, veiled, ifaces, maps, wideKeys, modest, calm, conditions, laid).
  DERIVED. THE GIVEN ROWS OF THIS SEAT. 4 by the template 'for every input the law returns true; each argument reads behind the call as it read before'; 0 by the template 'total and deterministic' (their statements: YtjebhhoibofmfaaGreatTotals.lean).
  GIVEN WITH THE SEED: the statements are not yours to turn. If you find one false, say at which input.
  Laid BY PROGRAM, IN A SANDBOX (cutbox-rows.mjs): the forced cells as the released guide's own fill.sh prints them over the translation 81ed2a36004b174f… (all of the seat's roots in one cut). By AI agents, Wed Nov 11 2026. No macro, syntax, notation, axiom, sorry.
-/
import Derived.Test.YtjebhhoibofmfaaGreatChecked
import GoSem.Claim
import GoSem.ClaimJoined
import GoSem.ClaimMapViews
import Derived.JoinedTies
import Derived.KernelRfl
namespace Go.Proofs.YtjebhhoibofmfaaGreat
/- THE CELL 'sum', in the pinned program and in every row, IS THE sha256 OF THE DUMP (.gsa) THAT YtjebhhoibofmfaaGreatProg.lean LOADS. Nothing in Lean hashes anything: it is a label: what it is worth is what the hold of that sum in a sandbox is worth. -/
noncomputable def Tryz.pinned : Pinned := { name := "ytjebhhoibofmfaagreat", sum := "81ed2a36004b174f394f1860d184a123d85262e6767c1b3a9ea5055a1795b92a", checked := Tryz.checked }
namespace Rows
def none {H : Type} : Left H := { results := [], args := [] }

/-- 'equalprooflaw.Solves': WHATEVER THE INPUT: true; the input reads as it did. -/
def solvesSpec : ChangeSpec := { name := "solves", fn := fun _ => fun
  | [d] => { results := [.lit (.bool true)], args := [d] }
  | _ => none }
def solvesRow : OpenClaim := { program := "ytjebhhoibofmfaagreat", sum := "81ed2a36004b174f394f1860d184a123d85262e6767c1b3a9ea5055a1795b92a", func := "equalproof/equalprooflaw.Solves", spec := "solves", unfollowed := true, recurses := true, plainKeys := false, apart := false }
def SolvesSaid : Prop := solvesRow.holds Tryz.pinned (OpenSpec.ofChange solvesSpec)

/-- ITS FALSE NEIGHBOUR: 'it returns false'. Refute it at one input. -/
def solvesWrong : ChangeSpec := { name := "solves", fn := fun _ => fun
  | [d] => { results := [.lit (.bool false)], args := [d] }
  | _ => none }
def SolvesWrongFalsely : Prop := solvesRow.holds Tryz.pinned (OpenSpec.ofChange solvesWrong)

/-- 'equalprooflaw.All': WHATEVER THE INPUT: true; the input reads as it did. -/
def allSpec : ChangeSpec := { name := "all", fn := fun _ => fun
  | [d] => { results := [.lit (.bool true)], args := [d] }
  | _ => none }
def allRow : OpenClaim := { program := "ytjebhhoibofmfaagreat", sum := "81ed2a36004b174f394f1860d184a123d85262e6767c1b3a9ea5055a1795b92a", func := "equalproof/equalprooflaw.All", spec := "all", unfollowed := true, recurses := true, plainKeys := false, apart := false }
def AllSaid : Prop := allRow.holds Tryz.pinned (OpenSpec.ofChange allSpec)

/-- ITS FALSE NEIGHBOUR: 'it returns false'. Refute it at one input. -/
def allWrong : ChangeSpec := { name := "all", fn := fun _ => fun
  | [d] => { results := [.lit (.bool false)], args := [d] }
  | _ => none }
def AllWrongFalsely : Prop := allRow.holds Tryz.pinned (OpenSpec.ofChange allWrong)

/-- 'equalproofkeep.Known': WHATEVER THE INPUT: true; the input reads as it did. -/
def knownSpec : ChangeSpec := { name := "known", fn := fun _ => fun
  | [d] => { results := [.lit (.bool true)], args := [d] }
  | _ => none }
def knownRow : OpenClaim := { program := "ytjebhhoibofmfaagreat", sum := "81ed2a36004b174f394f1860d184a123d85262e6767c1b3a9ea5055a1795b92a", func := "equalproof/equalproofkeep.Known", spec := "known", unfollowed := true, recurses := true, plainKeys := false, apart := false }
def KnownSaid : Prop := knownRow.holds Tryz.pinned (OpenSpec.ofChange knownSpec)

/-- ITS FALSE NEIGHBOUR: 'it returns false'. Refute it at one input. -/
def knownWrong : ChangeSpec := { name := "known", fn := fun _ => fun
  | [d] => { results := [.lit (.bool false)], args := [d] }
  | _ => none }
def KnownWrongFalsely : Prop := knownRow.holds Tryz.pinned (OpenSpec.ofChange knownWrong)

/-- 'equalproofkeep.Decided': WHATEVER THE INPUT: true; the input reads as it did. -/
def decidedSpec : ChangeSpec := { name := "decided", fn := fun _ => fun
  | [d1, d2] => { results := [.lit (.bool true)], args := [d1, d2] }
  | _ => none }
def decidedRow : OpenClaim := { program := "ytjebhhoibofmfaagreat", sum := "81ed2a36004b174f394f1860d184a123d85262e6767c1b3a9ea5055a1795b92a", func := "equalproof/equalproofkeep.Decided", spec := "decided", unfollowed := true, recurses := true, plainKeys := false, apart := false }
def DecidedSaid : Prop := decidedRow.holds Tryz.pinned (OpenSpec.ofChange decidedSpec)

/-- ITS FALSE NEIGHBOUR: 'it returns false'. Refute it at one input. -/
def decidedWrong : ChangeSpec := { name := "decided", fn := fun _ => fun
  | [d1, d2] => { results := [.lit (.bool false)], args := [d1, d2] }
  | _ => none }
def DecidedWrongFalsely : Prop := decidedRow.holds Tryz.pinned (OpenSpec.ofChange decidedWrong)

/- THE SECOND FORM. 'bulk': how many values and letters a reading holds, each counted each time it is reached (what is shared counts as often as it is met; a slice's spare places count too). A statement '..UptoSaid' is the law's where the arguments, and the package variables that the reading takes, are together of bulk at most 1048576: NARROWER than '..Said'. Prove '..Said' where nothing that the law and all that it calls make is longer than what came in: it says more and counts as full. Else prove '..UptoSaid'. A law counts once. -/
mutual
def uptoBulk {H : Type} : DataW H → Nat
  | .lit (.string bytes) => bytes.length + 1
  | .lit _ => 1
  | .nil => 1
  | .ptr d => uptoBulk d + 1
  | .slice elems spare => uptoBulkAll elems + uptoBulkAll spare + 1
  | .agg parts => uptoBulkAll parts + 1
  | .iface _ d => uptoBulk d + 1
  | .map entries => uptoBulkEntries entries + 1
  | .held _ => 1
def uptoBulkAll {H : Type} : List (DataW H) → Nat
  | [] => 0
  | d :: r => uptoBulk d + uptoBulkAll r
def uptoBulkEntries {H : Type} : List (Lit × DataW H) → Nat
  | [] => 0
  | x :: r => uptoBulkEntry x + uptoBulkEntries r
def uptoBulkEntry {H : Type} : Lit × DataW H → Nat
  | (.string bytes, d) => bytes.length + uptoBulk d + 1
  | (_, d) => uptoBulk d + 1
 end
def uptoSmall : (H : Type) → List (DataW H) → Bool := fun _ ds => decide (uptoBulkAll ds ≤ 1048576)
def OpenSpec.upto (s : _root_.Go.ChangeSpec) : _root_.Go.OpenSpec := { _root_.Go.OpenSpec.ofChange s with cond := some uptoSmall }

/-- 'equalprooflaw.Solves', WHERE WHAT IT READS IS OF BULK AT MOST 1048576: true; the input reads as it did. -/
def solvesUptoRow : OpenClaim := { program := "ytjebhhoibofmfaagreat", sum := "81ed2a36004b174f394f1860d184a123d85262e6767c1b3a9ea5055a1795b92a", func := "equalproof/equalprooflaw.Solves", spec := "solves", unfollowed := true, recurses := true, plainKeys := false, apart := false, narrowed := true }
def SolvesUptoSaid : Prop := solvesUptoRow.holds Tryz.pinned (OpenSpec.upto solvesSpec)

/-- 'equalprooflaw.All', WHERE WHAT IT READS IS OF BULK AT MOST 1048576: true; the input reads as it did. -/
def allUptoRow : OpenClaim := { program := "ytjebhhoibofmfaagreat", sum := "81ed2a36004b174f394f1860d184a123d85262e6767c1b3a9ea5055a1795b92a", func := "equalproof/equalprooflaw.All", spec := "all", unfollowed := true, recurses := true, plainKeys := false, apart := false, narrowed := true }
def AllUptoSaid : Prop := allUptoRow.holds Tryz.pinned (OpenSpec.upto allSpec)

/-- 'equalproofkeep.Known', WHERE WHAT IT READS IS OF BULK AT MOST 1048576: true; the input reads as it did. -/
def knownUptoRow : OpenClaim := { program := "ytjebhhoibofmfaagreat", sum := "81ed2a36004b174f394f1860d184a123d85262e6767c1b3a9ea5055a1795b92a", func := "equalproof/equalproofkeep.Known", spec := "known", unfollowed := true, recurses := true, plainKeys := false, apart := false, narrowed := true }
def KnownUptoSaid : Prop := knownUptoRow.holds Tryz.pinned (OpenSpec.upto knownSpec)

/-- 'equalproofkeep.Decided', WHERE WHAT IT READS IS OF BULK AT MOST 1048576: true; the input reads as it did. -/
def decidedUptoRow : OpenClaim := { program := "ytjebhhoibofmfaagreat", sum := "81ed2a36004b174f394f1860d184a123d85262e6767c1b3a9ea5055a1795b92a", func := "equalproof/equalproofkeep.Decided", spec := "decided", unfollowed := true, recurses := true, plainKeys := false, apart := false, narrowed := true }
def DecidedUptoSaid : Prop := decidedUptoRow.holds Tryz.pinned (OpenSpec.upto decidedSpec)

end Rows
end Go.Proofs.YtjebhhoibofmfaaGreat
