/-
  No cell of these rows narrows 'for every input' (looked for: loops, veiled, ifaces, maps, wideKeys, modest, calm, conditions, laid).
  DERIVED. THE GIVEN ROWS OF THIS SEAT. 6 by the template 'for every input the law returns true; each argument reads behind the call as it read before'; 0 by the template 'total and deterministic' (their statements: YtmampmbnjdncjaaTotals.lean).
  GIVEN WITH THE SEED: the statements are not yours to turn. If you find one false, say at which input.
  Laid BY PROGRAM, IN A SANDBOX (cutbox-rows.mjs): the forced cells as the released guide's own fill.sh prints them over the translation 9c2f99a262be183e… (all of the seat's roots in one cut). By AI agents, Wed Nov 11 2026. No macro, syntax, notation, axiom, sorry.
-/
import Derived.Test.YtmampmbnjdncjaaChecked
import GoSem.Claim
import GoSem.ClaimJoined
import GoSem.ClaimMapViews
import Derived.JoinedTies
import Derived.KernelRfl
namespace Go.Proofs.Ytmampmbnjdncjaa
/- THE CELL 'sum', in the pinned program and in every row, IS THE sha256 OF THE DUMP (.gsa) THAT YtmampmbnjdncjaaProg.lean LOADS. Nothing in Lean hashes anything: it is a label: what it is worth is what the hold of that sum in a sandbox is worth. -/
noncomputable def Try.pinned : Pinned := { name := "ytmampmbnjdncjaa", sum := "9c2f99a262be183e7e0e3531f304d0ae4eda97e21156cc17818455c14ff8506c", checked := Try.checked }
namespace Rows
def none {H : Type} : Left H := { results := [], args := [] }

/-- 'equalprooflaw.Closes': WHATEVER THE INPUT: true; the input reads as it did. -/
def closesSpec : ChangeSpec := { name := "closes", fn := fun _ => fun
  | [d1, d2] => { results := [.lit (.bool true)], args := [d1, d2] }
  | _ => none }
def closesRow : OpenClaim := { program := "ytmampmbnjdncjaa", sum := "9c2f99a262be183e7e0e3531f304d0ae4eda97e21156cc17818455c14ff8506c", func := "equalproof/equalprooflaw.Closes", spec := "closes", recurses := true, apart := false }
def ClosesSaid : Prop := closesRow.holds Try.pinned (OpenSpec.ofChange closesSpec)

/-- ITS FALSE NEIGHBOUR: 'it returns false'. Refute it at one input. -/
def closesWrong : ChangeSpec := { name := "closes", fn := fun _ => fun
  | [d1, d2] => { results := [.lit (.bool false)], args := [d1, d2] }
  | _ => none }
def ClosesWrongFalsely : Prop := closesRow.holds Try.pinned (OpenSpec.ofChange closesWrong)

/-- 'equalprooflaw.Truths': WHATEVER THE INPUT: true; the input reads as it did. -/
def truthsSpec : ChangeSpec := { name := "truths", fn := fun _ => fun
  | [d1, d2] => { results := [.lit (.bool true)], args := [d1, d2] }
  | _ => none }
def truthsRow : OpenClaim := { program := "ytmampmbnjdncjaa", sum := "9c2f99a262be183e7e0e3531f304d0ae4eda97e21156cc17818455c14ff8506c", func := "equalproof/equalprooflaw.Truths", spec := "truths", apart := false }
def TruthsSaid : Prop := truthsRow.holds Try.pinned (OpenSpec.ofChange truthsSpec)

/-- ITS FALSE NEIGHBOUR: 'it returns false'. Refute it at one input. -/
def truthsWrong : ChangeSpec := { name := "truths", fn := fun _ => fun
  | [d1, d2] => { results := [.lit (.bool false)], args := [d1, d2] }
  | _ => none }
def TruthsWrongFalsely : Prop := truthsRow.holds Try.pinned (OpenSpec.ofChange truthsWrong)

/-- 'equalprooflaw.Checks': WHATEVER THE INPUT: true; the input reads as it did. -/
def checksSpec : ChangeSpec := { name := "checks", fn := fun _ => fun
  | [d1, d2] => { results := [.lit (.bool true)], args := [d1, d2] }
  | _ => none }
def checksRow : OpenClaim := { program := "ytmampmbnjdncjaa", sum := "9c2f99a262be183e7e0e3531f304d0ae4eda97e21156cc17818455c14ff8506c", func := "equalproof/equalprooflaw.Checks", spec := "checks", apart := false }
def ChecksSaid : Prop := checksRow.holds Try.pinned (OpenSpec.ofChange checksSpec)

/-- ITS FALSE NEIGHBOUR: 'it returns false'. Refute it at one input. -/
def checksWrong : ChangeSpec := { name := "checks", fn := fun _ => fun
  | [d1, d2] => { results := [.lit (.bool false)], args := [d1, d2] }
  | _ => none }
def ChecksWrongFalsely : Prop := checksRow.holds Try.pinned (OpenSpec.ofChange checksWrong)

/-- 'equalproofkeep.Least': WHATEVER THE INPUT: true; the input reads as it did. -/
def leastSpec : ChangeSpec := { name := "least", fn := fun _ => fun
  | [d1, d2] => { results := [.lit (.bool true)], args := [d1, d2] }
  | _ => none }
def leastRow : OpenClaim := { program := "ytmampmbnjdncjaa", sum := "9c2f99a262be183e7e0e3531f304d0ae4eda97e21156cc17818455c14ff8506c", func := "equalproof/equalproofkeep.Least", spec := "least", apart := false }
def LeastSaid : Prop := leastRow.holds Try.pinned (OpenSpec.ofChange leastSpec)

/-- ITS FALSE NEIGHBOUR: 'it returns false'. Refute it at one input. -/
def leastWrong : ChangeSpec := { name := "least", fn := fun _ => fun
  | [d1, d2] => { results := [.lit (.bool false)], args := [d1, d2] }
  | _ => none }
def LeastWrongFalsely : Prop := leastRow.holds Try.pinned (OpenSpec.ofChange leastWrong)

/-- 'equalproofkeep.Judged': WHATEVER THE INPUT: true; the input reads as it did. -/
def judgedSpec : ChangeSpec := { name := "judged", fn := fun _ => fun
  | [d1, d2, d3] => { results := [.lit (.bool true)], args := [d1, d2, d3] }
  | _ => none }
def judgedRow : OpenClaim := { program := "ytmampmbnjdncjaa", sum := "9c2f99a262be183e7e0e3531f304d0ae4eda97e21156cc17818455c14ff8506c", func := "equalproof/equalproofkeep.Judged", spec := "judged", apart := false }
def JudgedSaid : Prop := judgedRow.holds Try.pinned (OpenSpec.ofChange judgedSpec)

/-- ITS FALSE NEIGHBOUR: 'it returns false'. Refute it at one input. -/
def judgedWrong : ChangeSpec := { name := "judged", fn := fun _ => fun
  | [d1, d2, d3] => { results := [.lit (.bool false)], args := [d1, d2, d3] }
  | _ => none }
def JudgedWrongFalsely : Prop := judgedRow.holds Try.pinned (OpenSpec.ofChange judgedWrong)

/-- 'equalproofkeep.Sure': WHATEVER THE INPUT: true; the input reads as it did. -/
def sureSpec : ChangeSpec := { name := "sure", fn := fun _ => fun
  | [d1, d2, d3] => { results := [.lit (.bool true)], args := [d1, d2, d3] }
  | _ => none }
def sureRow : OpenClaim := { program := "ytmampmbnjdncjaa", sum := "9c2f99a262be183e7e0e3531f304d0ae4eda97e21156cc17818455c14ff8506c", func := "equalproof/equalproofkeep.Sure", spec := "sure", apart := false }
def SureSaid : Prop := sureRow.holds Try.pinned (OpenSpec.ofChange sureSpec)

/-- ITS FALSE NEIGHBOUR: 'it returns false'. Refute it at one input. -/
def sureWrong : ChangeSpec := { name := "sure", fn := fun _ => fun
  | [d1, d2, d3] => { results := [.lit (.bool false)], args := [d1, d2, d3] }
  | _ => none }
def SureWrongFalsely : Prop := sureRow.holds Try.pinned (OpenSpec.ofChange sureWrong)

/- THE SECOND FORM. 'bulk': how many values and letters a reading holds, each counted each time it is reached (what is shared counts as often as it is met; a slice's spare places count too). A statement '..UptoSaid' is the law's where the arguments, and the package variables that the reading takes, are together of bulk at most 1048576: NARROWER than '..Said'. Prove '..Said' where nothing that the law and all that it calls make is longer than what came in: it says more and counts as full. Else prove '..UptoSaid'. A law counts once. -/
mutual
def uptoBulk {H : Type} : DataW H → Nat
  | .lit (.string bytes) => bytes.length + 1
  | .lit _ => 1
  | .nil => 1
  | .ptr d => uptoBulk d + 1
  | .slice elems spare => uptoBulkAll elems + uptoBulkAll spare + 1
  | .agg parts => uptoBulkAll parts + 1
  | .iface _ d => uptoBulk d + 1
  | .map entries => uptoBulkEntries entries + 1
  | .held _ => 1
def uptoBulkAll {H : Type} : List (DataW H) → Nat
  | [] => 0
  | d :: r => uptoBulk d + uptoBulkAll r
def uptoBulkEntries {H : Type} : List (Lit × DataW H) → Nat
  | [] => 0
  | x :: r => uptoBulkEntry x + uptoBulkEntries r
def uptoBulkEntry {H : Type} : Lit × DataW H → Nat
  | (.string bytes, d) => bytes.length + uptoBulk d + 1
  | (_, d) => uptoBulk d + 1
 end
def uptoSmall : (H : Type) → List (DataW H) → Bool := fun _ ds => decide (uptoBulkAll ds ≤ 1048576)
def OpenSpec.upto (s : _root_.Go.ChangeSpec) : _root_.Go.OpenSpec := { _root_.Go.OpenSpec.ofChange s with cond := some uptoSmall }

/-- 'equalprooflaw.Closes', WHERE WHAT IT READS IS OF BULK AT MOST 1048576: true; the input reads as it did. -/
def closesUptoRow : OpenClaim := { program := "ytmampmbnjdncjaa", sum := "9c2f99a262be183e7e0e3531f304d0ae4eda97e21156cc17818455c14ff8506c", func := "equalproof/equalprooflaw.Closes", spec := "closes", recurses := true, apart := false, narrowed := true }
def ClosesUptoSaid : Prop := closesUptoRow.holds Try.pinned (OpenSpec.upto closesSpec)

/-- 'equalprooflaw.Truths', WHERE WHAT IT READS IS OF BULK AT MOST 1048576: true; the input reads as it did. -/
def truthsUptoRow : OpenClaim := { program := "ytmampmbnjdncjaa", sum := "9c2f99a262be183e7e0e3531f304d0ae4eda97e21156cc17818455c14ff8506c", func := "equalproof/equalprooflaw.Truths", spec := "truths", apart := false, narrowed := true }
def TruthsUptoSaid : Prop := truthsUptoRow.holds Try.pinned (OpenSpec.upto truthsSpec)

/-- 'equalprooflaw.Checks', WHERE WHAT IT READS IS OF BULK AT MOST 1048576: true; the input reads as it did. -/
def checksUptoRow : OpenClaim := { program := "ytmampmbnjdncjaa", sum := "9c2f99a262be183e7e0e3531f304d0ae4eda97e21156cc17818455c14ff8506c", func := "equalproof/equalprooflaw.Checks", spec := "checks", apart := false, narrowed := true }
def ChecksUptoSaid : Prop := checksUptoRow.holds Try.pinned (OpenSpec.upto checksSpec)

/-- 'equalproofkeep.Least', WHERE WHAT IT READS IS OF BULK AT MOST 1048576: true; the input reads as it did. -/
def leastUptoRow : OpenClaim := { program := "ytmampmbnjdncjaa", sum := "9c2f99a262be183e7e0e3531f304d0ae4eda97e21156cc17818455c14ff8506c", func := "equalproof/equalproofkeep.Least", spec := "least", apart := false, narrowed := true }
def LeastUptoSaid : Prop := leastUptoRow.holds Try.pinned (OpenSpec.upto leastSpec)

/-- 'equalproofkeep.Judged', WHERE WHAT IT READS IS OF BULK AT MOST 1048576: true; the input reads as it did. -/
def judgedUptoRow : OpenClaim := { program := "ytmampmbnjdncjaa", sum := "9c2f99a262be183e7e0e3531f304d0ae4eda97e21156cc17818455c14ff8506c", func := "equalproof/equalproofkeep.Judged", spec := "judged", apart := false, narrowed := true }
def JudgedUptoSaid : Prop := judgedUptoRow.holds Try.pinned (OpenSpec.upto judgedSpec)

/-- 'equalproofkeep.Sure', WHERE WHAT IT READS IS OF BULK AT MOST 1048576: true; the input reads as it did. -/
def sureUptoRow : OpenClaim := { program := "ytmampmbnjdncjaa", sum := "9c2f99a262be183e7e0e3531f304d0ae4eda97e21156cc17818455c14ff8506c", func := "equalproof/equalproofkeep.Sure", spec := "sure", apart := false, narrowed := true }
def SureUptoSaid : Prop := sureUptoRow.holds Try.pinned (OpenSpec.upto sureSpec)

end Rows
end Go.Proofs.Ytmampmbnjdncjaa
