/-
  No cell of these rows narrows 'for every input' (looked for: loops, veiled, ifaces, maps, wideKeys, modest, calm, conditions, laid).
  DERIVED. THE GIVEN ROWS OF THIS SEAT. 4 by the template 'for every input the law returns true; each argument reads behind the call as it read before'; 0 by the template 'total and deterministic' (their statements: YtidaflmmldefcaaTotals.lean).
  GIVEN WITH THE SEED: the statements are not yours to turn. If you find one false, say at which input.
  Laid BY PROGRAM, IN A SANDBOX (cutbox-rows.mjs): the forced cells as the released guide's own fill.sh prints them over the translation 0bc9c9e1b36e725d… (all of the seat's roots in one cut). By AI agents, Wed Nov 11 2026. No macro, syntax, notation, axiom, sorry.
-/
import Derived.Test.YtidaflmmldefcaaChecked
import GoSem.Claim
import GoSem.ClaimJoined
import GoSem.ClaimMapViews
import Derived.JoinedTies
import Derived.KernelRfl
namespace Go.Proofs.Ytidaflmmldefcaa
/- THE CELL 'sum', in the pinned program and in every row, IS THE sha256 OF THE DUMP (.gsa) THAT YtidaflmmldefcaaProg.lean LOADS. Nothing in Lean hashes anything: it is a label: what it is worth is what the hold of that sum in a sandbox is worth. -/
noncomputable def Try.pinned : Pinned := { name := "ytidaflmmldefcaa", sum := "0bc9c9e1b36e725d0a12a43c8c02c250c60ee2dbcec779fdcae40c8ef64da13d", checked := Try.checked }
namespace Rows
def none {H : Type} : Left H := { results := [], args := [] }

/-- 'hostelkeep.Bounded': WHATEVER THE INPUT: true; the input reads as it did. -/
def boundedSpec : ChangeSpec := { name := "bounded", fn := fun _ => fun
  | [d1, d2] => { results := [.lit (.bool true)], args := [d1, d2] }
  | _ => none }
def boundedRow : OpenClaim := { program := "ytidaflmmldefcaa", sum := "0bc9c9e1b36e725d0a12a43c8c02c250c60ee2dbcec779fdcae40c8ef64da13d", func := "hostel/hostelkeep.Bounded", spec := "bounded", apart := false }
def BoundedSaid : Prop := boundedRow.holds Try.pinned (OpenSpec.ofChange boundedSpec)

/-- ITS FALSE NEIGHBOUR: 'it returns false'. Refute it at one input. -/
def boundedWrong : ChangeSpec := { name := "bounded", fn := fun _ => fun
  | [d1, d2] => { results := [.lit (.bool false)], args := [d1, d2] }
  | _ => none }
def BoundedWrongFalsely : Prop := boundedRow.holds Try.pinned (OpenSpec.ofChange boundedWrong)

/-- 'hostelkeep.Patient': WHATEVER THE INPUT: true; the input reads as it did. -/
def patientSpec : ChangeSpec := { name := "patient", fn := fun _ => fun
  | [d1, d2, d3] => { results := [.lit (.bool true)], args := [d1, d2, d3] }
  | _ => none }
def patientRow : OpenClaim := { program := "ytidaflmmldefcaa", sum := "0bc9c9e1b36e725d0a12a43c8c02c250c60ee2dbcec779fdcae40c8ef64da13d", func := "hostel/hostelkeep.Patient", spec := "patient", apart := false }
def PatientSaid : Prop := patientRow.holds Try.pinned (OpenSpec.ofChange patientSpec)

/-- ITS FALSE NEIGHBOUR: 'it returns false'. Refute it at one input. -/
def patientWrong : ChangeSpec := { name := "patient", fn := fun _ => fun
  | [d1, d2, d3] => { results := [.lit (.bool false)], args := [d1, d2, d3] }
  | _ => none }
def PatientWrongFalsely : Prop := patientRow.holds Try.pinned (OpenSpec.ofChange patientWrong)

/-- 'hostelkeep.Posted': WHATEVER THE INPUT: true; the input reads as it did. -/
def postedSpec : ChangeSpec := { name := "posted", fn := fun _ => fun
  | [d1, d2, d3] => { results := [.lit (.bool true)], args := [d1, d2, d3] }
  | _ => none }
def postedRow : OpenClaim := { program := "ytidaflmmldefcaa", sum := "0bc9c9e1b36e725d0a12a43c8c02c250c60ee2dbcec779fdcae40c8ef64da13d", func := "hostel/hostelkeep.Posted", spec := "posted", apart := false }
def PostedSaid : Prop := postedRow.holds Try.pinned (OpenSpec.ofChange postedSpec)

/-- ITS FALSE NEIGHBOUR: 'it returns false'. Refute it at one input. -/
def postedWrong : ChangeSpec := { name := "posted", fn := fun _ => fun
  | [d1, d2, d3] => { results := [.lit (.bool false)], args := [d1, d2, d3] }
  | _ => none }
def PostedWrongFalsely : Prop := postedRow.holds Try.pinned (OpenSpec.ofChange postedWrong)

/-- 'hostelkeep.Apart': WHATEVER THE INPUT: true; the input reads as it did. -/
def apartSpec : ChangeSpec := { name := "apart", fn := fun _ => fun
  | [d1, d2, d3, d4, d5, d6] => { results := [.lit (.bool true)], args := [d1, d2, d3, d4, d5, d6] }
  | _ => none }
def apartRow : OpenClaim := { program := "ytidaflmmldefcaa", sum := "0bc9c9e1b36e725d0a12a43c8c02c250c60ee2dbcec779fdcae40c8ef64da13d", func := "hostel/hostelkeep.Apart", spec := "apart", apart := false }
def ApartSaid : Prop := apartRow.holds Try.pinned (OpenSpec.ofChange apartSpec)

/-- ITS FALSE NEIGHBOUR: 'it returns false'. Refute it at one input. -/
def apartWrong : ChangeSpec := { name := "apart", fn := fun _ => fun
  | [d1, d2, d3, d4, d5, d6] => { results := [.lit (.bool false)], args := [d1, d2, d3, d4, d5, d6] }
  | _ => none }
def ApartWrongFalsely : Prop := apartRow.holds Try.pinned (OpenSpec.ofChange apartWrong)

/- THE SECOND FORM. 'bulk': how many values and letters a reading holds, each counted each time it is reached (what is shared counts as often as it is met; a slice's spare places count too). A statement '..UptoSaid' is the law's where the arguments, and the package variables that the reading takes, are together of bulk at most 1048576: NARROWER than '..Said'. Prove '..Said' where nothing that the law and all that it calls make is longer than what came in: it says more and counts as full. Else prove '..UptoSaid'. A law counts once. -/
mutual
def uptoBulk {H : Type} : DataW H → Nat
  | .lit (.string bytes) => bytes.length + 1
  | .lit _ => 1
  | .nil => 1
  | .ptr d => uptoBulk d + 1
  | .slice elems spare => uptoBulkAll elems + uptoBulkAll spare + 1
  | .agg parts => uptoBulkAll parts + 1
  | .iface _ d => uptoBulk d + 1
  | .map entries => uptoBulkEntries entries + 1
  | .held _ => 1
def uptoBulkAll {H : Type} : List (DataW H) → Nat
  | [] => 0
  | d :: r => uptoBulk d + uptoBulkAll r
def uptoBulkEntries {H : Type} : List (Lit × DataW H) → Nat
  | [] => 0
  | x :: r => uptoBulkEntry x + uptoBulkEntries r
def uptoBulkEntry {H : Type} : Lit × DataW H → Nat
  | (.string bytes, d) => bytes.length + uptoBulk d + 1
  | (_, d) => uptoBulk d + 1
 end
def uptoSmall : (H : Type) → List (DataW H) → Bool := fun _ ds => decide (uptoBulkAll ds ≤ 1048576)
def OpenSpec.upto (s : _root_.Go.ChangeSpec) : _root_.Go.OpenSpec := { _root_.Go.OpenSpec.ofChange s with cond := some uptoSmall }

/-- 'hostelkeep.Bounded', WHERE WHAT IT READS IS OF BULK AT MOST 1048576: true; the input reads as it did. -/
def boundedUptoRow : OpenClaim := { program := "ytidaflmmldefcaa", sum := "0bc9c9e1b36e725d0a12a43c8c02c250c60ee2dbcec779fdcae40c8ef64da13d", func := "hostel/hostelkeep.Bounded", spec := "bounded", apart := false, narrowed := true }
def BoundedUptoSaid : Prop := boundedUptoRow.holds Try.pinned (OpenSpec.upto boundedSpec)

/-- 'hostelkeep.Patient', WHERE WHAT IT READS IS OF BULK AT MOST 1048576: true; the input reads as it did. -/
def patientUptoRow : OpenClaim := { program := "ytidaflmmldefcaa", sum := "0bc9c9e1b36e725d0a12a43c8c02c250c60ee2dbcec779fdcae40c8ef64da13d", func := "hostel/hostelkeep.Patient", spec := "patient", apart := false, narrowed := true }
def PatientUptoSaid : Prop := patientUptoRow.holds Try.pinned (OpenSpec.upto patientSpec)

/-- 'hostelkeep.Posted', WHERE WHAT IT READS IS OF BULK AT MOST 1048576: true; the input reads as it did. -/
def postedUptoRow : OpenClaim := { program := "ytidaflmmldefcaa", sum := "0bc9c9e1b36e725d0a12a43c8c02c250c60ee2dbcec779fdcae40c8ef64da13d", func := "hostel/hostelkeep.Posted", spec := "posted", apart := false, narrowed := true }
def PostedUptoSaid : Prop := postedUptoRow.holds Try.pinned (OpenSpec.upto postedSpec)

/-- 'hostelkeep.Apart', WHERE WHAT IT READS IS OF BULK AT MOST 1048576: true; the input reads as it did. -/
def apartUptoRow : OpenClaim := { program := "ytidaflmmldefcaa", sum := "0bc9c9e1b36e725d0a12a43c8c02c250c60ee2dbcec779fdcae40c8ef64da13d", func := "hostel/hostelkeep.Apart", spec := "apart", apart := false, narrowed := true }
def ApartUptoSaid : Prop := apartUptoRow.holds Try.pinned (OpenSpec.upto apartSpec)

end Rows
end Go.Proofs.Ytidaflmmldefcaa
