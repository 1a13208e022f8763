/-
  No cell of these rows narrows 'for every input' (looked for: loops, veiled, ifaces, maps, wideKeys, modest, calm, conditions, laid).
  DERIVED. THE GIVEN ROWS OF THIS SEAT. 7 by the template 'for every input the law returns true; each argument reads behind the call as it read before'; 0 by the template 'total and deterministic' (their statements: YtcaeeaiodbjacaaTotals.lean).
  GIVEN WITH THE SEED: the statements are not yours to turn. If you find one false, say at which input.
  Laid BY PROGRAM, IN A SANDBOX (cutbox-rows.mjs): the forced cells as the released guide's own fill.sh prints them over the translation cbce3030df75a93b… (all of the seat's roots in one cut). By AI agents, Wed Nov 11 2026. No macro, syntax, notation, axiom, sorry.
-/
import Derived.Test.YtcaeeaiodbjacaaChecked
import GoSem.Claim
import GoSem.ClaimJoined
import GoSem.ClaimMapViews
import Derived.JoinedTies
import Derived.KernelRfl
namespace Go.Proofs.Ytcaeeaiodbjacaa
/- THE CELL 'sum', in the pinned program and in every row, IS THE sha256 OF THE DUMP (.gsa) THAT YtcaeeaiodbjacaaProg.lean LOADS. Nothing in Lean hashes anything: it is a label: what it is worth is what the hold of that sum in a sandbox is worth. -/
noncomputable def Try.pinned : Pinned := { name := "ytcaeeaiodbjacaa", sum := "cbce3030df75a93b4241063669774080b1f5e3bd2a98f53cb7857dc2356da42a", checked := Try.checked }
namespace Rows
def none {H : Type} : Left H := { results := [], args := [] }

/-- 'hostellaw.Plans': WHATEVER THE INPUT: true; the input reads as it did. -/
def plansSpec : ChangeSpec := { name := "plans", fn := fun _ => fun
  | [d1, d2] => { results := [.lit (.bool true)], args := [d1, d2] }
  | _ => none }
def plansRow : OpenClaim := { program := "ytcaeeaiodbjacaa", sum := "cbce3030df75a93b4241063669774080b1f5e3bd2a98f53cb7857dc2356da42a", func := "hostel/hostellaw.Plans", spec := "plans", apart := false }
def PlansSaid : Prop := plansRow.holds Try.pinned (OpenSpec.ofChange plansSpec)

/-- ITS FALSE NEIGHBOUR: 'it returns false'. Refute it at one input. -/
def plansWrong : ChangeSpec := { name := "plans", fn := fun _ => fun
  | [d1, d2] => { results := [.lit (.bool false)], args := [d1, d2] }
  | _ => none }
def PlansWrongFalsely : Prop := plansRow.holds Try.pinned (OpenSpec.ofChange plansWrong)

/-- 'hostellaw.Patches': WHATEVER THE INPUT: true; the input reads as it did. -/
def patchesSpec : ChangeSpec := { name := "patches", fn := fun _ => fun
  | [d1, d2] => { results := [.lit (.bool true)], args := [d1, d2] }
  | _ => none }
def patchesRow : OpenClaim := { program := "ytcaeeaiodbjacaa", sum := "cbce3030df75a93b4241063669774080b1f5e3bd2a98f53cb7857dc2356da42a", func := "hostel/hostellaw.Patches", spec := "patches", apart := false }
def PatchesSaid : Prop := patchesRow.holds Try.pinned (OpenSpec.ofChange patchesSpec)

/-- ITS FALSE NEIGHBOUR: 'it returns false'. Refute it at one input. -/
def patchesWrong : ChangeSpec := { name := "patches", fn := fun _ => fun
  | [d1, d2] => { results := [.lit (.bool false)], args := [d1, d2] }
  | _ => none }
def PatchesWrongFalsely : Prop := patchesRow.holds Try.pinned (OpenSpec.ofChange patchesWrong)

/-- 'hostellaw.Diffs': WHATEVER THE INPUT: true; the input reads as it did. -/
def diffsSpec : ChangeSpec := { name := "diffs", fn := fun _ => fun
  | [d1, d2] => { results := [.lit (.bool true)], args := [d1, d2] }
  | _ => none }
def diffsRow : OpenClaim := { program := "ytcaeeaiodbjacaa", sum := "cbce3030df75a93b4241063669774080b1f5e3bd2a98f53cb7857dc2356da42a", func := "hostel/hostellaw.Diffs", spec := "diffs", apart := false }
def DiffsSaid : Prop := diffsRow.holds Try.pinned (OpenSpec.ofChange diffsSpec)

/-- ITS FALSE NEIGHBOUR: 'it returns false'. Refute it at one input. -/
def diffsWrong : ChangeSpec := { name := "diffs", fn := fun _ => fun
  | [d1, d2] => { results := [.lit (.bool false)], args := [d1, d2] }
  | _ => none }
def DiffsWrongFalsely : Prop := diffsRow.holds Try.pinned (OpenSpec.ofChange diffsWrong)

/-- 'hostellaw.Marks': WHATEVER THE INPUT: true; the input reads as it did. -/
def marksSpec : ChangeSpec := { name := "marks", fn := fun _ => fun
  | [d1, d2] => { results := [.lit (.bool true)], args := [d1, d2] }
  | _ => none }
def marksRow : OpenClaim := { program := "ytcaeeaiodbjacaa", sum := "cbce3030df75a93b4241063669774080b1f5e3bd2a98f53cb7857dc2356da42a", func := "hostel/hostellaw.Marks", spec := "marks", apart := false }
def MarksSaid : Prop := marksRow.holds Try.pinned (OpenSpec.ofChange marksSpec)

/-- ITS FALSE NEIGHBOUR: 'it returns false'. Refute it at one input. -/
def marksWrong : ChangeSpec := { name := "marks", fn := fun _ => fun
  | [d1, d2] => { results := [.lit (.bool false)], args := [d1, d2] }
  | _ => none }
def MarksWrongFalsely : Prop := marksRow.holds Try.pinned (OpenSpec.ofChange marksWrong)

/-- 'hostelkeep.Lasting': WHATEVER THE INPUT: true; the input reads as it did. -/
def lastingSpec : ChangeSpec := { name := "lasting", fn := fun _ => fun
  | [d] => { results := [.lit (.bool true)], args := [d] }
  | _ => none }
def lastingRow : OpenClaim := { program := "ytcaeeaiodbjacaa", sum := "cbce3030df75a93b4241063669774080b1f5e3bd2a98f53cb7857dc2356da42a", func := "hostel/hostelkeep.Lasting", spec := "lasting", apart := false }
def LastingSaid : Prop := lastingRow.holds Try.pinned (OpenSpec.ofChange lastingSpec)

/-- ITS FALSE NEIGHBOUR: 'it returns false'. Refute it at one input. -/
def lastingWrong : ChangeSpec := { name := "lasting", fn := fun _ => fun
  | [d] => { results := [.lit (.bool false)], args := [d] }
  | _ => none }
def LastingWrongFalsely : Prop := lastingRow.holds Try.pinned (OpenSpec.ofChange lastingWrong)

/-- 'hostelkeep.Fewest': WHATEVER THE INPUT: true; the input reads as it did. -/
def fewestSpec : ChangeSpec := { name := "fewest", fn := fun _ => fun
  | [d1, d2, d3] => { results := [.lit (.bool true)], args := [d1, d2, d3] }
  | _ => none }
def fewestRow : OpenClaim := { program := "ytcaeeaiodbjacaa", sum := "cbce3030df75a93b4241063669774080b1f5e3bd2a98f53cb7857dc2356da42a", func := "hostel/hostelkeep.Fewest", spec := "fewest", apart := false }
def FewestSaid : Prop := fewestRow.holds Try.pinned (OpenSpec.ofChange fewestSpec)

/-- ITS FALSE NEIGHBOUR: 'it returns false'. Refute it at one input. -/
def fewestWrong : ChangeSpec := { name := "fewest", fn := fun _ => fun
  | [d1, d2, d3] => { results := [.lit (.bool false)], args := [d1, d2, d3] }
  | _ => none }
def FewestWrongFalsely : Prop := fewestRow.holds Try.pinned (OpenSpec.ofChange fewestWrong)

/-- 'hostelkeep.Telling': WHATEVER THE INPUT: true; the input reads as it did. -/
def tellingSpec : ChangeSpec := { name := "telling", fn := fun _ => fun
  | [d1, d2, d3, d4] => { results := [.lit (.bool true)], args := [d1, d2, d3, d4] }
  | _ => none }
def tellingRow : OpenClaim := { program := "ytcaeeaiodbjacaa", sum := "cbce3030df75a93b4241063669774080b1f5e3bd2a98f53cb7857dc2356da42a", func := "hostel/hostelkeep.Telling", spec := "telling", apart := false }
def TellingSaid : Prop := tellingRow.holds Try.pinned (OpenSpec.ofChange tellingSpec)

/-- ITS FALSE NEIGHBOUR: 'it returns false'. Refute it at one input. -/
def tellingWrong : ChangeSpec := { name := "telling", fn := fun _ => fun
  | [d1, d2, d3, d4] => { results := [.lit (.bool false)], args := [d1, d2, d3, d4] }
  | _ => none }
def TellingWrongFalsely : Prop := tellingRow.holds Try.pinned (OpenSpec.ofChange tellingWrong)

/- THE SECOND FORM. 'bulk': how many values and letters a reading holds, each counted each time it is reached (what is shared counts as often as it is met; a slice's spare places count too). A statement '..UptoSaid' is the law's where the arguments, and the package variables that the reading takes, are together of bulk at most 1048576: NARROWER than '..Said'. Prove '..Said' where nothing that the law and all that it calls make is longer than what came in: it says more and counts as full. Else prove '..UptoSaid'. A law counts once. -/
mutual
def uptoBulk {H : Type} : DataW H → Nat
  | .lit (.string bytes) => bytes.length + 1
  | .lit _ => 1
  | .nil => 1
  | .ptr d => uptoBulk d + 1
  | .slice elems spare => uptoBulkAll elems + uptoBulkAll spare + 1
  | .agg parts => uptoBulkAll parts + 1
  | .iface _ d => uptoBulk d + 1
  | .map entries => uptoBulkEntries entries + 1
  | .held _ => 1
def uptoBulkAll {H : Type} : List (DataW H) → Nat
  | [] => 0
  | d :: r => uptoBulk d + uptoBulkAll r
def uptoBulkEntries {H : Type} : List (Lit × DataW H) → Nat
  | [] => 0
  | x :: r => uptoBulkEntry x + uptoBulkEntries r
def uptoBulkEntry {H : Type} : Lit × DataW H → Nat
  | (.string bytes, d) => bytes.length + uptoBulk d + 1
  | (_, d) => uptoBulk d + 1
 end
def uptoSmall : (H : Type) → List (DataW H) → Bool := fun _ ds => decide (uptoBulkAll ds ≤ 1048576)
def OpenSpec.upto (s : _root_.Go.ChangeSpec) : _root_.Go.OpenSpec := { _root_.Go.OpenSpec.ofChange s with cond := some uptoSmall }

/-- 'hostellaw.Plans', WHERE WHAT IT READS IS OF BULK AT MOST 1048576: true; the input reads as it did. -/
def plansUptoRow : OpenClaim := { program := "ytcaeeaiodbjacaa", sum := "cbce3030df75a93b4241063669774080b1f5e3bd2a98f53cb7857dc2356da42a", func := "hostel/hostellaw.Plans", spec := "plans", apart := false, narrowed := true }
def PlansUptoSaid : Prop := plansUptoRow.holds Try.pinned (OpenSpec.upto plansSpec)

/-- 'hostellaw.Patches', WHERE WHAT IT READS IS OF BULK AT MOST 1048576: true; the input reads as it did. -/
def patchesUptoRow : OpenClaim := { program := "ytcaeeaiodbjacaa", sum := "cbce3030df75a93b4241063669774080b1f5e3bd2a98f53cb7857dc2356da42a", func := "hostel/hostellaw.Patches", spec := "patches", apart := false, narrowed := true }
def PatchesUptoSaid : Prop := patchesUptoRow.holds Try.pinned (OpenSpec.upto patchesSpec)

/-- 'hostellaw.Diffs', WHERE WHAT IT READS IS OF BULK AT MOST 1048576: true; the input reads as it did. -/
def diffsUptoRow : OpenClaim := { program := "ytcaeeaiodbjacaa", sum := "cbce3030df75a93b4241063669774080b1f5e3bd2a98f53cb7857dc2356da42a", func := "hostel/hostellaw.Diffs", spec := "diffs", apart := false, narrowed := true }
def DiffsUptoSaid : Prop := diffsUptoRow.holds Try.pinned (OpenSpec.upto diffsSpec)

/-- 'hostellaw.Marks', WHERE WHAT IT READS IS OF BULK AT MOST 1048576: true; the input reads as it did. -/
def marksUptoRow : OpenClaim := { program := "ytcaeeaiodbjacaa", sum := "cbce3030df75a93b4241063669774080b1f5e3bd2a98f53cb7857dc2356da42a", func := "hostel/hostellaw.Marks", spec := "marks", apart := false, narrowed := true }
def MarksUptoSaid : Prop := marksUptoRow.holds Try.pinned (OpenSpec.upto marksSpec)

/-- 'hostelkeep.Lasting', WHERE WHAT IT READS IS OF BULK AT MOST 1048576: true; the input reads as it did. -/
def lastingUptoRow : OpenClaim := { program := "ytcaeeaiodbjacaa", sum := "cbce3030df75a93b4241063669774080b1f5e3bd2a98f53cb7857dc2356da42a", func := "hostel/hostelkeep.Lasting", spec := "lasting", apart := false, narrowed := true }
def LastingUptoSaid : Prop := lastingUptoRow.holds Try.pinned (OpenSpec.upto lastingSpec)

/-- 'hostelkeep.Fewest', WHERE WHAT IT READS IS OF BULK AT MOST 1048576: true; the input reads as it did. -/
def fewestUptoRow : OpenClaim := { program := "ytcaeeaiodbjacaa", sum := "cbce3030df75a93b4241063669774080b1f5e3bd2a98f53cb7857dc2356da42a", func := "hostel/hostelkeep.Fewest", spec := "fewest", apart := false, narrowed := true }
def FewestUptoSaid : Prop := fewestUptoRow.holds Try.pinned (OpenSpec.upto fewestSpec)

/-- 'hostelkeep.Telling', WHERE WHAT IT READS IS OF BULK AT MOST 1048576: true; the input reads as it did. -/
def tellingUptoRow : OpenClaim := { program := "ytcaeeaiodbjacaa", sum := "cbce3030df75a93b4241063669774080b1f5e3bd2a98f53cb7857dc2356da42a", func := "hostel/hostelkeep.Telling", spec := "telling", apart := false, narrowed := true }
def TellingUptoSaid : Prop := tellingUptoRow.holds Try.pinned (OpenSpec.upto tellingSpec)

end Rows
end Go.Proofs.Ytcaeeaiodbjacaa
