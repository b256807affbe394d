/-
  No cell of these rows narrows 'for every input' (looked for: loops, veiled, ifaces, maps, wideKeys, modest, calm, conditions, laid).
  DERIVED. THE GIVEN ROWS OF THIS SEAT. 10 by the template 'for every input the law returns true; each argument reads behind the call as it read before'; 0 by the template 'total and deterministic' (their statements: YtgladedjgjhlaaaTotals.lean).
  GIVEN WITH THE SEED: the statements are not yours to turn. If you find one false, say at which input.
  Laid BY PROGRAM, IN A SANDBOX (cutbox-rows.mjs): the forced cells as the released guide's own fill.sh prints them over the translation 203c9f0e7ca4ee62… (all of the seat's roots in one cut). By AI agents, Wed Nov 11 2026. No macro, syntax, notation, axiom, sorry.
-/
import Derived.Test.YtgladedjgjhlaaaChecked
import GoSem.Claim
import GoSem.ClaimJoined
import GoSem.ClaimMapViews
import Derived.JoinedTies
import Derived.KernelRfl
namespace Go.Proofs.Ytgladedjgjhlaaa
/- THE CELL 'sum', in the pinned program and in every row, IS THE sha256 OF THE DUMP (.gsa) THAT YtgladedjgjhlaaaProg.lean LOADS. Nothing in Lean hashes anything: it is a label: what it is worth is what the hold of that sum in a sandbox is worth. -/
noncomputable def Try.pinned : Pinned := { name := "ytgladedjgjhlaaa", sum := "203c9f0e7ca4ee62d3b278f406f4b65da7678a13b140bbfd02f191b6f4028663", checked := Try.checked }
namespace Rows
def none {H : Type} : Left H := { results := [], args := [] }

/-- 'custumallaw10.DiskNews': WHATEVER THE INPUT: true; the input reads as it did. -/
def diskNewsSpec : ChangeSpec := { name := "diskNews", fn := fun _ => fun
  | [d] => { results := [.lit (.bool true)], args := [d] }
  | _ => none }
def diskNewsRow : OpenClaim := { program := "ytgladedjgjhlaaa", sum := "203c9f0e7ca4ee62d3b278f406f4b65da7678a13b140bbfd02f191b6f4028663", func := "custumal/custumallaw10.DiskNews", spec := "diskNews", apart := false }
def DiskNewsSaid : Prop := diskNewsRow.holds Try.pinned (OpenSpec.ofChange diskNewsSpec)

/-- ITS FALSE NEIGHBOUR: 'it returns false'. Refute it at one input. -/
def diskNewsWrong : ChangeSpec := { name := "diskNews", fn := fun _ => fun
  | [d] => { results := [.lit (.bool false)], args := [d] }
  | _ => none }
def DiskNewsWrongFalsely : Prop := diskNewsRow.holds Try.pinned (OpenSpec.ofChange diskNewsWrong)

/-- 'custumallaw10.DiskJobs': WHATEVER THE INPUT: true; the input reads as it did. -/
def diskJobsSpec : ChangeSpec := { name := "diskJobs", fn := fun _ => fun
  | [d1, d2] => { results := [.lit (.bool true)], args := [d1, d2] }
  | _ => none }
def diskJobsRow : OpenClaim := { program := "ytgladedjgjhlaaa", sum := "203c9f0e7ca4ee62d3b278f406f4b65da7678a13b140bbfd02f191b6f4028663", func := "custumal/custumallaw10.DiskJobs", spec := "diskJobs", apart := false }
def DiskJobsSaid : Prop := diskJobsRow.holds Try.pinned (OpenSpec.ofChange diskJobsSpec)

/-- ITS FALSE NEIGHBOUR: 'it returns false'. Refute it at one input. -/
def diskJobsWrong : ChangeSpec := { name := "diskJobs", fn := fun _ => fun
  | [d1, d2] => { results := [.lit (.bool false)], args := [d1, d2] }
  | _ => none }
def DiskJobsWrongFalsely : Prop := diskJobsRow.holds Try.pinned (OpenSpec.ofChange diskJobsWrong)

/-- 'custumallaw10.DiskLasts': WHATEVER THE INPUT: true; the input reads as it did. -/
def diskLastsSpec : ChangeSpec := { name := "diskLasts", fn := fun _ => fun
  | [d1, d2, d3] => { results := [.lit (.bool true)], args := [d1, d2, d3] }
  | _ => none }
def diskLastsRow : OpenClaim := { program := "ytgladedjgjhlaaa", sum := "203c9f0e7ca4ee62d3b278f406f4b65da7678a13b140bbfd02f191b6f4028663", func := "custumal/custumallaw10.DiskLasts", spec := "diskLasts", apart := false }
def DiskLastsSaid : Prop := diskLastsRow.holds Try.pinned (OpenSpec.ofChange diskLastsSpec)

/-- ITS FALSE NEIGHBOUR: 'it returns false'. Refute it at one input. -/
def diskLastsWrong : ChangeSpec := { name := "diskLasts", fn := fun _ => fun
  | [d1, d2, d3] => { results := [.lit (.bool false)], args := [d1, d2, d3] }
  | _ => none }
def DiskLastsWrongFalsely : Prop := diskLastsRow.holds Try.pinned (OpenSpec.ofChange diskLastsWrong)

/-- 'custumallaw11.JournalNews': WHATEVER THE INPUT: true; the input reads as it did. -/
def journalNewsSpec : ChangeSpec := { name := "journalNews", fn := fun _ => fun
  | [d1, d2, d3] => { results := [.lit (.bool true)], args := [d1, d2, d3] }
  | _ => none }
def journalNewsRow : OpenClaim := { program := "ytgladedjgjhlaaa", sum := "203c9f0e7ca4ee62d3b278f406f4b65da7678a13b140bbfd02f191b6f4028663", func := "custumal/custumallaw11.JournalNews", spec := "journalNews", unfollowed := true, recurses := true, apart := false }
def JournalNewsSaid : Prop := journalNewsRow.holds Try.pinned (OpenSpec.ofChange journalNewsSpec)

/-- ITS FALSE NEIGHBOUR: 'it returns false'. Refute it at one input. -/
def journalNewsWrong : ChangeSpec := { name := "journalNews", fn := fun _ => fun
  | [d1, d2, d3] => { results := [.lit (.bool false)], args := [d1, d2, d3] }
  | _ => none }
def JournalNewsWrongFalsely : Prop := journalNewsRow.holds Try.pinned (OpenSpec.ofChange journalNewsWrong)

/-- 'custumallaw12.ExtentAreas': WHATEVER THE INPUT: true; the input reads as it did. -/
def extentAreasSpec : ChangeSpec := { name := "extentAreas", fn := fun _ => fun
  | [d1, d2, d3] => { results := [.lit (.bool true)], args := [d1, d2, d3] }
  | _ => none }
def extentAreasRow : OpenClaim := { program := "ytgladedjgjhlaaa", sum := "203c9f0e7ca4ee62d3b278f406f4b65da7678a13b140bbfd02f191b6f4028663", func := "custumal/custumallaw12.ExtentAreas", spec := "extentAreas", apart := false }
def ExtentAreasSaid : Prop := extentAreasRow.holds Try.pinned (OpenSpec.ofChange extentAreasSpec)

/-- ITS FALSE NEIGHBOUR: 'it returns false'. Refute it at one input. -/
def extentAreasWrong : ChangeSpec := { name := "extentAreas", fn := fun _ => fun
  | [d1, d2, d3] => { results := [.lit (.bool false)], args := [d1, d2, d3] }
  | _ => none }
def ExtentAreasWrongFalsely : Prop := extentAreasRow.holds Try.pinned (OpenSpec.ofChange extentAreasWrong)

/-- 'custumallaw12.ExtentZeros': WHATEVER THE INPUT: true; the input reads as it did. -/
def extentZerosSpec : ChangeSpec := { name := "extentZeros", fn := fun _ => fun
  | [d1, d2, d3] => { results := [.lit (.bool true)], args := [d1, d2, d3] }
  | _ => none }
def extentZerosRow : OpenClaim := { program := "ytgladedjgjhlaaa", sum := "203c9f0e7ca4ee62d3b278f406f4b65da7678a13b140bbfd02f191b6f4028663", func := "custumal/custumallaw12.ExtentZeros", spec := "extentZeros", apart := false }
def ExtentZerosSaid : Prop := extentZerosRow.holds Try.pinned (OpenSpec.ofChange extentZerosSpec)

/-- ITS FALSE NEIGHBOUR: 'it returns false'. Refute it at one input. -/
def extentZerosWrong : ChangeSpec := { name := "extentZeros", fn := fun _ => fun
  | [d1, d2, d3] => { results := [.lit (.bool false)], args := [d1, d2, d3] }
  | _ => none }
def ExtentZerosWrongFalsely : Prop := extentZerosRow.holds Try.pinned (OpenSpec.ofChange extentZerosWrong)

/-- 'custumallaw12.ExtentCuts': WHATEVER THE INPUT: true; the input reads as it did. -/
def extentCutsSpec : ChangeSpec := { name := "extentCuts", fn := fun _ => fun
  | [d1, d2, d3] => { results := [.lit (.bool true)], args := [d1, d2, d3] }
  | _ => none }
def extentCutsRow : OpenClaim := { program := "ytgladedjgjhlaaa", sum := "203c9f0e7ca4ee62d3b278f406f4b65da7678a13b140bbfd02f191b6f4028663", func := "custumal/custumallaw12.ExtentCuts", spec := "extentCuts", apart := false }
def ExtentCutsSaid : Prop := extentCutsRow.holds Try.pinned (OpenSpec.ofChange extentCutsSpec)

/-- ITS FALSE NEIGHBOUR: 'it returns false'. Refute it at one input. -/
def extentCutsWrong : ChangeSpec := { name := "extentCuts", fn := fun _ => fun
  | [d1, d2, d3] => { results := [.lit (.bool false)], args := [d1, d2, d3] }
  | _ => none }
def ExtentCutsWrongFalsely : Prop := extentCutsRow.holds Try.pinned (OpenSpec.ofChange extentCutsWrong)

/-- 'custumallaw13.PathBits': WHATEVER THE INPUT: true; the input reads as it did. -/
def pathBitsSpec : ChangeSpec := { name := "pathBits", fn := fun _ => fun
  | [d1, d2, d3] => { results := [.lit (.bool true)], args := [d1, d2, d3] }
  | _ => none }
def pathBitsRow : OpenClaim := { program := "ytgladedjgjhlaaa", sum := "203c9f0e7ca4ee62d3b278f406f4b65da7678a13b140bbfd02f191b6f4028663", func := "custumal/custumallaw13.PathBits", spec := "pathBits", apart := false }
def PathBitsSaid : Prop := pathBitsRow.holds Try.pinned (OpenSpec.ofChange pathBitsSpec)

/-- ITS FALSE NEIGHBOUR: 'it returns false'. Refute it at one input. -/
def pathBitsWrong : ChangeSpec := { name := "pathBits", fn := fun _ => fun
  | [d1, d2, d3] => { results := [.lit (.bool false)], args := [d1, d2, d3] }
  | _ => none }
def PathBitsWrongFalsely : Prop := pathBitsRow.holds Try.pinned (OpenSpec.ofChange pathBitsWrong)

/-- 'custumallaw13.PathSorts': WHATEVER THE INPUT: true; the input reads as it did. -/
def pathSortsSpec : ChangeSpec := { name := "pathSorts", fn := fun _ => fun
  | [d] => { results := [.lit (.bool true)], args := [d] }
  | _ => none }
def pathSortsRow : OpenClaim := { program := "ytgladedjgjhlaaa", sum := "203c9f0e7ca4ee62d3b278f406f4b65da7678a13b140bbfd02f191b6f4028663", func := "custumal/custumallaw13.PathSorts", spec := "pathSorts", unfollowed := true, recurses := true, apart := false }
def PathSortsSaid : Prop := pathSortsRow.holds Try.pinned (OpenSpec.ofChange pathSortsSpec)

/-- ITS FALSE NEIGHBOUR: 'it returns false'. Refute it at one input. -/
def pathSortsWrong : ChangeSpec := { name := "pathSorts", fn := fun _ => fun
  | [d] => { results := [.lit (.bool false)], args := [d] }
  | _ => none }
def PathSortsWrongFalsely : Prop := pathSortsRow.holds Try.pinned (OpenSpec.ofChange pathSortsWrong)

/-- 'custumallaw13.PathThree': WHATEVER THE INPUT: true; the input reads as it did. -/
def pathThreeSpec : ChangeSpec := { name := "pathThree", fn := fun _ => fun
  | [d1, d2, d3] => { results := [.lit (.bool true)], args := [d1, d2, d3] }
  | _ => none }
def pathThreeRow : OpenClaim := { program := "ytgladedjgjhlaaa", sum := "203c9f0e7ca4ee62d3b278f406f4b65da7678a13b140bbfd02f191b6f4028663", func := "custumal/custumallaw13.PathThree", spec := "pathThree", apart := false }
def PathThreeSaid : Prop := pathThreeRow.holds Try.pinned (OpenSpec.ofChange pathThreeSpec)

/-- ITS FALSE NEIGHBOUR: 'it returns false'. Refute it at one input. -/
def pathThreeWrong : ChangeSpec := { name := "pathThree", fn := fun _ => fun
  | [d1, d2, d3] => { results := [.lit (.bool false)], args := [d1, d2, d3] }
  | _ => none }
def PathThreeWrongFalsely : Prop := pathThreeRow.holds Try.pinned (OpenSpec.ofChange pathThreeWrong)

/- THE SECOND FORM. 'bulk': how many values and letters a reading holds, each counted each time it is reached (what is shared counts as often as it is met; a slice's spare places count too). A statement '..UptoSaid' is the law's where the arguments, and the package variables that the reading takes, are together of bulk at most 1048576: NARROWER than '..Said'. Prove '..Said' where nothing that the law and all that it calls make is longer than what came in: it says more and counts as full. Else prove '..UptoSaid'. A law counts once. -/
mutual
def uptoBulk {H : Type} : DataW H → Nat
  | .lit (.string bytes) => bytes.length + 1
  | .lit _ => 1
  | .nil => 1
  | .ptr d => uptoBulk d + 1
  | .slice elems spare => uptoBulkAll elems + uptoBulkAll spare + 1
  | .agg parts => uptoBulkAll parts + 1
  | .iface _ d => uptoBulk d + 1
  | .map entries => uptoBulkEntries entries + 1
  | .held _ => 1
def uptoBulkAll {H : Type} : List (DataW H) → Nat
  | [] => 0
  | d :: r => uptoBulk d + uptoBulkAll r
def uptoBulkEntries {H : Type} : List (Lit × DataW H) → Nat
  | [] => 0
  | x :: r => uptoBulkEntry x + uptoBulkEntries r
def uptoBulkEntry {H : Type} : Lit × DataW H → Nat
  | (.string bytes, d) => bytes.length + uptoBulk d + 1
  | (_, d) => uptoBulk d + 1
 end
def uptoSmall : (H : Type) → List (DataW H) → Bool := fun _ ds => decide (uptoBulkAll ds ≤ 1048576)
def OpenSpec.upto (s : _root_.Go.ChangeSpec) : _root_.Go.OpenSpec := { _root_.Go.OpenSpec.ofChange s with cond := some uptoSmall }

/-- 'custumallaw10.DiskNews', WHERE WHAT IT READS IS OF BULK AT MOST 1048576: true; the input reads as it did. -/
def diskNewsUptoRow : OpenClaim := { program := "ytgladedjgjhlaaa", sum := "203c9f0e7ca4ee62d3b278f406f4b65da7678a13b140bbfd02f191b6f4028663", func := "custumal/custumallaw10.DiskNews", spec := "diskNews", apart := false, narrowed := true }
def DiskNewsUptoSaid : Prop := diskNewsUptoRow.holds Try.pinned (OpenSpec.upto diskNewsSpec)

/-- 'custumallaw10.DiskJobs', WHERE WHAT IT READS IS OF BULK AT MOST 1048576: true; the input reads as it did. -/
def diskJobsUptoRow : OpenClaim := { program := "ytgladedjgjhlaaa", sum := "203c9f0e7ca4ee62d3b278f406f4b65da7678a13b140bbfd02f191b6f4028663", func := "custumal/custumallaw10.DiskJobs", spec := "diskJobs", apart := false, narrowed := true }
def DiskJobsUptoSaid : Prop := diskJobsUptoRow.holds Try.pinned (OpenSpec.upto diskJobsSpec)

/-- 'custumallaw10.DiskLasts', WHERE WHAT IT READS IS OF BULK AT MOST 1048576: true; the input reads as it did. -/
def diskLastsUptoRow : OpenClaim := { program := "ytgladedjgjhlaaa", sum := "203c9f0e7ca4ee62d3b278f406f4b65da7678a13b140bbfd02f191b6f4028663", func := "custumal/custumallaw10.DiskLasts", spec := "diskLasts", apart := false, narrowed := true }
def DiskLastsUptoSaid : Prop := diskLastsUptoRow.holds Try.pinned (OpenSpec.upto diskLastsSpec)

/-- 'custumallaw11.JournalNews', WHERE WHAT IT READS IS OF BULK AT MOST 1048576: true; the input reads as it did. -/
def journalNewsUptoRow : OpenClaim := { program := "ytgladedjgjhlaaa", sum := "203c9f0e7ca4ee62d3b278f406f4b65da7678a13b140bbfd02f191b6f4028663", func := "custumal/custumallaw11.JournalNews", spec := "journalNews", unfollowed := true, recurses := true, apart := false, narrowed := true }
def JournalNewsUptoSaid : Prop := journalNewsUptoRow.holds Try.pinned (OpenSpec.upto journalNewsSpec)

/-- 'custumallaw12.ExtentAreas', WHERE WHAT IT READS IS OF BULK AT MOST 1048576: true; the input reads as it did. -/
def extentAreasUptoRow : OpenClaim := { program := "ytgladedjgjhlaaa", sum := "203c9f0e7ca4ee62d3b278f406f4b65da7678a13b140bbfd02f191b6f4028663", func := "custumal/custumallaw12.ExtentAreas", spec := "extentAreas", apart := false, narrowed := true }
def ExtentAreasUptoSaid : Prop := extentAreasUptoRow.holds Try.pinned (OpenSpec.upto extentAreasSpec)

/-- 'custumallaw12.ExtentZeros', WHERE WHAT IT READS IS OF BULK AT MOST 1048576: true; the input reads as it did. -/
def extentZerosUptoRow : OpenClaim := { program := "ytgladedjgjhlaaa", sum := "203c9f0e7ca4ee62d3b278f406f4b65da7678a13b140bbfd02f191b6f4028663", func := "custumal/custumallaw12.ExtentZeros", spec := "extentZeros", apart := false, narrowed := true }
def ExtentZerosUptoSaid : Prop := extentZerosUptoRow.holds Try.pinned (OpenSpec.upto extentZerosSpec)

/-- 'custumallaw12.ExtentCuts', WHERE WHAT IT READS IS OF BULK AT MOST 1048576: true; the input reads as it did. -/
def extentCutsUptoRow : OpenClaim := { program := "ytgladedjgjhlaaa", sum := "203c9f0e7ca4ee62d3b278f406f4b65da7678a13b140bbfd02f191b6f4028663", func := "custumal/custumallaw12.ExtentCuts", spec := "extentCuts", apart := false, narrowed := true }
def ExtentCutsUptoSaid : Prop := extentCutsUptoRow.holds Try.pinned (OpenSpec.upto extentCutsSpec)

/-- 'custumallaw13.PathBits', WHERE WHAT IT READS IS OF BULK AT MOST 1048576: true; the input reads as it did. -/
def pathBitsUptoRow : OpenClaim := { program := "ytgladedjgjhlaaa", sum := "203c9f0e7ca4ee62d3b278f406f4b65da7678a13b140bbfd02f191b6f4028663", func := "custumal/custumallaw13.PathBits", spec := "pathBits", apart := false, narrowed := true }
def PathBitsUptoSaid : Prop := pathBitsUptoRow.holds Try.pinned (OpenSpec.upto pathBitsSpec)

/-- 'custumallaw13.PathSorts', WHERE WHAT IT READS IS OF BULK AT MOST 1048576: true; the input reads as it did. -/
def pathSortsUptoRow : OpenClaim := { program := "ytgladedjgjhlaaa", sum := "203c9f0e7ca4ee62d3b278f406f4b65da7678a13b140bbfd02f191b6f4028663", func := "custumal/custumallaw13.PathSorts", spec := "pathSorts", unfollowed := true, recurses := true, apart := false, narrowed := true }
def PathSortsUptoSaid : Prop := pathSortsUptoRow.holds Try.pinned (OpenSpec.upto pathSortsSpec)

/-- 'custumallaw13.PathThree', WHERE WHAT IT READS IS OF BULK AT MOST 1048576: true; the input reads as it did. -/
def pathThreeUptoRow : OpenClaim := { program := "ytgladedjgjhlaaa", sum := "203c9f0e7ca4ee62d3b278f406f4b65da7678a13b140bbfd02f191b6f4028663", func := "custumal/custumallaw13.PathThree", spec := "pathThree", apart := false, narrowed := true }
def PathThreeUptoSaid : Prop := pathThreeUptoRow.holds Try.pinned (OpenSpec.upto pathThreeSpec)

end Rows
end Go.Proofs.Ytgladedjgjhlaaa
