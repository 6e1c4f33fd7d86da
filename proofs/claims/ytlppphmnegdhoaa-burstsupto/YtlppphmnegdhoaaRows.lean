/-
  No cell of these rows narrows 'for every input' (looked for: loops, veiled, ifaces, maps, wideKeys, modest, calm, conditions, laid).
  DERIVED. THE GIVEN ROWS OF THIS SEAT. 12 by the template 'for every input the law returns true; each argument reads behind the call as it read before'; 0 by the template 'total and deterministic' (their statements: YtlppphmnegdhoaaTotals.lean).
  GIVEN WITH THE SEED: the statements are not yours to turn. If you find one false, say at which input.
  Laid BY PROGRAM, IN A SANDBOX (cutbox-rows.mjs): the forced cells as the released guide's own fill.sh prints them over the translation 6eefd78e48374065… (all of the seat's roots in one cut). By AI agents, Wed Nov 11 2026. No macro, syntax, notation, axiom, sorry.
-/
import Derived.Test.YtlppphmnegdhoaaChecked
import GoSem.Claim
import GoSem.ClaimJoined
import GoSem.ClaimMapViews
import Derived.JoinedTies
import Derived.KernelRfl
namespace Go.Proofs.Ytlppphmnegdhoaa
/- THE CELL 'sum', in the pinned program and in every row, IS THE sha256 OF THE DUMP (.gsa) THAT YtlppphmnegdhoaaProg.lean LOADS. Nothing in Lean hashes anything: it is a label: what it is worth is what the hold of that sum in a sandbox is worth. -/
noncomputable def Try.pinned : Pinned := { name := "ytlppphmnegdhoaa", sum := "6eefd78e4837406598e18d79fcbc076983d2263a8eda9b398a5435f7683bef57", checked := Try.checked }
namespace Rows
def none {H : Type} : Left H := { results := [], args := [] }

/-- 'retracelaw.Writes': WHATEVER THE INPUT: true; the input reads as it did. -/
def writesSpec : ChangeSpec := { name := "writes", fn := fun _ => fun
  | [d1, d2, d3] => { results := [.lit (.bool true)], args := [d1, d2, d3] }
  | _ => none }
def writesRow : OpenClaim := { program := "ytlppphmnegdhoaa", sum := "6eefd78e4837406598e18d79fcbc076983d2263a8eda9b398a5435f7683bef57", func := "retrace/retracelaw.Writes", spec := "writes", apart := false }
def WritesSaid : Prop := writesRow.holds Try.pinned (OpenSpec.ofChange writesSpec)

/-- ITS FALSE NEIGHBOUR: 'it returns false'. Refute it at one input. -/
def writesWrong : ChangeSpec := { name := "writes", fn := fun _ => fun
  | [d1, d2, d3] => { results := [.lit (.bool false)], args := [d1, d2, d3] }
  | _ => none }
def WritesWrongFalsely : Prop := writesRow.holds Try.pinned (OpenSpec.ofChange writesWrong)

/-- 'retracelaw.Reads': WHATEVER THE INPUT: true; the input reads as it did. -/
def readsSpec : ChangeSpec := { name := "reads", fn := fun _ => fun
  | [d] => { results := [.lit (.bool true)], args := [d] }
  | _ => none }
def readsRow : OpenClaim := { program := "ytlppphmnegdhoaa", sum := "6eefd78e4837406598e18d79fcbc076983d2263a8eda9b398a5435f7683bef57", func := "retrace/retracelaw.Reads", spec := "reads", apart := false }
def ReadsSaid : Prop := readsRow.holds Try.pinned (OpenSpec.ofChange readsSpec)

/-- ITS FALSE NEIGHBOUR: 'it returns false'. Refute it at one input. -/
def readsWrong : ChangeSpec := { name := "reads", fn := fun _ => fun
  | [d] => { results := [.lit (.bool false)], args := [d] }
  | _ => none }
def ReadsWrongFalsely : Prop := readsRow.holds Try.pinned (OpenSpec.ofChange readsWrong)

/-- 'retracelaw.Undoes': WHATEVER THE INPUT: true; the input reads as it did. -/
def undoesSpec : ChangeSpec := { name := "undoes", fn := fun _ => fun
  | [d1, d2] => { results := [.lit (.bool true)], args := [d1, d2] }
  | _ => none }
def undoesRow : OpenClaim := { program := "ytlppphmnegdhoaa", sum := "6eefd78e4837406598e18d79fcbc076983d2263a8eda9b398a5435f7683bef57", func := "retrace/retracelaw.Undoes", spec := "undoes", apart := false }
def UndoesSaid : Prop := undoesRow.holds Try.pinned (OpenSpec.ofChange undoesSpec)

/-- ITS FALSE NEIGHBOUR: 'it returns false'. Refute it at one input. -/
def undoesWrong : ChangeSpec := { name := "undoes", fn := fun _ => fun
  | [d1, d2] => { results := [.lit (.bool false)], args := [d1, d2] }
  | _ => none }
def UndoesWrongFalsely : Prop := undoesRow.holds Try.pinned (OpenSpec.ofChange undoesWrong)

/-- 'retracekeep.Carried': WHATEVER THE INPUT: true; the input reads as it did. -/
def carriedSpec : ChangeSpec := { name := "carried", fn := fun _ => fun
  | [d1, d2] => { results := [.lit (.bool true)], args := [d1, d2] }
  | _ => none }
def carriedRow : OpenClaim := { program := "ytlppphmnegdhoaa", sum := "6eefd78e4837406598e18d79fcbc076983d2263a8eda9b398a5435f7683bef57", func := "retrace/retracekeep.Carried", spec := "carried", apart := false }
def CarriedSaid : Prop := carriedRow.holds Try.pinned (OpenSpec.ofChange carriedSpec)

/-- ITS FALSE NEIGHBOUR: 'it returns false'. Refute it at one input. -/
def carriedWrong : ChangeSpec := { name := "carried", fn := fun _ => fun
  | [d1, d2] => { results := [.lit (.bool false)], args := [d1, d2] }
  | _ => none }
def CarriedWrongFalsely : Prop := carriedRow.holds Try.pinned (OpenSpec.ofChange carriedWrong)

/-- 'retracelaw.Packs': WHATEVER THE INPUT: true; the input reads as it did. -/
def packsSpec : ChangeSpec := { name := "packs", fn := fun _ => fun
  | [d] => { results := [.lit (.bool true)], args := [d] }
  | _ => none }
def packsRow : OpenClaim := { program := "ytlppphmnegdhoaa", sum := "6eefd78e4837406598e18d79fcbc076983d2263a8eda9b398a5435f7683bef57", func := "retrace/retracelaw.Packs", spec := "packs", apart := false }
def PacksSaid : Prop := packsRow.holds Try.pinned (OpenSpec.ofChange packsSpec)

/-- ITS FALSE NEIGHBOUR: 'it returns false'. Refute it at one input. -/
def packsWrong : ChangeSpec := { name := "packs", fn := fun _ => fun
  | [d] => { results := [.lit (.bool false)], args := [d] }
  | _ => none }
def PacksWrongFalsely : Prop := packsRow.holds Try.pinned (OpenSpec.ofChange packsWrong)

/-- 'retracelaw.Joins': WHATEVER THE INPUT: true; the input reads as it did. -/
def joinsSpec : ChangeSpec := { name := "joins", fn := fun _ => fun
  | [d1, d2] => { results := [.lit (.bool true)], args := [d1, d2] }
  | _ => none }
def joinsRow : OpenClaim := { program := "ytlppphmnegdhoaa", sum := "6eefd78e4837406598e18d79fcbc076983d2263a8eda9b398a5435f7683bef57", func := "retrace/retracelaw.Joins", spec := "joins", apart := false }
def JoinsSaid : Prop := joinsRow.holds Try.pinned (OpenSpec.ofChange joinsSpec)

/-- ITS FALSE NEIGHBOUR: 'it returns false'. Refute it at one input. -/
def joinsWrong : ChangeSpec := { name := "joins", fn := fun _ => fun
  | [d1, d2] => { results := [.lit (.bool false)], args := [d1, d2] }
  | _ => none }
def JoinsWrongFalsely : Prop := joinsRow.holds Try.pinned (OpenSpec.ofChange joinsWrong)

/-- 'retracekeep.Bursts': WHATEVER THE INPUT: true; the input reads as it did. -/
def burstsSpec : ChangeSpec := { name := "bursts", fn := fun _ => fun
  | [d1, d2, d3, d4] => { results := [.lit (.bool true)], args := [d1, d2, d3, d4] }
  | _ => none }
def burstsRow : OpenClaim := { program := "ytlppphmnegdhoaa", sum := "6eefd78e4837406598e18d79fcbc076983d2263a8eda9b398a5435f7683bef57", func := "retrace/retracekeep.Bursts", spec := "bursts", apart := false }
def BurstsSaid : Prop := burstsRow.holds Try.pinned (OpenSpec.ofChange burstsSpec)

/-- ITS FALSE NEIGHBOUR: 'it returns false'. Refute it at one input. -/
def burstsWrong : ChangeSpec := { name := "bursts", fn := fun _ => fun
  | [d1, d2, d3, d4] => { results := [.lit (.bool false)], args := [d1, d2, d3, d4] }
  | _ => none }
def BurstsWrongFalsely : Prop := burstsRow.holds Try.pinned (OpenSpec.ofChange burstsWrong)

/-- 'retracekeep.Cuts': WHATEVER THE INPUT: true; the input reads as it did. -/
def cutsSpec : ChangeSpec := { name := "cuts", fn := fun _ => fun
  | [d1, d2, d3, d4] => { results := [.lit (.bool true)], args := [d1, d2, d3, d4] }
  | _ => none }
def cutsRow : OpenClaim := { program := "ytlppphmnegdhoaa", sum := "6eefd78e4837406598e18d79fcbc076983d2263a8eda9b398a5435f7683bef57", func := "retrace/retracekeep.Cuts", spec := "cuts", apart := false }
def CutsSaid : Prop := cutsRow.holds Try.pinned (OpenSpec.ofChange cutsSpec)

/-- ITS FALSE NEIGHBOUR: 'it returns false'. Refute it at one input. -/
def cutsWrong : ChangeSpec := { name := "cuts", fn := fun _ => fun
  | [d1, d2, d3, d4] => { results := [.lit (.bool false)], args := [d1, d2, d3, d4] }
  | _ => none }
def CutsWrongFalsely : Prop := cutsRow.holds Try.pinned (OpenSpec.ofChange cutsWrong)

/-- 'retracekeep.Packed': WHATEVER THE INPUT: true; the input reads as it did. -/
def packedSpec : ChangeSpec := { name := "packed", fn := fun _ => fun
  | [d1, d2, d3] => { results := [.lit (.bool true)], args := [d1, d2, d3] }
  | _ => none }
def packedRow : OpenClaim := { program := "ytlppphmnegdhoaa", sum := "6eefd78e4837406598e18d79fcbc076983d2263a8eda9b398a5435f7683bef57", func := "retrace/retracekeep.Packed", spec := "packed", apart := false }
def PackedSaid : Prop := packedRow.holds Try.pinned (OpenSpec.ofChange packedSpec)

/-- ITS FALSE NEIGHBOUR: 'it returns false'. Refute it at one input. -/
def packedWrong : ChangeSpec := { name := "packed", fn := fun _ => fun
  | [d1, d2, d3] => { results := [.lit (.bool false)], args := [d1, d2, d3] }
  | _ => none }
def PackedWrongFalsely : Prop := packedRow.holds Try.pinned (OpenSpec.ofChange packedWrong)

/-- 'retracekeep.Joined': WHATEVER THE INPUT: true; the input reads as it did. -/
def joinedSpec : ChangeSpec := { name := "joined", fn := fun _ => fun
  | [d1, d2, d3] => { results := [.lit (.bool true)], args := [d1, d2, d3] }
  | _ => none }
def joinedRow : OpenClaim := { program := "ytlppphmnegdhoaa", sum := "6eefd78e4837406598e18d79fcbc076983d2263a8eda9b398a5435f7683bef57", func := "retrace/retracekeep.Joined", spec := "joined", apart := false }
def JoinedSaid : Prop := joinedRow.holds Try.pinned (OpenSpec.ofChange joinedSpec)

/-- ITS FALSE NEIGHBOUR: 'it returns false'. Refute it at one input. -/
def joinedWrong : ChangeSpec := { name := "joined", fn := fun _ => fun
  | [d1, d2, d3] => { results := [.lit (.bool false)], args := [d1, d2, d3] }
  | _ => none }
def JoinedWrongFalsely : Prop := joinedRow.holds Try.pinned (OpenSpec.ofChange joinedWrong)

/-- 'retracekeep.Grouped': WHATEVER THE INPUT: true; the input reads as it did. -/
def groupedSpec : ChangeSpec := { name := "grouped", fn := fun _ => fun
  | [d1, d2, d3, d4] => { results := [.lit (.bool true)], args := [d1, d2, d3, d4] }
  | _ => none }
def groupedRow : OpenClaim := { program := "ytlppphmnegdhoaa", sum := "6eefd78e4837406598e18d79fcbc076983d2263a8eda9b398a5435f7683bef57", func := "retrace/retracekeep.Grouped", spec := "grouped", apart := false }
def GroupedSaid : Prop := groupedRow.holds Try.pinned (OpenSpec.ofChange groupedSpec)

/-- ITS FALSE NEIGHBOUR: 'it returns false'. Refute it at one input. -/
def groupedWrong : ChangeSpec := { name := "grouped", fn := fun _ => fun
  | [d1, d2, d3, d4] => { results := [.lit (.bool false)], args := [d1, d2, d3, d4] }
  | _ => none }
def GroupedWrongFalsely : Prop := groupedRow.holds Try.pinned (OpenSpec.ofChange groupedWrong)

/-- 'retracelaw.Finds': WHATEVER THE INPUT: true; the input reads as it did. -/
def findsSpec : ChangeSpec := { name := "finds", fn := fun _ => fun
  | [d1, d2, d3] => { results := [.lit (.bool true)], args := [d1, d2, d3] }
  | _ => none }
def findsRow : OpenClaim := { program := "ytlppphmnegdhoaa", sum := "6eefd78e4837406598e18d79fcbc076983d2263a8eda9b398a5435f7683bef57", func := "retrace/retracelaw.Finds", spec := "finds", apart := false }
def FindsSaid : Prop := findsRow.holds Try.pinned (OpenSpec.ofChange findsSpec)

/-- ITS FALSE NEIGHBOUR: 'it returns false'. Refute it at one input. -/
def findsWrong : ChangeSpec := { name := "finds", fn := fun _ => fun
  | [d1, d2, d3] => { results := [.lit (.bool false)], args := [d1, d2, d3] }
  | _ => none }
def FindsWrongFalsely : Prop := findsRow.holds Try.pinned (OpenSpec.ofChange findsWrong)

/- THE SECOND FORM. 'bulk': how many values and letters a reading holds, each counted each time it is reached (what is shared counts as often as it is met; a slice's spare places count too). A statement '..UptoSaid' is the law's where the arguments, and the package variables that the reading takes, are together of bulk at most 1048576: NARROWER than '..Said'. Prove '..Said' where nothing that the law and all that it calls make is longer than what came in: it says more and counts as full. Else prove '..UptoSaid'. A law counts once. -/
mutual
def uptoBulk {H : Type} : DataW H → Nat
  | .lit (.string bytes) => bytes.length + 1
  | .lit _ => 1
  | .nil => 1
  | .ptr d => uptoBulk d + 1
  | .slice elems spare => uptoBulkAll elems + uptoBulkAll spare + 1
  | .agg parts => uptoBulkAll parts + 1
  | .iface _ d => uptoBulk d + 1
  | .map entries => uptoBulkEntries entries + 1
  | .held _ => 1
def uptoBulkAll {H : Type} : List (DataW H) → Nat
  | [] => 0
  | d :: r => uptoBulk d + uptoBulkAll r
def uptoBulkEntries {H : Type} : List (Lit × DataW H) → Nat
  | [] => 0
  | x :: r => uptoBulkEntry x + uptoBulkEntries r
def uptoBulkEntry {H : Type} : Lit × DataW H → Nat
  | (.string bytes, d) => bytes.length + uptoBulk d + 1
  | (_, d) => uptoBulk d + 1
 end
def uptoSmall : (H : Type) → List (DataW H) → Bool := fun _ ds => decide (uptoBulkAll ds ≤ 1048576)
def OpenSpec.upto (s : _root_.Go.ChangeSpec) : _root_.Go.OpenSpec := { _root_.Go.OpenSpec.ofChange s with cond := some uptoSmall }

/-- 'retracelaw.Writes', WHERE WHAT IT READS IS OF BULK AT MOST 1048576: true; the input reads as it did. -/
def writesUptoRow : OpenClaim := { program := "ytlppphmnegdhoaa", sum := "6eefd78e4837406598e18d79fcbc076983d2263a8eda9b398a5435f7683bef57", func := "retrace/retracelaw.Writes", spec := "writes", apart := false, narrowed := true }
def WritesUptoSaid : Prop := writesUptoRow.holds Try.pinned (OpenSpec.upto writesSpec)

/-- 'retracelaw.Reads', WHERE WHAT IT READS IS OF BULK AT MOST 1048576: true; the input reads as it did. -/
def readsUptoRow : OpenClaim := { program := "ytlppphmnegdhoaa", sum := "6eefd78e4837406598e18d79fcbc076983d2263a8eda9b398a5435f7683bef57", func := "retrace/retracelaw.Reads", spec := "reads", apart := false, narrowed := true }
def ReadsUptoSaid : Prop := readsUptoRow.holds Try.pinned (OpenSpec.upto readsSpec)

/-- 'retracelaw.Undoes', WHERE WHAT IT READS IS OF BULK AT MOST 1048576: true; the input reads as it did. -/
def undoesUptoRow : OpenClaim := { program := "ytlppphmnegdhoaa", sum := "6eefd78e4837406598e18d79fcbc076983d2263a8eda9b398a5435f7683bef57", func := "retrace/retracelaw.Undoes", spec := "undoes", apart := false, narrowed := true }
def UndoesUptoSaid : Prop := undoesUptoRow.holds Try.pinned (OpenSpec.upto undoesSpec)

/-- 'retracekeep.Carried', WHERE WHAT IT READS IS OF BULK AT MOST 1048576: true; the input reads as it did. -/
def carriedUptoRow : OpenClaim := { program := "ytlppphmnegdhoaa", sum := "6eefd78e4837406598e18d79fcbc076983d2263a8eda9b398a5435f7683bef57", func := "retrace/retracekeep.Carried", spec := "carried", apart := false, narrowed := true }
def CarriedUptoSaid : Prop := carriedUptoRow.holds Try.pinned (OpenSpec.upto carriedSpec)

/-- 'retracelaw.Packs', WHERE WHAT IT READS IS OF BULK AT MOST 1048576: true; the input reads as it did. -/
def packsUptoRow : OpenClaim := { program := "ytlppphmnegdhoaa", sum := "6eefd78e4837406598e18d79fcbc076983d2263a8eda9b398a5435f7683bef57", func := "retrace/retracelaw.Packs", spec := "packs", apart := false, narrowed := true }
def PacksUptoSaid : Prop := packsUptoRow.holds Try.pinned (OpenSpec.upto packsSpec)

/-- 'retracelaw.Joins', WHERE WHAT IT READS IS OF BULK AT MOST 1048576: true; the input reads as it did. -/
def joinsUptoRow : OpenClaim := { program := "ytlppphmnegdhoaa", sum := "6eefd78e4837406598e18d79fcbc076983d2263a8eda9b398a5435f7683bef57", func := "retrace/retracelaw.Joins", spec := "joins", apart := false, narrowed := true }
def JoinsUptoSaid : Prop := joinsUptoRow.holds Try.pinned (OpenSpec.upto joinsSpec)

/-- 'retracekeep.Bursts', WHERE WHAT IT READS IS OF BULK AT MOST 1048576: true; the input reads as it did. -/
def burstsUptoRow : OpenClaim := { program := "ytlppphmnegdhoaa", sum := "6eefd78e4837406598e18d79fcbc076983d2263a8eda9b398a5435f7683bef57", func := "retrace/retracekeep.Bursts", spec := "bursts", apart := false, narrowed := true }
def BurstsUptoSaid : Prop := burstsUptoRow.holds Try.pinned (OpenSpec.upto burstsSpec)

/-- 'retracekeep.Cuts', WHERE WHAT IT READS IS OF BULK AT MOST 1048576: true; the input reads as it did. -/
def cutsUptoRow : OpenClaim := { program := "ytlppphmnegdhoaa", sum := "6eefd78e4837406598e18d79fcbc076983d2263a8eda9b398a5435f7683bef57", func := "retrace/retracekeep.Cuts", spec := "cuts", apart := false, narrowed := true }
def CutsUptoSaid : Prop := cutsUptoRow.holds Try.pinned (OpenSpec.upto cutsSpec)

/-- 'retracekeep.Packed', WHERE WHAT IT READS IS OF BULK AT MOST 1048576: true; the input reads as it did. -/
def packedUptoRow : OpenClaim := { program := "ytlppphmnegdhoaa", sum := "6eefd78e4837406598e18d79fcbc076983d2263a8eda9b398a5435f7683bef57", func := "retrace/retracekeep.Packed", spec := "packed", apart := false, narrowed := true }
def PackedUptoSaid : Prop := packedUptoRow.holds Try.pinned (OpenSpec.upto packedSpec)

/-- 'retracekeep.Joined', WHERE WHAT IT READS IS OF BULK AT MOST 1048576: true; the input reads as it did. -/
def joinedUptoRow : OpenClaim := { program := "ytlppphmnegdhoaa", sum := "6eefd78e4837406598e18d79fcbc076983d2263a8eda9b398a5435f7683bef57", func := "retrace/retracekeep.Joined", spec := "joined", apart := false, narrowed := true }
def JoinedUptoSaid : Prop := joinedUptoRow.holds Try.pinned (OpenSpec.upto joinedSpec)

/-- 'retracekeep.Grouped', WHERE WHAT IT READS IS OF BULK AT MOST 1048576: true; the input reads as it did. -/
def groupedUptoRow : OpenClaim := { program := "ytlppphmnegdhoaa", sum := "6eefd78e4837406598e18d79fcbc076983d2263a8eda9b398a5435f7683bef57", func := "retrace/retracekeep.Grouped", spec := "grouped", apart := false, narrowed := true }
def GroupedUptoSaid : Prop := groupedUptoRow.holds Try.pinned (OpenSpec.upto groupedSpec)

/-- 'retracelaw.Finds', WHERE WHAT IT READS IS OF BULK AT MOST 1048576: true; the input reads as it did. -/
def findsUptoRow : OpenClaim := { program := "ytlppphmnegdhoaa", sum := "6eefd78e4837406598e18d79fcbc076983d2263a8eda9b398a5435f7683bef57", func := "retrace/retracelaw.Finds", spec := "finds", apart := false, narrowed := true }
def FindsUptoSaid : Prop := findsUptoRow.holds Try.pinned (OpenSpec.upto findsSpec)

end Rows
end Go.Proofs.Ytlppphmnegdhoaa
