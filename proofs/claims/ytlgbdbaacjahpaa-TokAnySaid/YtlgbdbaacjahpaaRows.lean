/-
  No cell of these rows narrows 'for every input' (looked for: loops, veiled, ifaces, maps, wideKeys, modest, calm, conditions, laid).
  DERIVED. THE GIVEN ROWS OF THIS SEAT. 4 by the template 'for every input the law returns true; each argument reads behind the call as it read before'; 0 by the template 'total and deterministic' (their statements: YtlgbdbaacjahpaaTotals.lean).
  GIVEN WITH THE SEED: the statements are not yours to turn. If you find one false, say at which input.
  Laid BY PROGRAM, IN A SANDBOX (cutbox-rows.mjs): the forced cells as the released guide's own fill.sh prints them over the translation dfc26832ce159799… (all of the seat's roots in one cut). By AI agents, Wed Nov 11 2026. No macro, syntax, notation, axiom, sorry.
-/
import Derived.Test.YtlgbdbaacjahpaaChecked
import GoSem.Claim
import GoSem.ClaimJoined
import GoSem.ClaimMapViews
import Derived.JoinedTies
import Derived.KernelRfl
namespace Go.Proofs.Ytlgbdbaacjahpaa
/- THE CELL 'sum', in the pinned program and in every row, IS THE sha256 OF THE DUMP (.gsa) THAT YtlgbdbaacjahpaaProg.lean LOADS. Nothing in Lean hashes anything: it is a label: what it is worth is what the hold of that sum in a sandbox is worth. -/
noncomputable def Try.pinned : Pinned := { name := "ytlgbdbaacjahpaa", sum := "dfc26832ce159799575704a11b245b29cf4d9e4f656f4046c835b83509f5233c", checked := Try.checked }
namespace Rows
def none {H : Type} : Left H := { results := [], args := [] }

/-- 'toponymlaw7.TokAny': WHATEVER THE INPUT: true; the input reads as it did. -/
def tokAnySpec : ChangeSpec := { name := "tokAny", fn := fun _ => fun
  | [d] => { results := [.lit (.bool true)], args := [d] }
  | _ => none }
def tokAnyRow : OpenClaim := { program := "ytlgbdbaacjahpaa", sum := "dfc26832ce159799575704a11b245b29cf4d9e4f656f4046c835b83509f5233c", func := "toponym/toponymlaw7.TokAny", spec := "tokAny", unfollowed := true, recurses := true, apart := false }
def TokAnySaid : Prop := tokAnyRow.holds Try.pinned (OpenSpec.ofChange tokAnySpec)

/-- ITS FALSE NEIGHBOUR: 'it returns false'. Refute it at one input. -/
def tokAnyWrong : ChangeSpec := { name := "tokAny", fn := fun _ => fun
  | [d] => { results := [.lit (.bool false)], args := [d] }
  | _ => none }
def TokAnyWrongFalsely : Prop := tokAnyRow.holds Try.pinned (OpenSpec.ofChange tokAnyWrong)

/-- 'toponymlaw7.TokPlain': WHATEVER THE INPUT: true; the input reads as it did. -/
def tokPlainSpec : ChangeSpec := { name := "tokPlain", fn := fun _ => fun
  | [d1, d2] => { results := [.lit (.bool true)], args := [d1, d2] }
  | _ => none }
def tokPlainRow : OpenClaim := { program := "ytlgbdbaacjahpaa", sum := "dfc26832ce159799575704a11b245b29cf4d9e4f656f4046c835b83509f5233c", func := "toponym/toponymlaw7.TokPlain", spec := "tokPlain", unfollowed := true, recurses := true, apart := false }
def TokPlainSaid : Prop := tokPlainRow.holds Try.pinned (OpenSpec.ofChange tokPlainSpec)

/-- ITS FALSE NEIGHBOUR: 'it returns false'. Refute it at one input. -/
def tokPlainWrong : ChangeSpec := { name := "tokPlain", fn := fun _ => fun
  | [d1, d2] => { results := [.lit (.bool false)], args := [d1, d2] }
  | _ => none }
def TokPlainWrongFalsely : Prop := tokPlainRow.holds Try.pinned (OpenSpec.ofChange tokPlainWrong)

/-- 'toponymlaw7.TokBrackets': WHATEVER THE INPUT: true; the input reads as it did. -/
def tokBracketsSpec : ChangeSpec := { name := "tokBrackets", fn := fun _ => fun
  | [d1, d2] => { results := [.lit (.bool true)], args := [d1, d2] }
  | _ => none }
def tokBracketsRow : OpenClaim := { program := "ytlgbdbaacjahpaa", sum := "dfc26832ce159799575704a11b245b29cf4d9e4f656f4046c835b83509f5233c", func := "toponym/toponymlaw7.TokBrackets", spec := "tokBrackets", unfollowed := true, recurses := true, apart := false }
def TokBracketsSaid : Prop := tokBracketsRow.holds Try.pinned (OpenSpec.ofChange tokBracketsSpec)

/-- ITS FALSE NEIGHBOUR: 'it returns false'. Refute it at one input. -/
def tokBracketsWrong : ChangeSpec := { name := "tokBrackets", fn := fun _ => fun
  | [d1, d2] => { results := [.lit (.bool false)], args := [d1, d2] }
  | _ => none }
def TokBracketsWrongFalsely : Prop := tokBracketsRow.holds Try.pinned (OpenSpec.ofChange tokBracketsWrong)

/-- 'toponymlaw7.TokQuotes': WHATEVER THE INPUT: true; the input reads as it did. -/
def tokQuotesSpec : ChangeSpec := { name := "tokQuotes", fn := fun _ => fun
  | [d] => { results := [.lit (.bool true)], args := [d] }
  | _ => none }
def tokQuotesRow : OpenClaim := { program := "ytlgbdbaacjahpaa", sum := "dfc26832ce159799575704a11b245b29cf4d9e4f656f4046c835b83509f5233c", func := "toponym/toponymlaw7.TokQuotes", spec := "tokQuotes", unfollowed := true, recurses := true, apart := false }
def TokQuotesSaid : Prop := tokQuotesRow.holds Try.pinned (OpenSpec.ofChange tokQuotesSpec)

/-- ITS FALSE NEIGHBOUR: 'it returns false'. Refute it at one input. -/
def tokQuotesWrong : ChangeSpec := { name := "tokQuotes", fn := fun _ => fun
  | [d] => { results := [.lit (.bool false)], args := [d] }
  | _ => none }
def TokQuotesWrongFalsely : Prop := tokQuotesRow.holds Try.pinned (OpenSpec.ofChange tokQuotesWrong)

/- THE SECOND FORM. 'bulk': how many values and letters a reading holds, each counted each time it is reached (what is shared counts as often as it is met; a slice's spare places count too). A statement '..UptoSaid' is the law's where the arguments, and the package variables that the reading takes, are together of bulk at most 1048576: NARROWER than '..Said'. Prove '..Said' where nothing that the law and all that it calls make is longer than what came in: it says more and counts as full. Else prove '..UptoSaid'. A law counts once. -/
mutual
def uptoBulk {H : Type} : DataW H → Nat
  | .lit (.string bytes) => bytes.length + 1
  | .lit _ => 1
  | .nil => 1
  | .ptr d => uptoBulk d + 1
  | .slice elems spare => uptoBulkAll elems + uptoBulkAll spare + 1
  | .agg parts => uptoBulkAll parts + 1
  | .iface _ d => uptoBulk d + 1
  | .map entries => uptoBulkEntries entries + 1
  | .held _ => 1
def uptoBulkAll {H : Type} : List (DataW H) → Nat
  | [] => 0
  | d :: r => uptoBulk d + uptoBulkAll r
def uptoBulkEntries {H : Type} : List (Lit × DataW H) → Nat
  | [] => 0
  | x :: r => uptoBulkEntry x + uptoBulkEntries r
def uptoBulkEntry {H : Type} : Lit × DataW H → Nat
  | (.string bytes, d) => bytes.length + uptoBulk d + 1
  | (_, d) => uptoBulk d + 1
 end
def uptoSmall : (H : Type) → List (DataW H) → Bool := fun _ ds => decide (uptoBulkAll ds ≤ 1048576)
def OpenSpec.upto (s : _root_.Go.ChangeSpec) : _root_.Go.OpenSpec := { _root_.Go.OpenSpec.ofChange s with cond := some uptoSmall }

/-- 'toponymlaw7.TokAny', WHERE WHAT IT READS IS OF BULK AT MOST 1048576: true; the input reads as it did. -/
def tokAnyUptoRow : OpenClaim := { program := "ytlgbdbaacjahpaa", sum := "dfc26832ce159799575704a11b245b29cf4d9e4f656f4046c835b83509f5233c", func := "toponym/toponymlaw7.TokAny", spec := "tokAny", unfollowed := true, recurses := true, apart := false, narrowed := true }
def TokAnyUptoSaid : Prop := tokAnyUptoRow.holds Try.pinned (OpenSpec.upto tokAnySpec)

/-- 'toponymlaw7.TokPlain', WHERE WHAT IT READS IS OF BULK AT MOST 1048576: true; the input reads as it did. -/
def tokPlainUptoRow : OpenClaim := { program := "ytlgbdbaacjahpaa", sum := "dfc26832ce159799575704a11b245b29cf4d9e4f656f4046c835b83509f5233c", func := "toponym/toponymlaw7.TokPlain", spec := "tokPlain", unfollowed := true, recurses := true, apart := false, narrowed := true }
def TokPlainUptoSaid : Prop := tokPlainUptoRow.holds Try.pinned (OpenSpec.upto tokPlainSpec)

/-- 'toponymlaw7.TokBrackets', WHERE WHAT IT READS IS OF BULK AT MOST 1048576: true; the input reads as it did. -/
def tokBracketsUptoRow : OpenClaim := { program := "ytlgbdbaacjahpaa", sum := "dfc26832ce159799575704a11b245b29cf4d9e4f656f4046c835b83509f5233c", func := "toponym/toponymlaw7.TokBrackets", spec := "tokBrackets", unfollowed := true, recurses := true, apart := false, narrowed := true }
def TokBracketsUptoSaid : Prop := tokBracketsUptoRow.holds Try.pinned (OpenSpec.upto tokBracketsSpec)

/-- 'toponymlaw7.TokQuotes', WHERE WHAT IT READS IS OF BULK AT MOST 1048576: true; the input reads as it did. -/
def tokQuotesUptoRow : OpenClaim := { program := "ytlgbdbaacjahpaa", sum := "dfc26832ce159799575704a11b245b29cf4d9e4f656f4046c835b83509f5233c", func := "toponym/toponymlaw7.TokQuotes", spec := "tokQuotes", unfollowed := true, recurses := true, apart := false, narrowed := true }
def TokQuotesUptoSaid : Prop := tokQuotesUptoRow.holds Try.pinned (OpenSpec.upto tokQuotesSpec)

end Rows
end Go.Proofs.Ytlgbdbaacjahpaa
