/-
  Contract of label.Text: the words of any octets.
-/
import Derived.Test.YtbnkecmhmcligaaMQ09
namespace Go.Proofs.Ytbnkecmhmcligaa
set_option linter.unusedVariables false
set_option linter.unusedSimpArgs false
set_option maxRecDepth 20000
open Go.RowKit Go.Shelf

def textL (l : List UInt8) : List UInt8 := l.flatMap octetW
theorem textL_snoc (l : List UInt8) (c : UInt8) : textL (l ++ [c]) = textL l ++ octetW c := by simp [textL]
theorem octetW_le (c : UInt8) : (octetW c).length ≤ 4 := by unfold octetW; split; · simp
                                                            split <;> simp
theorem textL_le (l : List UInt8) : (textL l).length ≤ 4 * l.length := by
  induction l with
  | nil => simp [textL]
  | cons c l ih => have := octetW_le c; simp only [textL, List.flatMap_cons, List.length_append, List.length_cons] at ih ⊢; omega

section
attribute [local go_sem] Oper.semAt_some

end

end Go.Proofs.Ytbnkecmhmcligaa

