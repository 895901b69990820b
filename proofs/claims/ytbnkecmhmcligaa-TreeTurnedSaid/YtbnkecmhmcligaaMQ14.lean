/-
  Contract of name.Text.
-/
import Derived.Test.YtbnkecmhmcligaaMQ03
import Derived.Test.YtbnkecmhmcligaaMQ42
import Derived.Lib.AppendStr
namespace Go.Proofs.Ytbnkecmhmcligaa
set_option linter.unusedVariables false
set_option linter.unusedSimpArgs false
set_option maxRecDepth 20000
open Go.RowKit Go.Shelf

theorem wplIn_append_str {F : Fence} {d : Nat} {ops : Array Oper} {rest : List Oper} {o : Oper} {a : Act} {Q : Exit → Act → World → Prop} (W : World) (hgd : o.guard = none) (sl x : Operand)
    (ho : o.op = .call { callee := .builtin .append, args := #[sl, x], argTypes := #[76, 9] })
    (base : Nat) (v : Value) (xs : List UInt8) (hs : a.eval sl = v) (hown : OwnG 5 bv W base v xs) (s : ByteArray) (hx : a.eval x = .string s)
    (hbase : base ≤ W.heap.size) (hk : xs.length + s.size ≤ 140737488355328)
    (h : ∀ v' w', OwnG 5 bv w' base v' (xs ++ s.data.toList) → W.grownBy w' v.ownBlock → wpListIn F d Try.prog ops Q rest (a.put o.dst v') w') : wpListIn F d Try.prog ops Q (o :: rest) a W := by
  obtain ⟨i0, hi, hz0, hz1, hz2⟩ := info_parts info_u8
  refine wpListIn_plain hgd fun K hK => ?_
  obtain ⟨v', w', hr, h2, h3, h4⟩ := Lib.run_append_own_string (P := Try.prog) (w := W) base 76 9 o.type 5 i0 Try.underlying76 Try.underlying9 hi hz0 hz1 hz2 v xs.length (xs.map bv) hown s (by unfold maxLen; omega) hk hbase
  unfold Oper.wpIn
  refine ⟨?_, ?_⟩
  · simp [Oper.about, ho, resolve, Target.leads, Sem.run_pure]
  · rw [Oper.semAt_plain F _ _ (by rw [ho]; intro c hc'; cases hc')]
    simp [execOp, ho, resolve, invoke, builtin, hs, hx, hr, Result.andThen]
    refine hK _ _ (h v' w' ?_ h3)
    unfold OwnG
    rw [List.length_append, List.map_append, size_data]
    exact h2

def textF (n : Nm) : List UInt8 := n.flatMap fun x => textL x ++ [46]
theorem textF_snoc (n : Nm) (x : List UInt8) : textF (n ++ [x]) = textF n ++ textL x ++ [46] := by simp [textF]
theorem textN_eq {n : Nm} (h : n ≠ []) : textN n = textF n := by unfold textN; rw [if_neg h]; rfl
theorem textF_le {xs : Nm} (h : NmOK xs) (pre : List (Fin xs.length)) : (textF (atN xs pre)).length ≤ pre.length * 4194305 := by
  induction pre with
  | nil => simp [textF, atN]
  | cons j r ih =>
    have h1 := h.get j.val j.isLt
    have h2 := textL_le xs[j]
    simp only [textF, atN, List.map_cons, List.flatMap_cons, List.length_append, List.length_cons, List.length_nil, Fin.getElem_fin] at ih h2 ⊢
    omega

section
attribute [local go_sem] Oper.semAt_some
end
end Go.Proofs.Ytbnkecmhmcligaa

