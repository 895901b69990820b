/-
  rdata.readText.
-/
import Derived.Test.YteppgeiejknhoaaMQ19
import Derived.Test.YteppgeiejknhoaaMQ09
import Derived.Test.YteppgeiejknhoaaMQ29
namespace Go.Proofs.Yteppgeiejknhoaa
set_option maxRecDepth 20000
open Go.RowKit Go.Shelf

theorem wpl_append_str {ops : Array Oper} {rest : List Oper} {o : Oper} {a : Act} {Q : Exit → Act → World → Prop} (W : World) (hgd : o.guard = none) (sl x : Operand)
    (ho : o.op = .call { callee := .builtin .append, args := #[sl, x], argTypes := #[46, 9] })
    (base : Nat) (v : Value) (xs : List UInt8) (hs : a.eval sl = v) (hown : OwnG 5 bv W base v xs) (s : ByteArray) (hx : a.eval x = .string s)
    (hbase : base ≤ W.heap.size) (hk : xs.length + s.size ≤ 140737488355328)
    (h : ∀ v' w', OwnG 5 bv w' base v' (xs ++ s.data.toList) → W.grownBy w' v.ownBlock → wpList Try.prog ops Q rest (a.put o.dst v') w') : wpList Try.prog ops Q (o :: rest) a W := by
  obtain ⟨i0, hi, hz0, hz1, hz2⟩ := info_parts info_u8
  refine wpList_plain hgd fun K hK => ?_
  obtain ⟨v', w', hr, h2, h3, h4⟩ := Lib.run_append_own_string (P := Try.prog) (w := W) base 46 9 o.type 5 i0 Try.underlying46 Try.underlying9 hi hz0 hz1 hz2 v xs.length (xs.map bv) hown s (by unfold maxLen; omega) hk hbase
  unfold Oper.wp
  simp [execOp, ho, resolve, invoke, builtin, hs, hx, hr, Result.andThen]
  refine hK _ _ (h v' w' ?_ h3)
  unfold OwnG
  rw [List.length_append, List.map_append, size_data]
  exact h2

/-- A text and an error. -/
def StrE (q : List UInt8 × Int) (w : World) (e : Ending) (w' : World) : Prop := e = .returned (.tuple #[.string ⟨q.1.toArray⟩, .int .i64 q.2]) ∧ Below w.heap.size w w'
theorem strE_fin {q : List UInt8 × Int} {w w' : World} {e : Ending} (l : List UInt8) (er : Int) (h : q = (l, er)) (he : e = .returned (.tuple #[.string ⟨l.toArray⟩, .int .i64 er])) (hb : Below w.heap.size w w') : StrE q w e w' := by
  subst h; exact ⟨he, hb⟩
theorem readText_err {l : List UInt8} {er : Int} (h : gscan tStep l = ([], er)) (h2 : er ≠ 0) : readTextM l = ([], er) := by unfold readTextM; rw [h, if_neg h2]
theorem gscan_out {k : Nat} {l xs : List UInt8} {er : Int} (HJ : gscan tStep l = join xs (gscan tStep (l.drop k))) (h0 : l.drop k ≠ []) (h1 : (tStep (l.drop k)).2.2 = er) (h2 : er ≠ 0) : gscan tStep l = ([], er) := by
  rw [HJ, gscan_err h0 (by rw [h1]; exact h2), h1]; unfold join; rw [if_neg h2]
theorem gscan_on {k : Nat} {l xs y : List UInt8} {sz : Nat} (HJ : gscan tStep l = join xs (gscan tStep (l.drop k))) (h0 : l.drop k ≠ []) (h1 : tStep (l.drop k) = (y, sz, 0)) : gscan tStep l = join (xs ++ y) (gscan tStep (l.drop (k + sz))) := by
  rw [HJ, gscan_ok tStep_ok h0 (by rw [h1]), h1, join_join, List.drop_drop]
theorem tStep_plain {s : ByteArray} {k : Nat} (hk : k < s.size) (h : ((s[k].toNat : Int) != 92) = true) : tStep (s.data.toList.drop k) = ([s[k]], 1, 0) := by
  rw [drop_cons_get s k hk]
  unfold tStep
  have : s[k] ≠ 92 := by
    intro e; rw [e] at h; revert h; decide
  simp only
  rw [if_pos this]
theorem tStep_stroke {s : ByteArray} {k sz : Nat} (hk : k < s.size) (h : ((s[k].toNat : Int) != 92) = false) (hz : tSize (s.data.toList.drop k) = sz) : tStep (s.data.toList.drop k) = ((parseM ((s.data.toList.drop k).take sz)).1, sz, (parseM ((s.data.toList.drop k).take sz)).2) := by
  subst hz
  rw [drop_cons_get s k hk]
  have e : s[k] = 92 := u8_92 h
  have e2 : ∀ (x : UInt8) r, tStep (x :: r) = if x ≠ 92 then ([x], 1, 0) else ((parseM ((x :: r).take (tSize (x :: r)))).1, tSize (x :: r), (parseM ((x :: r).take (tSize (x :: r)))).2) := fun _ _ => rfl
  rw [e2, if_neg (by rw [e]; simp)]
theorem tSize_one {s : ByteArray} {k : Nat} (hk : k < s.size) (h : s.size ≤ k + 1) : tSize (s.data.toList.drop k) = 1 := by
  rw [drop_cons_get s k hk, List.drop_of_length_le (by rw [size_data]; exact h)]; rfl
theorem tSize_two {s : ByteArray} {k : Nat} (hk : k + 1 < s.size) (h : digitU s[k + 1] = false) : tSize (s.data.toList.drop k) = 2 := by
  rw [drop_cons_get s k (by omega), drop_cons_get s (k + 1) hk]
  unfold tSize
  simp only [h, List.length_cons]
  simp <;> omega
theorem tSize_four {s : ByteArray} {k : Nat} (hk : k + 1 < s.size) (h : digitU s[k + 1] = true) : tSize (s.data.toList.drop k) = min 4 (s.size - k) := by
  have hl : (s.data.toList.drop k).length = s.size - k := by rw [List.length_drop, size_data]
  rw [← hl, drop_cons_get s k (by omega), drop_cons_get s (k + 1) hk]
  unfold tSize
  simp only [h, if_true]
theorem parseM_le (l : List UInt8) : (parseM l).1.length ≤ l.length := parseM_len l

end Go.Proofs.Yteppgeiejknhoaa

