/-
  Contracts of name.Child and name.Swap.
-/
import Derived.Test.YtoohhoillblaoaaNamH
namespace Go.Proofs.Ytoohhoillblaoaa
open Go.RowKit Go.Shelf

theorem wpl_make_g {α : Type} {T S : TypeId} {enc : α → Value} {ops : Array Oper} {rest : List Oper} {o : Oper} {a : Act} {Q : Exit → Act → World → Prop} (W : World) (hgd : o.guard = none) (l c : Operand) {bytes : Nat} (hE : ElemT T S bytes)
    (ho : o.op = Op.makeSlice S l c) (base : Nat) (kl kc : IntKind) (C : Int) (n : Nat) (hl : a.eval l = .int kl 0) (hc : a.eval c = .int kc C) (hC : C = (n : Int)) (b2 : bytes * n ≤ 281474976710656) (b3 : n ≤ maxLen) (b4 : base ≤ W.heap.size)
    (h : ∀ w', OwnG T enc w' base (.slice (some ⟨W.heap.size, 0, none⟩) 0 n) [] → W.grownBy w' none → wpList Try.prog ops Q rest (a.put o.dst (.slice (some ⟨W.heap.size, 0, none⟩) 0 n)) w') :
    wpList Try.prog ops Q (o :: rest) a W := by
  obtain ⟨ht, i, z, hi, hz, hz1, hz2, _⟩ := hE
  exact wpList_make_own W hgd l c S ho base T i z 1 ht hi hz hz1 kl kc C n hl hc hC (by rw [hz2]; exact b2) b3 b4 (fun w' h1 h2 => h w' h1 h2)

def CopyPost (xs : Nm) (w : World) (e : Ending) (w' : World) : Prop := ∃ v', e = .returned v' ∧ OwnG 9 strV w' w.heap.size v' xs ∧ Below w.heap.size w w'

set_option maxHeartbeats 2000000 in
theorem name_Child (s : ByteArray) (v : Value) (xs : Nm) (w : World) (hA : StrsAt w v xs) (hO : SlOK v) (hk : NmOK xs) :
    Calls Try.prog 38 #[.string s, v] w (CopyPost (s.data.toList :: xs) w) := by
  obtain ⟨a, c, rfl, hx⟩ := id hA
  have hl := hk.1
  have hcell : [Value.string s] = [s.data.toList].map strV := by simp only [List.map_cons, List.map_nil, strV_of]
  have HC := Lib.hid hcell; clear hcell
  go_enter Try.func38, Try.ntmps38
  go_wp2_with (first | (at_make; refine wpl_make_g (α := List UInt8) (enc := strV) w rfl _ _ elemNm rfl w.heap.size .i64 .i64 _ (xs.length + 1) rfl rfl (by simp) (by omega) (by unfold maxLen; omega) (Nat.le_refl _) ?_; intro w0 hown0 hg0; have hA0 := hA.below ((Below.refl _ w).grown hg0 (Nat.le_refl _) (by simp))) | (at_builtin; refine wpl_append_g w0 rfl (.tmp 10) (.tmp 12) elemNm rfl strV_one w.heap.size (.slice (some ⟨w.heap.size, 0, none⟩) 0 (xs.length + 1)) [] rfl hown0 [.string s] [s.data.toList] HC.out 1 1 rfl rfl hg0.size (by unfold maxLen; simp) (by simp) ?_; intro v1 w1 hown1 hg1; have hB1 : Below w.heap.size w w1 := ((Below.refl _ w).grown hg0 (Nat.le_refl _) (by simp)).grown hg1 hg0.size hown0.base_le) | (at_builtin; refine wpl_append_s w1 rfl (.tmp 13) (.tmp 14) elemNm rfl w.heap.size v1 _ rfl hown1 (.slice a xs.length c) xs rfl (hA.below hB1) hO hB1.size (by unfold maxLen; simp; omega) (by simp; omega) ?_; intro v2 w2 hown2 hg2))
  go_ret
  exact ⟨v2, rfl, hown2, hB1.grown hg2 hB1.size hown1.base_le⟩

theorem OwnG.below {α : Type} {T : TypeId} {enc : α → Value} {W W' : World} {base : Nat} {v : Value} {xs : List α} (h : OwnG T enc W base v xs) (hb : Below W.heap.size W W') : OwnG T enc W' base v xs :=
  h.kept (row := none) ⟨hb.os, hb.tape, hb.output, hb.size, fun k hk _ => hb.block k hk⟩ (by cases v.ownBlock <;> simp)
def SwapPost (n f t : Nm) (w : World) (e : Ending) (w' : World) : Prop := ∃ v', e = .returned (.tuple #[v', .int .i64 (swapN n f t).2]) ∧ OwnG 9 strV w' w.heap.size v' (swapN n f t).1 ∧ Below w.heap.size w w'
theorem swap_fin {n f t : Nm} {w w' : World} {e : Ending} {v : Value} (l : Nm) (er : Int) (h : swapN n f t = (l, er)) (he : e = .returned (.tuple #[v, .int .i64 er])) (ho : OwnG 9 strV w' w.heap.size v l) (hw : Below w.heap.size w w') : SwapPost n f t w e w' := by
  unfold SwapPost; rw [h]; exact ⟨v, he, ho, hw⟩

set_option maxHeartbeats 4000000 in
theorem name_Swap (v vf vt : Value) (n f t : Nm) (w : World) (hA : StrsAt w v n) (hF : StrsAt w vf f) (hT : StrsAt w vt t) (hO : SlOK v) (hO2 : SlOK vt) (hk : NmOK n) (hkf : NmOK f) (hkt : NmOK t) (hall : NmOK (n.take (n.length - f.length) ++ t)) :
    Calls Try.prog 36 #[v, vf, vt] w (SwapPost n f t w) := by
  obtain ⟨a, c, rfl, _⟩ := id hA
  obtain ⟨af, cf, rfl, _⟩ := id hF
  obtain ⟨at', ct, rfl, _⟩ := id hT
  have hl := hk.1; have hlf := hkf.1; have hlt := hkt.1
  obtain ⟨a0, n0, c0, e0, hcap, hno⟩ := id hO
  cases e0
  have hUn := fun W h1 h2 => name_Under (.slice a n.length c) (.slice af f.length cf) n f W h1 h2 hk hkf
  by_cases hu : underN n f = true
  · obtain ⟨d, hd⟩ : ∃ d, n.length = d + f.length := ⟨n.length - f.length, by have := underN_len hu; omega⟩
    have hsub : (n.length : Int) - (f.length : Int) = (d : Int) := by omega
    have hdf : n.length - f.length = d := by omega
    have hdn : d ≤ n.length := by omega
    have hres : swapN n f t = if checkN (n.take d ++ t) = 0 then (n.take d ++ t, 0) else ([], 7) := by unfold swapN; rw [if_pos hu, hdf]
    rw [hdf] at hall
    have htl : (n.take d).length = d := by simp; omega
    have hTk := fun W (h : StrsAt W (.slice a n.length c) n) => strs_take h d hdn c
    generalize hps : n.take d = ps at *
    have HR := Lib.hid hres; have HU := Lib.hid hu
    have HTL := Lib.hid htl
    clear hres hdf hps hd htl
    have hq : ∃ q, checkN (ps ++ t) = q := ⟨_, rfl⟩
    obtain ⟨q, hq⟩ := hq
    have hCk := fun W v2 (h : OwnG 9 strV W w.heap.size v2 (ps ++ t)) => name_Check v2 (ps ++ t) W (StrsAt.of_own h) hall
    rw [hq] at hCk HR
    have hpl : ps.length = d := HTL.out
    have HPL := Lib.hid hpl; clear hpl
    by_cases hq0 : (q != 0) = true
    · have H0 : Hid (swapN n f t = ([], 7)) := Lib.hid (by rw [HR.out, if_neg (by simpa using hq0)])
      clear HR hq
      go_enter Try.func36, Try.ntmps36
      go_wp2_with (first | (go_at_call 29; refine (hUn _ hA hF).mono ?_; rintro e wu ⟨rfl, hbu⟩; rw [HU.out]) | (at_make; refine wpl_make_g (α := List UInt8) (enc := strV) wu rfl _ _ elemNm rfl w.heap.size .i64 .i64 _ (d + t.length) rfl rfl (by simp) (by omega) (by unfold maxLen; omega) hbu.size ?_; intro w0 hown0 hg0; have hB0 : Below w.heap.size w w0 := hbu.grown hg0 hbu.size (by simp)) | (at_builtin; refine wpl_append_s w0 rfl (.tmp 24) (.tmp 27) elemNm rfl w.heap.size (.slice (some ⟨wu.heap.size, 0, none⟩) 0 (d + t.length)) [] rfl hown0 (.slice a d c) ps rfl (hTk w0 (hA.below hB0)) ⟨_, _, _, rfl, by omega, hno⟩ hB0.size (by have := HPL.out; unfold maxLen; simp; omega) (by have := HPL.out; simp; omega) ?_; intro v1 w1 hown1 hg1; have hB1 : Below w.heap.size w w1 := hB0.grown hg1 hB0.size hown0.base_le) | (at_builtin; refine wpl_append_s w1 rfl (.tmp 28) (.tmp 29) elemNm rfl w.heap.size v1 ps rfl hown1 (.slice at' t.length ct) t rfl (hT.below hB1) hO2 hB1.size (by have := HPL.out; unfold maxLen; omega) (by have := HPL.out; omega) ?_; intro v2 w2 hown2 hg2; have hB2 : Below w.heap.size w w2 := hB1.grown hg2 hB1.size hown1.base_le) | (go_at_call 15; refine (hCk _ _ hown2).mono ?_; rintro e w3 ⟨rfl, hb3⟩))
      go_ret2
      exact swap_fin [] 7 H0.out rfl (OwnG.nil _ _) (hB2.trans (hb3.mono hB2.size))
    · have hq1 : (q != 0) = false := by simpa using hq0
      have H0 : Hid (swapN n f t = (ps ++ t, 0)) := Lib.hid (by rw [HR.out, if_pos (by simpa using hq1)])
      clear HR hq hq0
      go_enter Try.func36, Try.ntmps36
      go_wp2_with (first | (go_at_call 29; refine (hUn _ hA hF).mono ?_; rintro e wu ⟨rfl, hbu⟩; rw [HU.out]) | (at_make; refine wpl_make_g (α := List UInt8) (enc := strV) wu rfl _ _ elemNm rfl w.heap.size .i64 .i64 _ (d + t.length) rfl rfl (by simp) (by omega) (by unfold maxLen; omega) hbu.size ?_; intro w0 hown0 hg0; have hB0 : Below w.heap.size w w0 := hbu.grown hg0 hbu.size (by simp)) | (at_builtin; refine wpl_append_s w0 rfl (.tmp 24) (.tmp 27) elemNm rfl w.heap.size (.slice (some ⟨wu.heap.size, 0, none⟩) 0 (d + t.length)) [] rfl hown0 (.slice a d c) ps rfl (hTk w0 (hA.below hB0)) ⟨_, _, _, rfl, by omega, hno⟩ hB0.size (by have := HPL.out; unfold maxLen; simp; omega) (by have := HPL.out; simp; omega) ?_; intro v1 w1 hown1 hg1; have hB1 : Below w.heap.size w w1 := hB0.grown hg1 hB0.size hown0.base_le) | (at_builtin; refine wpl_append_s w1 rfl (.tmp 28) (.tmp 29) elemNm rfl w.heap.size v1 ps rfl hown1 (.slice at' t.length ct) t rfl (hT.below hB1) hO2 hB1.size (by have := HPL.out; unfold maxLen; omega) (by have := HPL.out; omega) ?_; intro v2 w2 hown2 hg2; have hB2 : Below w.heap.size w w2 := hB1.grown hg2 hB1.size hown1.base_le) | (go_at_call 15; refine (hCk _ _ hown2).mono ?_; rintro e w3 ⟨rfl, hb3⟩))
      go_ret2
      exact swap_fin (ps ++ t) 0 H0.out rfl (hown2.below hb3) (hB2.trans (hb3.mono hB2.size))
  · have hu0 : underN n f = false := by simpa using hu
    have H0 : Hid (swapN n f t = ([], 12)) := Lib.hid (by unfold swapN; rw [if_neg hu])
    have HU := Lib.hid hu0; clear hu hu0
    go_enter Try.func36, Try.ntmps36
    go_wp2_with (go_at_call 29; refine (hUn _ hA hF).mono ?_; rintro e wu ⟨rfl, hbu⟩; rw [HU.out])
    go_ret2
    exact swap_fin [] 12 H0.out rfl (OwnG.nil _ _) hbu
end Go.Proofs.Ytoohhoillblaoaa
