import Derived.Test.YtnpnfajgphpabaaGreatMQ11
namespace Go.Proofs.YtnpnfajgphpabaaGreat
set_option linter.unusedVariables false
set_option linter.unusedSimpArgs false
set_option maxRecDepth 1000000
set_option maxHeartbeats 16000000
open Go.RowKit Go.Shelf
theorem qbc : ElemK 3 56 33 40 := ⟨Tryz.underlying33, _, _, rfl, rfl, rfl, rfl, rfl⟩
theorem SlK.elem3 {W : World} {a : Option Addr} {n c : Nat} {css : List (List Value)} (h : SlK W (.slice a n c) css) (hk : ∀ cs ∈ css, cs.length = 3) (h0 : 0 < css.length) : ∃ b off, a = some ⟨b, off, none⟩ ∧ b < W.heap.size ∧
 ∀ k (hlt : k < css.length) (u0 u1 u2 : Value), css[k] = [u0, u1, u2] → ∀ W', Below W.heap.size W W' →
  W'.cell? ⟨b, off + k * 3, none⟩ = some u0 ∧ W'.cell? ⟨b, off + k * 3 + 1, none⟩ = some u1 ∧ W'.cell? ⟨b, off + k * 3 + 2, none⟩ = some u2 := by
 obtain ⟨a', c', e, _, _, h3⟩ := h
 cases e
 rcases h3 with h3 | ⟨b, off, rfl, hb, hc⟩
 ·subst h3; simp at h0
 ·refine ⟨b, off, rfl, hb, fun k hlt u0 u1 u2 he W' hB => ?_⟩
  have key : ∀ j u, j < 3 → [u0, u1, u2][j]? = some u → W'.cell? ⟨b, off + k * 3 + j, none⟩ = some u := fun j u hj hu => by
   rw [hB.cell (p := ⟨b, off + k * 3 + j, none⟩) hb, Nat.add_assoc]
   refine hc (k * 3 + j) u ?_
   have hl : ∀ (l : List (List Value)) (k : Nat) (hlt : k < l.length), (∀ cs ∈ l, cs.length = 3) → l[k] = [u0, u1, u2] → l.flatten[k * 3 + j]? = some u := by
    intro l
    induction l with
    | nil => intro k hlt; simp at hlt
    | cons x r ih =>
     intro k hlt hk he
     rw [List.flatten_cons]
     cases k with
     | zero =>
      rw [List.getElem_cons_zero] at he
      rw [he, List.getElem?_append_left (by simp; omega)]
      simpa using hu
     | succ k =>
      rw [List.getElem_cons_succ] at he
      have hx : x.length = 3 := hk x (by simp)
      rw [List.getElem?_append_right (by rw [hx]; omega), hx, show (k + 1) * 3 + j - 3 = k * 3 + j by omega]
      exact ih k (by simpa using hlt) (fun cs hc => hk cs (by simp [hc])) he
   exact hl css k hlt hk he
  exact ⟨key 0 u0 (by omega) rfl, key 1 u1 (by omega) rfl, key 2 u2 (by omega) rfl⟩
theorem qh9 {W : World} {a : Option Addr} {n c : Nat} {css : List (List Value)} (h : SlK W (.slice a n c) css) (h3 : ∀ cs ∈ css, cs.length = 3) {k : Nat} (hk : k ≤ n) :
 (c = k ∧ SlK W (.slice a (n - k) (c - k)) (css.drop k)) ∨ (¬ c = k ∧ n = 0 ∧ k = 0 ∧ (∃ ad, a = some ad) ∧ SlK W (.slice a (n - k) (c - k)) (css.drop k)) ∨ (¬ c = k ∧ 0 < n ∧ ∃ g off, a = some ⟨g, off, none⟩ ∧ SlK W (.slice (some ⟨g, off + k * 3, none⟩) (n - k) (c - k)) (css.drop k)) := by
 obtain ⟨a', c', e, h1, h2, h4⟩ := h
 cases e
 have hl : (css.drop k).length = css.length - k := List.length_drop
 by_cases e : c = k
 ·left
  have hd : css.drop k = [] := List.drop_eq_nil_of_le (by omega)
  exact ⟨e, a, c - k, by rw [hl], by rw [hl]; omega, fun ea => by have := h2 ea; omega, .inl hd⟩
 ·right
  by_cases hz : css.length = 0
  ·left
   have hk0 : k = 0 := by omega
   have hn0 : css = [] := List.eq_nil_of_length_eq_zero hz
   refine ⟨e, hz, hk0, ?_, a, c - k, by rw [hl], by rw [hl]; omega, fun ea => by have := h2 ea; omega, .inl (by rw [hn0]; simp)⟩
   cases a with
   | none => exact absurd (h2 rfl) (by omega)
   | some ad => exact ⟨ad, rfl⟩
  ·right
   refine ⟨e, by omega, ?_⟩
   rcases h4 with h4 | ⟨b, off, rfl, hlt, hc⟩
   ·rw [h4] at hz; simp at hz
   ·refine ⟨b, off, rfl, _, _, by rw [hl], by rw [hl]; omega, (fun e => by cases e), .inr ⟨b, off + k * 3, rfl, hlt, fun j u hj => ?_⟩⟩
    rw [Nat.add_assoc]
    refine hc _ _ ?_
    have hsplit : css.flatten = (css.take k).flatten ++ (css.drop k).flatten := by rw [← List.flatten_append, List.take_append_drop]
    have hzz : (css.take k).flatten.length = k * 3 := by
     rw [qbd _ (fun cs hcs => h3 cs (List.mem_of_mem_take hcs)), List.length_take]; congr 1; omega
    rw [hsplit, List.getElem?_append_right (by omega), hzz, Nat.add_sub_cancel_left]
    exact hj
def FlD (w0 : World) (cs : List Value) (f : Fl) : Prop := ∃ x : Option Addr × Nat × Nat, cs = [.int .i64 f.kind, .slice x.1 x.2.1 x.2.2, .int .i64 f.ty] ∧ NmAt w0 (.slice x.1 x.2.1 x.2.2) f.owner
def FlDs (w0 : World) (css : List (List Value)) (fs : List Fl) : Prop := css.length = fs.length ∧ ∀ j (h1 : j < css.length) (h2 : j < fs.length), FlD w0 css[j] fs[j]
theorem FlDs.len3 {w0 : World} {css : List (List Value)} {fs : List Fl} (h : FlDs w0 css fs) : ∀ cs ∈ css, cs.length = 3 := fun cs hc => by
 obtain ⟨i, hi, rfl⟩ := List.mem_iff_getElem.1 hc
 obtain ⟨x, e, -⟩ := h.2 i hi (by have := h.1; omega)
 rw [e]; rfl
theorem FlDs.one3 {w0 : World} {css : List (List Value)} {fs : List Fl} (h : FlDs w0 css fs) : ∀ cs ∈ css, ∀ u ∈ cs, u.oneCell' = true := fun cs hc u hu => by
 obtain ⟨i, hi, rfl⟩ := List.mem_iff_getElem.1 hc
 obtain ⟨x, e, -⟩ := h.2 i hi (by have := h.1; omega)
 rw [e] at hu
 simp only [List.mem_cons, List.not_mem_nil, or_false] at hu
 rcases hu with rfl | rfl | rfl <;> rfl
theorem FlDs.gap {w0 : World} {css : List (List Value)} {fs : List Fl} (h : FlDs w0 css fs) (k : Nat) (hk : k ≤ fs.length) {cs : List Value} {f : Fl} (hf : FlD w0 cs f) : FlDs w0 (css.take k ++ [cs] ++ css.drop k) (fs.take k ++ f :: fs.drop k) := by
 have hl := h.1
 refine ⟨by simp [hl], fun j h1 h2 => ?_⟩
 have e1 : (css.take k).length = k := by rw [List.length_take]; omega
 have e2 : (fs.take k).length = k := by rw [List.length_take]; omega
 have key : FlD w0 ((css.take k ++ ([cs] ++ css.drop k))[j]'(by rw [← List.append_assoc]; exact h1)) (fs.take k ++ f :: fs.drop k)[j] := by
  rw [List.getElem_append, List.getElem_append]
  by_cases hj : j < k
  ·rw [dif_pos (by omega), dif_pos (by omega)]
   simp only [List.getElem_take]
   exact h.2 j (by omega) (by omega)
  ·rw [dif_neg (by omega), dif_neg (by omega)]
   by_cases hjk : j = k
   ·have z1 : j - (css.take k).length = 0 := by omega
    have z2 : j - (fs.take k).length = 0 := by omega
    simp only [z1, z2, List.cons_append, List.nil_append, List.getElem_cons_zero]
    exact hf
   ·obtain ⟨i, rfl⟩ : ∃ i, j = k + 1 + i := ⟨j - k - 1, by omega⟩
    have z1 : k + 1 + i - (css.take k).length = i + 1 := by omega
    have z2 : k + 1 + i - (fs.take k).length = i + 1 := by omega
    simp only [z1, z2, List.cons_append, List.nil_append, List.getElem_cons_succ, List.getElem_drop]
    simp only [List.length_append, List.length_take, List.length_drop, List.length_cons, List.length_nil] at h1 h2
    exact h.2 (k + i) (by omega) (by omega)
 simpa only [List.append_assoc] using key
def FlRow (w0 W : World) (v : Value) (fs : List Fl) : Prop := ∃ css, SlK W v css ∧ FlDs w0 css fs
theorem FlRow.below {w0 W W' : World} {v : Value} {fs : List Fl} (h : FlRow w0 W v fs) (hb : Below W.heap.size W W') : FlRow w0 W' v fs := by
 obtain ⟨css, h1, h2⟩ := h; exact ⟨css, h1.below hb, h2⟩
theorem FlRow.nil (w0 W : World) : FlRow w0 W (.slice none 0 0) [] := ⟨[], SlK.nil W, rfl, fun j h => absurd h (by simp)⟩
theorem FlRow.shape {w0 W : World} {v : Value} {fs : List Fl} (h : FlRow w0 W v fs) : ∃ a c, v = .slice a fs.length c := by
 obtain ⟨css, ⟨a, c, e, _⟩, h2⟩ := h; exact ⟨a, c, by rw [e, h2.1]⟩
def qaK (w0 w : World) (fs : List Fl) (e : Ending) (w' : World) : Prop := ∃ v, e = .returned v ∧ FlRow w0 w' v fs ∧ Below w.heap.size w w'
theorem qha {w0 w : World} (v : Value) (l : List Fl) (b0 : Option Addr) (m0 d0 : Nat) (f : Fl) (hL : FlRow w0 w v l) (hb0 : Below w0.heap.size w0 w) (hF : NmAt w0 (.slice b0 m0 d0) f.owner) (hko : NmOK f.owner) (hoks : ∀ g ∈ l, NmOK g.owner) (hl : l.length ≤ 1000000) :
 Calls Tryz.prog 26 #[v, .agg #[.int .i64 f.kind, .slice b0 m0 d0, .int .i64 f.ty]] w (qaK w0 w (addF l f)) := by
 obtain ⟨css, hs, hd⟩ := hL
 obtain ⟨a, c, rfl, hcc, -⟩ := id hs
 obtain ⟨n, hn⟩ : ∃ n, css.length = n := ⟨_, rfl⟩
 have hln : l.length = n := by rw [← hn]; exact hd.1.symm
 rw [hn] at hs hcc ⊢
 have HS := qH0 hs; have HD := qH0 hd; have HN := qH0 hn; have HLN := qH0 hln
 have HF := qH0 hF; have HKO := qH0 hko; have HOKS := qH0 hoks; have HB00 := qH0 hb0
 have hn6 : n ≤ 1000000 := by omega
 have X0 := knew w (.cells #[.int .i64 f.kind, .slice b0 m0 d0, .int .i64 f.ty] 56)
 have hB0 := (Below.refl w.heap.size w).alloc (qN0) (.cells #[.int .i64 f.kind, .slice b0 m0 d0, .int .i64 f.ty] 56)
 obtain ⟨W0, hW0⟩ : ∃ W, w.alloc (.cells #[.int .i64 f.kind, .slice b0 m0 d0, .int .i64 f.ty] 56) = W := ⟨_, rfl⟩
 rw [hW0] at X0 hB0
 have HB0 := qH0 hB0
 have HY := qH0 (fun (W : World) (hb : Below W0.heap.size W0 W) => (show W.cell? ⟨w.heap.size, 0, none⟩ = some (.int .i64 f.kind) ∧ W.cell? ⟨w.heap.size, 1, none⟩ = some (.slice b0 m0 d0) ∧ W.cell? ⟨w.heap.size, 2, none⟩ = some (.int .i64 f.ty) from
  ⟨kcell ((hb.block _ (qaa X0)).trans X0) 0 _ rfl, kcell ((hb.block _ (qaa X0)).trans X0) 1 _ rfl, kcell ((hb.block _ (qaa X0)).trans X0) 2 _ rfl⟩))
 have HCF := qH0 (fun (g : Fl) (x0 : Option Addr) (x1 x2 : Nat) (hx : NmAt w0 (.slice x0 x1 x2) g.owner) (hg : NmOK g.owner) (W : World) (hb : Below W0.heap.size W0 W) => qeJ x0 x1 x2 b0 m0 d0 g f W (hx.below (hb0.trans ((qB0 hB0 hb).mono hb0.size))) (hF.below (hb0.trans ((qB0 hB0 hb).mono hb0.size))) hg hko)
 have HGAP := qH0 (fun k h1 h2 h3 => qgR l f k h1 h2 h3)
 have HHIT := qH0 (fun k h1 h2 h3 => qg4 l f k h1 h2 h3)
 generalize addF l f = res at *
 obtain ⟨B, hB⟩ : ∃ B, w.heap.size = B := ⟨_, rfl⟩
 rw [hB] at HY
 clear hs hd hn hln hF hko hoks hb0 hl X0 hB0
 go_enter Tryz.func26, Tryz.ntmps26
 go_upto_block 0 with fail
 clear hW0 hB
 go_cut [5] (fun vi wx => ∃ k : Nat, vi = .int .i64 k ∧ k ≤ n ∧ Hid (∀ j (h : j < l.length), j < k → qaj l[j] f < 0) ∧ Hid (∀ h : k < l.length, 0 ≤ qaj l[k] f) ∧ Hid (Below W0.heap.size W0 wx))
 case first =>
  go_wp2_with fail
  go_loopw [5] (fun vi wr => ∃ k : Nat, vi = .int .i64 k ∧ k ≤ n ∧ Hid (∀ j (h : j < l.length), j < k → qaj l[j] f < 0) ∧ Hid (Below W0.heap.size W0 wr)) (fun vi _ => n - (intOf vi).toNat)
  case atStart => exact ⟨0, rfl, Nat.zero_le _, qH0 (fun j h e => absurd e (by omega)), qH0 (qL0)⟩
  case round =>
   obtain ⟨k, rfl, hk, HLT, HB⟩ := hrel
   by_cases hlt : k < n
   ·have hltz : (k : Int) < (n : Int) := by omega
    have hk1 : k < css.length := by have := HN.out; omega
    have hk2 : k < l.length := by have := HLN.out; omega
    have hne : Nonempty (WIn (fun W => Below W0.heap.size W0 W)) := ⟨⟨wr, HB.out⟩⟩
    have hcl : (fun W => Below W0.heap.size W0 W) wr.drew := HB.out.trans ⟨rfl, rfl, rfl, qN0, fun _ _ => rfl⟩
    obtain ⟨b, off, rfl, hb, hel⟩ := HS.out.elem3 HD.out.len3 (by omega)
    obtain ⟨⟨x0, x1, x2⟩, e0, hx⟩ := HD.out.2 k hk1 hk2
    have hgo := HOKS.out _ (List.getElem_mem hk2)
    simp only at e0 hx
    obtain ⟨g, hg⟩ : ∃ g, l[k]'hk2 = g := ⟨_, rfl⟩
    have HG := qH0 (show ∀ h : k < l.length, l[k]'h = g from fun _ => hg)
    rw [hg] at e0 hx hgo
    have h0 := HCF.out g x0 x1 x2 hx hgo
    obtain ⟨cv, hcv0⟩ : ∃ c, qaj g f = c := ⟨_, rfl⟩
    rw [hcv0] at h0
    have HCV := qH0 hcv0
    have f0 := fun p : WIn (fun W => Below W0.heap.size W0 W) => (HY.out p.w p.ok).1
    have f1 := fun p : WIn (fun W => Below W0.heap.size W0 W) => (HY.out p.w p.ok).2.1
    have f2 := fun p : WIn (fun W => Below W0.heap.size W0 W) => (HY.out p.w p.ok).2.2
    have g0 := fun p : WIn (fun W => Below W0.heap.size W0 W) => (hel k hk1 _ _ _ e0 p.w (HB0.out.trans (p.ok.mono HB0.out.size))).1
    have g1 := fun p : WIn (fun W => Below W0.heap.size W0 W) => (hel k hk1 _ _ _ e0 p.w (HB0.out.trans (p.ok.mono HB0.out.size))).2.1
    have g2 := fun p : WIn (fun W => Below W0.heap.size W0 W) => (hel k hk1 _ _ _ e0 p.w (HB0.out.trans (p.ok.mono HB0.out.size))).2.2
    have hcf := fun p : WIn (fun W => Below W0.heap.size W0 W) => Calls.cls (C := fun W => Below W0.heap.size W0 W) ((h0 p.w p.ok).mono fun _ _ ⟨hq, hb⟩ => ⟨hq, p.ok.trans (hb.mono p.ok.size)⟩)
    clear hel hx hgo hg hcv0 h0 e0 hk1 hk2 hb
    by_cases hcv : cv < 0
    ·go_wp2_with fail
     refine qad (fun W => Below W0.heap.size W0 W) qae (by kernel_rfl) hcl ?_
     repeat (go_big_quiet_step (exact hcf _))
     refine wpQuiet_nil ?_
     rintro _ ⟨p, rfl⟩
     have HP := qH0 p.ok
     clear hcf f0 f1 f2 g0 g1 g2
     go_wp2
     go_roundw
     case measure => simp [intOf]; omega
     case rel => exact ⟨k + 1, by go_num, by omega, qH0 (fun j h e => by
      by_cases hj : j < k
      ·exact HLT.out j h hj
      ·obtain rfl : j = k := by omega
       rw [HG.out h, HCV.out]; exact hcv), HP⟩
    ·go_wp2_with fail
     refine qad (fun W => Below W0.heap.size W0 W) qae (by kernel_rfl) hcl ?_
     repeat (go_big_quiet_step (exact hcf _))
     refine wpQuiet_nil ?_
     rintro _ ⟨p, rfl⟩
     have HP := qH0 p.ok
     clear hcf f0 f1 f2 g0 g1 g2
     go_wp2_with fail
     go_meet
     exact ⟨k, rfl, hk, HLT, qH0 (fun h => by rw [HG.out h, HCV.out]; omega), HP⟩
   ·obtain rfl : k = n := by omega
    have hne : Nonempty (WIn (fun W => Below W0.heap.size W0 W)) := ⟨⟨wr, HB.out⟩⟩
    have hcl : (fun W => Below W0.heap.size W0 W) wr.drew := HB.out.trans ⟨rfl, rfl, rfl, qN0, fun _ _ => rfl⟩
    go_wp2_with fail
    refine qad (fun W => Below W0.heap.size W0 W) qae (by kernel_rfl) hcl ?_
    repeat (go_big_quiet_step (fail))
    refine wpQuiet_nil ?_
    rintro _ ⟨p, rfl⟩
    have HP := qH0 p.ok
    go_wp2_with fail
    go_meet
    exact ⟨k, rfl, qN0, HLT, qH0 (fun h => absurd h (by have := HLN.out; omega)), HP⟩
 case rest =>
 rename World => wr
 obtain ⟨k, rfl, hk, HLT, HGE, HB⟩ := hcut
 go_upto_region 4 with (fail)
 go_cut [34] (fun vb wx => ∃ b : Bool, vb = .bool b ∧ Hid (b = true → res = l) ∧ Hid (b = false → res = l.take k ++ f :: l.drop k) ∧ Hid (Below W0.heap.size W0 wx))
 case first =>
  by_cases hlt : k < n
  ·have hltz : (k : Int) < (n : Int) := by omega
   have hk1 : k < css.length := by have := HN.out; omega
   have hk2 : k < l.length := by have := HLN.out; omega
   have hne : Nonempty (WIn (fun W => Below W0.heap.size W0 W)) := ⟨⟨wr, HB.out⟩⟩
   have hcl : (fun W => Below W0.heap.size W0 W) wr.drew := HB.out.trans ⟨rfl, rfl, rfl, qN0, fun _ _ => rfl⟩
   obtain ⟨b, off, rfl, hb, hel⟩ := HS.out.elem3 HD.out.len3 (by omega)
   obtain ⟨⟨x0, x1, x2⟩, e0, hx⟩ := HD.out.2 k hk1 hk2
   have hgo := HOKS.out _ (List.getElem_mem hk2)
   simp only at e0 hx
   obtain ⟨g, hg⟩ : ∃ g, l[k]'hk2 = g := ⟨_, rfl⟩
   have HG := qH0 (show ∀ h : k < l.length, l[k]'h = g from fun _ => hg)
   rw [hg] at e0 hx hgo
   have h0 := HCF.out g x0 x1 x2 hx hgo
   obtain ⟨cv, hcv0⟩ : ∃ c, qaj g f = c := ⟨_, rfl⟩
   rw [hcv0] at h0
   have HCV := qH0 hcv0
   have f0 := fun p : WIn (fun W => Below W0.heap.size W0 W) => (HY.out p.w p.ok).1
   have f1 := fun p : WIn (fun W => Below W0.heap.size W0 W) => (HY.out p.w p.ok).2.1
   have f2 := fun p : WIn (fun W => Below W0.heap.size W0 W) => (HY.out p.w p.ok).2.2
   have g0 := fun p : WIn (fun W => Below W0.heap.size W0 W) => (hel k hk1 _ _ _ e0 p.w (HB0.out.trans (p.ok.mono HB0.out.size))).1
   have g1 := fun p : WIn (fun W => Below W0.heap.size W0 W) => (hel k hk1 _ _ _ e0 p.w (HB0.out.trans (p.ok.mono HB0.out.size))).2.1
   have g2 := fun p : WIn (fun W => Below W0.heap.size W0 W) => (hel k hk1 _ _ _ e0 p.w (HB0.out.trans (p.ok.mono HB0.out.size))).2.2
   have hcf := fun p : WIn (fun W => Below W0.heap.size W0 W) => Calls.cls (C := fun W => Below W0.heap.size W0 W) ((h0 p.w p.ok).mono fun _ _ ⟨hq, hb⟩ => ⟨hq, p.ok.trans (hb.mono p.ok.size)⟩)
   clear hel hx hgo hg hcv0 h0 e0 hk1 hk2 hb
   by_cases hcv : cv = 0
   ·have HH : Hid (res = l) := qH0 (HHIT.out k (by have := HLN.out; omega) HLT.out (by rw [HG.out, HCV.out]; exact hcv))
    subst hcv
    go_wp2_with fail
    refine qad (fun W => Below W0.heap.size W0 W) qae (by kernel_rfl) hcl ?_
    repeat (go_big_quiet_step (exact hcf _))
    refine wpQuiet_nil ?_
    rintro _ ⟨p, rfl⟩
    have HP := qH0 p.ok
    clear hcf f0 f1 f2 g0 g1 g2
    go_wp2_with fail
    go_meet
    exact ⟨true, rfl, qH0 (fun _ => HH.out), qH0 (fun e => by cases e), HP⟩
   ·have HH : Hid (res = l.take k ++ f :: l.drop k) := qH0 (HGAP.out k (by have := HLN.out; omega) HLT.out (fun h => by have h1 := HGE.out h; rw [HG.out h, HCV.out] at h1 ⊢; omega))
    have hcb : (cv == 0) = false := by simpa using hcv
    go_wp2_with fail
    refine qad (fun W => Below W0.heap.size W0 W) qae (by kernel_rfl) hcl ?_
    repeat (go_big_quiet_step (exact hcf _))
    refine wpQuiet_nil ?_
    rintro _ ⟨p, rfl⟩
    have HP := qH0 p.ok
    clear hcf f0 f1 f2 g0 g1 g2
    go_wp2_with fail
    go_meet
    exact ⟨false, rfl, qH0 (fun e => by cases e), qH0 (fun _ => HH.out), HP⟩
  ·obtain rfl : k = n := by omega
   have HH : Hid (res = l.take k ++ f :: l.drop k) := qH0 (HGAP.out k (by have := HLN.out; omega) HLT.out (fun h => absurd h (by have := HLN.out; omega)))
   have hne : Nonempty (WIn (fun W => Below W0.heap.size W0 W)) := ⟨⟨wr, HB.out⟩⟩
   have hcl : (fun W => Below W0.heap.size W0 W) wr.drew := HB.out.trans ⟨rfl, rfl, rfl, qN0, fun _ _ => rfl⟩
   go_wp2_with fail
   refine qad (fun W => Below W0.heap.size W0 W) qae (by kernel_rfl) hcl ?_
   repeat (go_big_quiet_step (fail))
   refine wpQuiet_nil ?_
   rintro _ ⟨p, rfl⟩
   have HP := qH0 p.ok
   go_wp2_with fail
   go_meet
   exact ⟨false, rfl, qH0 (fun e => by cases e), qH0 (fun _ => HH.out), HP⟩
 case rest =>
 rename World => W2
 obtain ⟨b, rfl, HT, HFF, HB2⟩ := hcut
 have HBW := qH0 (qB0 HB0.out HB2.out)
 cases b
 ·have HR := qH0 (HFF.out rfl)
  have HX := qH0 (show FlD w0 [.int .i64 f.kind, .slice b0 m0 d0, .int .i64 f.ty] f from ⟨(b0, m0, d0), rfl, HF.out⟩)
  have HTA := qH0 (HS.out.below HBW.out |>.takeK k hk)
  have HLK := qH0 (show (css.take k).length = k by rw [List.length_take]; have := HN.out; omega)
  have HLD := qH0 (show (css.drop k).length = n - k by rw [List.length_drop]; have := HN.out; omega)
  have HCK := qH0 (fun cs (h : cs ∈ css.take k) => HD.out.len3 cs (List.mem_of_mem_take h))
  have HC1 := qH0 (fun cs (h : cs ∈ css.take k) => HD.out.one3 cs (List.mem_of_mem_take h))
  have HDK := qH0 (fun cs (h : cs ∈ css.drop k) => HD.out.len3 cs (List.mem_of_mem_drop h))
  have HD1 := qH0 (fun cs (h : cs ∈ css.drop k) => HD.out.one3 cs (List.mem_of_mem_drop h))
  have HX3 := qH0 (show ∀ cs ∈ ([[.int .i64 f.kind, .slice b0 m0 d0, .int .i64 f.ty]] : List (List Value)), cs.length = 3 by intro cs hc; rw [List.mem_singleton] at hc; subst hc; rfl)
  have HX1 := qH0 (show ∀ cs ∈ ([[.int .i64 f.kind, .slice b0 m0 d0, .int .i64 f.ty]] : List (List Value)), ∀ u ∈ cs, u.oneCell' = true by
   intro cs hc u hu; rw [List.mem_singleton] at hc; subst hc
   simp only [List.mem_cons, List.not_mem_nil, or_false] at hu
   rcases hu with rfl | rfl | rfl <;> rfl)
  have hk0 : (0 : Int) ≤ (k : Int) := by omega
  have hkm1 : (k : Int) ≤ (n : Int) := by omega
  have hkc1 : (k : Int) ≤ (c : Int) := by omega
  have hmc1 : (n : Int) ≤ (c : Int) := by omega
  have HNK := qH0 (show k ≤ 1000000 ∧ n ≤ 1000000 by omega)
  go_upto_region 6 with (fail)
  go_cut [6] (fun v wx => ∃ (a6 : Option Addr) (c6 : Nat), v = .slice a6 (k + 1) c6 ∧ Hid (OwnC 3 56 wx W2.heap.size (.slice a6 (k + 1) c6) (css.take k ++ [[.int .i64 f.kind, .slice b0 m0 d0, .int .i64 f.ty]])) ∧ Hid (Below W2.heap.size W2 wx))
  case first =>
   have hbd : Below W2.heap.size W2 W2.drew := ⟨rfl, rfl, rfl, qN0, fun _ _ => rfl⟩
   have hbA : Below W2.heap.size W2 (W2.alloc (.cells #[] 56)).drew := hbd.alloc (qN0) _
   have hbB : Below W2.heap.size W2 ((W2.alloc (.cells #[] 56)).alloc (.cells #[.int .i64 f.kind, .slice b0 m0 d0, .int .i64 f.ty] 56)).drew := hbA.alloc (by simp) _
   have hbC : Below W2.heap.size W2 ((W2.alloc (.cells #[.int .i64 f.kind, .slice b0 m0 d0, .int .i64 f.ty] 56)).alloc (.cells #[] 56)).drew := (hbd.alloc (qN0) _).alloc (by simp) _
   have HBA := qH0 hbA; have HBB := qH0 hbB; have HBC := qH0 hbC
   have HOA := qH0 (show OwnC 3 56 ((W2.alloc (.cells #[] 56)).drew) W2.heap.size (.slice (some ⟨W2.heap.size, 0, none⟩) 0 0) [] from qau 3 56 W2.drew)
   have HOB := qH0 (show OwnC 3 56 (((W2.alloc (.cells #[] 56)).alloc (.cells #[.int .i64 f.kind, .slice b0 m0 d0, .int .i64 f.ty] 56)).drew) W2.heap.size (.slice (some ⟨W2.heap.size, 0, none⟩) 0 0) [] from OwnK.alloc (qau 3 56 W2.drew) _)
   have hoC := qau 3 56 (W2.drew.alloc (.cells #[.int .i64 f.kind, .slice b0 m0 d0, .int .i64 f.ty] 56))
   rw [World.size_alloc] at hoC
   have HOC := qH0 (show OwnC 3 56 (((W2.alloc (.cells #[.int .i64 f.kind, .slice b0 m0 d0, .int .i64 f.ty] 56)).alloc (.cells #[] 56)).drew) W2.heap.size (.slice (some ⟨W2.heap.size + 1, 0, none⟩) 0 0) [] from OwnK.weaken hoC (by show W2.heap.size ≤ W2.heap.size + 1; omega))
   have hkB := knew (W2.drew.alloc (.cells #[] 56)) (.cells #[.int .i64 f.kind, .slice b0 m0 d0, .int .i64 f.ty] 56)
   rw [World.size_alloc] at hkB
   have HKB := qH0 (show ((W2.alloc (.cells #[] 56)).alloc (.cells #[.int .i64 f.kind, .slice b0 m0 d0, .int .i64 f.ty] 56)).drew.heap[W2.heap.size + 1]? = some (.cells #[.int .i64 f.kind, .slice b0 m0 d0, .int .i64 f.ty] 56) from hkB)
   have HKC := qH0 (show ((W2.alloc (.cells #[.int .i64 f.kind, .slice b0 m0 d0, .int .i64 f.ty] 56)).alloc (.cells #[] 56)).drew.heap[W2.heap.size]? = some (.cells #[.int .i64 f.kind, .slice b0 m0 d0, .int .i64 f.ty] 56) from (Below.heap_alloc (W2.drew.alloc (.cells #[.int .i64 f.kind, .slice b0 m0 d0, .int .i64 f.ty] 56)) (.cells #[] 56) W2.heap.size (by simp)).trans (knew W2.drew (.cells #[.int .i64 f.kind, .slice b0 m0 d0, .int .i64 f.ty] 56)))
   obtain ⟨c0, c1, c2⟩ := HY.out W2.drew (qB0 HB2.out hbd)
   obtain ⟨d0', d1, d2⟩ := HY.out ((W2.alloc (.cells #[] 56)).drew) (qB0 HB2.out hbA)
   have H4A := qH0 (qah ((W2.alloc (.cells #[] 56)).drew) (.tmp 36) (.tmp 39) qbc (by decide) W2.heap.size (.slice (some ⟨W2.heap.size, 0, none⟩) 0 0) [] HOA.out (.slice a k c) (css.take k) (HTA.out.below HBA.out) HCK.out HC1.out HBA.out.size (by have := HNK.out; rw [HLK.out]; unfold maxLen; simp <;> omega) (by have := HNK.out; rw [HLK.out]; simp <;> omega))
   have H4B := qH0 (qah (((W2.alloc (.cells #[] 56)).alloc (.cells #[.int .i64 f.kind, .slice b0 m0 d0, .int .i64 f.ty] 56)).drew) (.tmp 36) (.tmp 39) qbc (by decide) W2.heap.size (.slice (some ⟨W2.heap.size, 0, none⟩) 0 0) [] HOB.out (.slice a k c) (css.take k) (HTA.out.below HBB.out) HCK.out HC1.out HBB.out.size (by have := HNK.out; rw [HLK.out]; unfold maxLen; simp <;> omega) (by have := HNK.out; rw [HLK.out]; simp <;> omega))
   have H4C := qH0 (qah (((W2.alloc (.cells #[.int .i64 f.kind, .slice b0 m0 d0, .int .i64 f.ty] 56)).alloc (.cells #[] 56)).drew) (.tmp 36) (.tmp 39) qbc (by decide) W2.heap.size (.slice (some ⟨W2.heap.size + 1, 0, none⟩) 0 0) [] HOC.out (.slice a k c) (css.take k) (HTA.out.below HBC.out) HCK.out HC1.out HBC.out.size (by have := HNK.out; rw [HLK.out]; unfold maxLen; simp <;> omega) (by have := HNK.out; rw [HLK.out]; simp <;> omega))
   clear hbd hbA hbB hbC hoC hkB
   go_wp2_with fail
   go_region_law (first
    | ((with_reducible refine H4A.out _ _ _ _ _ _ ?_ ?_ ?_ ?_ ?_); exact rfl; exact rfl; exact rfl; exact rfl; intro v4 w4 ho4 hg4; rw [List.nil_append] at ho4; have HO4 := qH0 ho4; have HB4 := qH0 (HBA.out.grown hg4 HBA.out.size (OwnK.base_le HOA.out)); have H10 := qH0 (qah (w4.alloc (.cells #[.int .i64 f.kind, .slice b0 m0 d0, .int .i64 f.ty] 56)) (.tmp 40) (.tmp 42) qbc (by decide) W2.heap.size v4 (css.take k) (OwnK.alloc HO4.out _) (.slice (some ⟨w4.heap.size, 0, none⟩) 1 1) [[.int .i64 f.kind, .slice b0 m0 d0, .int .i64 f.ty]] (qay (css := [[.int .i64 f.kind, .slice b0 m0 d0, .int .i64 f.ty]]) (knew w4 _)) HX3.out HX1.out (by have := HB4.out.size; simp <;> omega) (by have := HNK.out; rw [HLK.out]; unfold maxLen; simp <;> omega) (by have := HNK.out; rw [HLK.out]; simp <;> omega)); have H10B := qH0 (fun (w5 : World) (hg : World.grownBy (w4.alloc (.cells #[.int .i64 f.kind, .slice b0 m0 d0, .int .i64 f.ty] 56)) w5 v4.ownBlock) => ((HB4.out.alloc HB4.out.size _).grown hg (by have := HB4.out.size; simp <;> omega) (OwnK.base_le HO4.out))); obtain ⟨e0, e1, e2⟩ := HY.out w4 (qB0 HB2.out HB4.out); clear ho4 hg4)
    | ((with_reducible refine H4B.out _ _ _ _ _ _ ?_ ?_ ?_ ?_ ?_); exact rfl; exact rfl; exact rfl; exact rfl; intro v4 w4 ho4 hg4; rw [List.nil_append] at ho4; have HO4 := qH0 ho4; have HB4 := qH0 (HBB.out.grown hg4 HBB.out.size (OwnK.base_le HOB.out)); have HBX := qH0 ((hg4.block (W2.heap.size + 1) (qaa HKB.out) (by simp [Value.ownBlock])).trans HKB.out); have H10 := qH0 (qah (w4) (.tmp 40) (.tmp 42) qbc (by decide) W2.heap.size v4 (css.take k) (HO4.out) (.slice (some ⟨W2.heap.size + 1, 0, none⟩) 1 1) [[.int .i64 f.kind, .slice b0 m0 d0, .int .i64 f.ty]] (qay (css := [[.int .i64 f.kind, .slice b0 m0 d0, .int .i64 f.ty]]) HBX.out) HX3.out HX1.out (HB4.out.size) (by have := HNK.out; rw [HLK.out]; unfold maxLen; simp <;> omega) (by have := HNK.out; rw [HLK.out]; simp <;> omega)); have H10B := qH0 (fun (w5 : World) (hg : World.grownBy w4 w5 v4.ownBlock) => (HB4.out.grown hg HB4.out.size (OwnK.base_le HO4.out))); clear ho4 hg4)
    | ((with_reducible refine H4C.out _ _ _ _ _ _ ?_ ?_ ?_ ?_ ?_); exact rfl; exact rfl; exact rfl; exact rfl; intro v4 w4 ho4 hg4; rw [List.nil_append] at ho4; have HO4 := qH0 ho4; have HB4 := qH0 (HBC.out.grown hg4 HBC.out.size (OwnK.base_le HOC.out)); have HBX := qH0 ((hg4.block (W2.heap.size) (qaa HKC.out) (by simp [Value.ownBlock])).trans HKC.out); have H10 := qH0 (qah (w4) (.tmp 40) (.tmp 42) qbc (by decide) W2.heap.size v4 (css.take k) (HO4.out) (.slice (some ⟨W2.heap.size, 0, none⟩) 1 1) [[.int .i64 f.kind, .slice b0 m0 d0, .int .i64 f.ty]] (qay (css := [[.int .i64 f.kind, .slice b0 m0 d0, .int .i64 f.ty]]) HBX.out) HX3.out HX1.out (HB4.out.size) (by have := HNK.out; rw [HLK.out]; unfold maxLen; simp <;> omega) (by have := HNK.out; rw [HLK.out]; simp <;> omega)); have H10B := qH0 (fun (w5 : World) (hg : World.grownBy w4 w5 v4.ownBlock) => (HB4.out.grown hg HB4.out.size (OwnK.base_le HO4.out))); clear ho4 hg4)
    | ((with_reducible refine H10.out _ _ _ _ _ _ ?_ ?_ ?_ ?_ ?_); exact rfl; exact rfl; exact rfl; exact rfl; intro v5 w5 ho5 hg5; have HO5 := qH0 ho5; have HB5 := qH0 (H10B.out w5 hg5); clear ho5 hg5))
   all_goals
    obtain ⟨a5, z5, e5⟩ := OwnK.shape HO5.out
    rw [List.length_append, HLK.out] at e5
    simp only [List.length_cons, List.length_nil, Nat.zero_add] at e5
    subst e5
    clear c0 c1 c2 d0' d1 d2
    go_wp2_with fail
    go_meet
    exact ⟨_, _, rfl, HO5, HB5⟩
  case rest =>
  rename World => w5
  obtain ⟨a5, z5, rfl, HO5, HB5⟩ := hcut
  rcases qh9 HS.out HD.out.len3 hk with ⟨hck, hm⟩ | ⟨hck, hq0, hk0', ⟨ad, rfl⟩, hm⟩ | ⟨hck, hq0, g, off, rfl, hm⟩
  ·subst hck
   obtain rfl : n = c := by omega
   simp only [Nat.sub_self] at hm
   have HTD := qH0 hm
   clear hm
   go_wp2_with (at_builtin; refine qar w5 rfl (.tmp 44) (.tmp 47) qbc (by decide) rfl W2.heap.size (.slice a5 (n + 1) z5) _ rfl HO5.out (.slice a 0 0) (css.drop n) rfl (HTD.out.below (qB0 HBW.out HB5.out)) HDK.out HD1.out HB5.out.size (by have := HNK.out; rw [List.length_append, HLK.out, HLD.out]; unfold maxLen; simp <;> omega) (by have := HNK.out; rw [List.length_append, HLK.out, HLD.out]; simp <;> omega) ?_; intro v6 w6 ho6 hg6)
   have HO6 := qH0 ho6
   have HB6 := qH0 (HB5.out.grown hg6 HB5.out.size (OwnK.base_le HO5.out))
   clear ho6 hg6
   go_ret
   have HDS := HD.out.gap n (by have := HLN.out; omega) HX.out
   exact ⟨_, rfl, by rw [HR.out]; exact ⟨_, SlK.of_own HO6.out HDS.len3, HDS⟩, qB0 HBW.out HB6.out⟩
  ·subst hk0'
   subst hq0
   simp only [Nat.sub_zero] at hm
   have HTD := qH0 hm
   clear hm
   go_wp2_with (at_builtin; refine qar w5 rfl (.tmp 44) (.tmp 47) qbc (by decide) rfl W2.heap.size (.slice a5 (0 + 1) z5) _ rfl HO5.out (.slice (some ad) 0 c) (css.drop 0) rfl (HTD.out.below (qB0 HBW.out HB5.out)) HDK.out HD1.out HB5.out.size (by have := HNK.out; rw [List.length_append, HLK.out, HLD.out]; unfold maxLen; simp <;> omega) (by have := HNK.out; rw [List.length_append, HLK.out, HLD.out]; simp <;> omega) ?_; intro v6 w6 ho6 hg6)
   have HO6 := qH0 ho6
   have HB6 := qH0 (HB5.out.grown hg6 HB5.out.size (OwnK.base_le HO5.out))
   clear ho6 hg6
   go_ret
   have HDS := HD.out.gap 0 (by have := HLN.out; omega) HX.out
   exact ⟨_, rfl, by rw [HR.out]; exact ⟨_, SlK.of_own HO6.out HDS.len3, HDS⟩, qB0 HBW.out HB6.out⟩
  ·have HTD := qH0 hm
   clear hm
   go_wp2_with (at_builtin; refine qar w5 rfl (.tmp 44) (.tmp 47) qbc (by decide) rfl W2.heap.size (.slice a5 (k + 1) z5) _ rfl HO5.out (.slice (some ⟨g, off + k * 3, none⟩) (n - k) (c - k)) (css.drop k) rfl (HTD.out.below (qB0 HBW.out HB5.out)) HDK.out HD1.out HB5.out.size (by have := HNK.out; rw [List.length_append, HLK.out, HLD.out]; unfold maxLen; simp <;> omega) (by have := HNK.out; rw [List.length_append, HLK.out, HLD.out]; simp <;> omega) ?_; intro v6 w6 ho6 hg6)
   have HO6 := qH0 ho6
   have HB6 := qH0 (HB5.out.grown hg6 HB5.out.size (OwnK.base_le HO5.out))
   clear ho6 hg6
   go_ret
   have HDS := HD.out.gap k (by have := HLN.out; omega) HX.out
   exact ⟨_, rfl, by rw [HR.out]; exact ⟨_, SlK.of_own HO6.out HDS.len3, HDS⟩, qB0 HBW.out HB6.out⟩
 ·have HR := qH0 (HT.out rfl)
  go_wp2
  go_ret
  exact ⟨_, rfl, by rw [HR.out]; exact ⟨css, HS.out.below HBW.out, HD.out⟩, HBW.out⟩
def addB (b : Bool) (l : List Fl) (f : Fl) : List Fl := if b = true then addF l f else l
def FOK (F : List Fl) (n : Nat) : Prop := (∀ g ∈ F, NmOK g.owner) ∧ F.length ≤ n
theorem qlo {F : List Fl} {n : Nat} {f : Fl} (h : FOK F n) (hf : NmOK f.owner) : FOK (addF F f) (n + 1) := ⟨fun g hg => by
 rcases qgP hg with hg | rfl
 ·exact h.1 g hg
 ·exact hf, by have := qkk F f; have := h.2; omega⟩
theorem qbs {F : List Fl} {n : Nat} {f : Fl} (b : Bool) (h : FOK F n) (hf : NmOK f.owner) : FOK (addB b F f) (n + 1) := by
 unfold addB
 split
 ·exact qlo h hf
 ·exact ⟨h.1, by have := h.2; omega⟩
theorem qh6 (o : Nm) (w : Int) (oth cov : Bool) (s : St) (F : List Fl) : (((kindsW o w oth cov s).map fun k => (⟨k, s.owner, s.ty⟩ : Fl))).foldl addF F = addB (kind9 s) (addB (kind8 w cov) (addB (kind7 w s) (addB (kind6 s) (addB (kind5 oth s) (addB (kind4 o w s) F ⟨4, s.owner, s.ty⟩) ⟨5, s.owner, s.ty⟩) ⟨6, s.owner, s.ty⟩) ⟨7, s.owner, s.ty⟩) ⟨8, s.owner, s.ty⟩) ⟨9, s.owner, s.ty⟩ := by
 unfold kindsW iff1 addB
 cases kind4 o w s <;> cases kind5 oth s <;> cases kind6 s <;> cases kind7 w s <;> cases kind8 w cov <;> cases kind9 s <;> rfl
theorem at0_R (o : Nm) (rs : List Rc) : (at0M o rs).foldl addF [] = addB (!hasM rs o 2) (addB (decide (1 < (dataM rs o 6).length)) (addB (!hasM rs o 6) [] ⟨1, o, 6⟩) ⟨2, o, 6⟩) ⟨3, o, 2⟩ := by
 rw [qhO, qhO]
 unfold at0M dataM addB
 cases h1 : ofM rs o 6 with
 | none =>
  cases h2 : ofM rs o 2 with
  | none => rfl
  | some s => rfl
 | some s =>
  by_cases hs : 1 < s.data.length
  ·cases h2 : ofM rs o 2 with
   | none => simp [hs]
   | some s => simp [hs]
  ·cases h2 : ofM rs o 2 with
   | none => simp [hs]
   | some s => simp [hs]
def KX (b : World) (w0 W : World) (v : Value) (F : List Fl) : Prop := Below b.heap.size b W ∧ FlRow w0 W v F
theorem KX.to {b w0 W W' : World} {v : Value} {F : List Fl} (h : KX b w0 W v F) (hb : Below W.heap.size W W') : KX b w0 W' v F := ⟨h.1.trans (hb.mono h.1.size), h.2.below hb⟩
def foldS (o : Nm) (rs : List Rc) (k : Nat) : List Fl := (((setsM rs).take k).flatMap fun s => (kindsM o rs (setsM rs) s).map fun k => (⟨k, s.owner, s.ty⟩ : Fl)).foldl addF ((at0M o rs).foldl addF [])
theorem qic (o : Nm) (rs : List Rc) {k : Nat} (h : k < (setsM rs).length) : foldS o rs (k + 1) = ((kindsM o rs (setsM rs) (setsM rs)[k]).map fun j => (⟨j, (setsM rs)[k].owner, (setsM rs)[k].ty⟩ : Fl)).foldl addF (foldS o rs k) := by
 unfold foldS
 rw [List.take_succ_eq_append_getElem h, List.flatMap_append, List.foldl_append]
 simp
theorem qjE (o : Nm) (rs : List Rc) : foldS o rs (setsM rs).length = checkM o rs := by
 unfold foldS checkM allF flawsM
 rw [List.take_length, List.foldl_append]
def qhS : Code → Option Nat
 | .region id _ _ => some id
 | .seq a _ => qhS a
 | _ => none
def qbt (n : Nat) : Code → Option Code
 | .seq a b => if qhS a = some n then some (.seq a b) else (qbt n a).or (qbt n b)
 | .scope c => qbt n c
 | .block _ c => qbt n c
 | .loop c => qbt n c
 | _ => none
noncomputable def qjm : Code := (Tryz.f9.body.bind (qbt 21)).getD .skip
theorem chk_t3 {w0 w W2 w5 : World} {za v1 : Option Addr} {zn zc m c : Nat} {o ow : Nm} {rs : List Rc} {B Bs N0 M : Nat} {p0 p3 : Option Addr} {q0 r0 q3 r3 : Nat} {ty tt wv : Int} {oth cov sm wl adr k4 k5 k6 k7 k8 k9 : Bool} {ga : Option Addr} {gm gc : Nat} {F0 GR : List Fl}
 (HY : Hid (∀ W, Below W2.heap.size W2 W → W.heap[B]? = some (.cells #[.slice za zn zc, .slice v1 m c] 37)))
 (HBW : Hid (∀ W, Below W2.heap.size W2 W → Below w.heap.size w W))
 (HSX : Hid (∀ W, Below W2.heap.size W2 W → W.heap[Bs]? = some (.cells #[.slice p0 q0 r0, .int .i64 ty, .int .u32 tt, .slice p3 q3 r3] 80)))
 (CCs : Hid (∀ W, Below w.heap.size w W → Calls Tryz.prog 31 #[.agg #[.slice za zn zc, .slice v1 m c], .slice p0 q0 r0] W fun e w' => e = .returned (.bool cov) ∧ Below W.heap.size W w'))
 (CTs : Hid (∀ W, Below w.heap.size w W → Calls Tryz.prog 30 #[.slice v1 m c, .slice p0 q0 r0] W (TyPost W (typesM ow rs))))
 (CNs : Hid (∀ W, Below w.heap.size w W → Calls Tryz.prog 17 #[.slice p0 q0 r0, .slice za zn zc] W fun e w' => e = .returned (.bool sm) ∧ Below W.heap.size W w'))
 (CLs : Hid (∀ W, Below w.heap.size w W → Calls Tryz.prog 32 #[.slice p0 q0 r0] W fun e w' => e = .returned (.bool wl) ∧ Below W.heap.size W w'))
 (CA : Hid (∀ (v : Value) (l : List Fl) (x0 : Option Addr) (x1 x2 : Nat) (f : Fl) (N : Nat), NmAt w0 (.slice x0 x1 x2) f.owner → NmOK f.owner → FOK l N → N ≤ 1000000 → ∀ W, Below w.heap.size w W → FlRow w0 W v l → Calls Tryz.prog 26 #[v, .agg #[.int .i64 f.kind, .slice x0 x1 x2, .int .i64 f.ty]] W (qaK w0 W (addF l f))))
 (HTYS : Hid (decide (1 < (typesM ow rs).length) = oth))
 (H4 : Hid ((decide (wv = 0) || (decide (ty = 6) && !sm)) = k4)) (H5 : Hid ((decide (ty = 5) && oth) = k5)) (H6 : Hid (((decide (ty = 5) || decide (ty = 39)) && decide (1 < q3)) = k6))
 (HAD : Hid ((decide (ty = 1) || decide (ty = 28)) = adr)) (H7 : Hid ((!adr && ((decide (wv = 2) && !decide (ty = 2)) || decide (wv = 3))) = k7)) (H8 : Hid ((decide (wv = 1) && cov) = k8)) (H9 : Hid ((decide (ty = 2) && wl) = k9))
 (HFK : Hid (GR = (addB k9 (addB k8 (addB k7 F0 ⟨7, ow, ty⟩) ⟨8, ow, ty⟩) ⟨9, ow, ty⟩))) (HOW : Hid (NmAt w0 (.slice p0 q0 r0) ow)) (HOK : Hid (NmOK ow)) (HN0 : Hid (N0 ≤ 900000)) (HM : Hid (N0 + 3 = M))
 (HK : Hid (KX W2 w0 w5 (.slice ga gm gc) F0)) (HFB : Hid (FOK F0 N0)) (x0 x2 x4 x5 x9 x10 x11 x12 x13 x14 x15 x16 x17 x18 x19 x20 x21 x22 x23 x24 x25 x26 x27 x28 x29 x30 x31 x32 x33 x34 x35 x36 x37 x38 x39 x40 x41 x42 x43 x44 x45 x46 x47 x48 x49 x50 x51 x52 x53 x54 x55 x56 x57 x58 x59 x60 x61 x62 x63 x64 x65 x66 x67 x68 x69 x70 x71 x72 x73 x74 x75 x76 x77 x78 x79 x80 x81 x82 x83 x84 x85 x86 x87 x88 x89 x90 x91 x92 x93 x94 x95 x96 x97 x98 x99 x100 x101 x102 x103 x104 x105 x106 x107 x108 x109 x110 x111 x112 x113 x114 x115 x116 x117 x118 x119 x120 x121 x122 x123 x124 x125 x126 x127 x128 x129 x130 x131 x132 x133 x134 x135 x136 x137 x138 x139 x140 x141 x142 x143 x144 x145 x146 x147 x148 x149 x150 x151 x152 x153 x154 x155 x156 x157 x158 x159 x160 x161 x162 x163 x164 x165 x166 x167 x168 x169 x170 x171 x172 x173 x174 x175 x176 x177 x178 x179 x180 x181 x182 x183 : Value) (Q : Exit → Act → World → Prop)
 (hQ : ∀ (a : Option Addr) (m c : Nat) (y8 y43 y44 y45 y46 y47 y48 y49 y50 y51 y52 y53 y54 y55 y56 y57 y58 y59 y60 y61 y62 y63 y64 y65 y66 y67 y68 y69 y70 y71 y72 y73 y74 y75 y76 y77 y78 y79 y80 y81 y82 y83 y84 y85 y86 y87 y88 y89 y90 y91 y92 y93 y94 y95 y96 y97 y98 y99 y100 y101 y102 y103 y104 y105 y106 y107 y108 y109 y110 y111 y112 y113 y114 y115 y116 y117 y118 y119 y120 y121 y122 y123 y124 y125 y126 y127 y128 y129 y130 y131 y132 y133 y134 y135 y136 y137 y138 y139 y140 y141 y142 y143 y144 y145 y146 y147 y148 y149 y150 y151 y152 y153 y154 y155 y156 y157 y158 y159 y160 y161 y162 y163 y164 y165 y166 y167 y168 y169 y170 y171 y172 y173 y174 y175 y176 y177 y178 y179 y180 y181 y182 : Value) (W : World), Hid (KX W2 w0 W (.slice a m c) GR) → Hid (FOK GR M) → Q .normal ⟨#[x0, .pointer (some ⟨B, 0, none⟩), x2, .slice a m c, x4, x5, .pointer (some ⟨Bs, 0, none⟩), .int .i64 wv, y8, x9, x10, x11, x12, x13, x14, x15, x16, x17, x18, x19, x20, x21, x22, x23, x24, x25, x26, x27, x28, x29, x30, x31, x32, x33, x34, x35, x36, x37, x38, x39, x40, x41, x42, y43, y44, y45, y46, y47, y48, y49, y50, y51, y52, y53, y54, y55, y56, y57, y58, y59, y60, y61, y62, y63, y64, y65, y66, y67, y68, y69, y70, y71, y72, y73, y74, y75, y76, y77, y78, y79, y80, y81, y82, y83, y84, y85, y86, y87, y88, y89, y90, y91, y92, y93, y94, y95, y96, y97, y98, y99, y100, y101, y102, y103, y104, y105, y106, y107, y108, y109, y110, y111, y112, y113, y114, y115, y116, y117, y118, y119, y120, y121, y122, y123, y124, y125, y126, y127, y128, y129, y130, y131, y132, y133, y134, y135, y136, y137, y138, y139, y140, y141, y142, y143, y144, y145, y146, y147, y148, y149, y150, y151, y152, y153, y154, y155, y156, y157, y158, y159, y160, y161, y162, y163, y164, y165, y166, y167, y168, y169, y170, y171, y172, y173, y174, y175, y176, y177, y178, y179, y180, y181, y182, x183], []⟩ W) :
 Code.wp Tryz.prog qjm Q ⟨#[x0, .pointer (some ⟨B, 0, none⟩), x2, .slice ga gm gc, x4, x5, .pointer (some ⟨Bs, 0, none⟩), .int .i64 wv, .bool adr, x9, x10, x11, x12, x13, x14, x15, x16, x17, x18, x19, x20, x21, x22, x23, x24, x25, x26, x27, x28, x29, x30, x31, x32, x33, x34, x35, x36, x37, x38, x39, x40, x41, x42, x43, x44, x45, x46, x47, x48, x49, x50, x51, x52, x53, x54, x55, x56, x57, x58, x59, x60, x61, x62, x63, x64, x65, x66, x67, x68, x69, x70, x71, x72, x73, x74, x75, x76, x77, x78, x79, x80, x81, x82, x83, x84, x85, x86, x87, x88, x89, x90, x91, x92, x93, x94, x95, x96, x97, x98, x99, x100, x101, x102, x103, x104, x105, x106, x107, x108, x109, x110, x111, x112, x113, x114, x115, x116, x117, x118, x119, x120, x121, x122, x123, x124, x125, x126, x127, x128, x129, x130, x131, x132, x133, x134, x135, x136, x137, x138, x139, x140, x141, x142, x143, x144, x145, x146, x147, x148, x149, x150, x151, x152, x153, x154, x155, x156, x157, x158, x159, x160, x161, x162, x163, x164, x165, x166, x167, x168, x169, x170, x171, x172, x173, x174, x175, x176, x177, x178, x179, x180, x181, x182, x183], []⟩ w5 := by
 have HQ := qH0 hQ
 clear hQ
 let BQ : Exit → Act → World → Prop := bodyPost Tryz.prog Tryz.f9 (fun _ _ => True)
 conv => arg 2; whnf
 conv => arg 4; zeta
 go_upto_region 21 with (fail)
 go_cut [145] (fun v wx => v = .bool k7 ∧ Hid (KX W2 w0 wx (.slice ga gm gc) F0))
 case first =>
  have x0 := HY.out w5 HK.out.1
  have hww := HBW.out w5 HK.out.1
  have y0 := kcell x0 0 _ rfl; have y1 := kcell x0 1 _ rfl
  have xs := HSX.out w5 HK.out.1
  have u0 := kcell xs 0 _ rfl; have u1 := kcell xs 1 _ rfl; have u2 := kcell xs 2 _ rfl; have u3 := kcell xs 3 _ rfl
  have HWW := qH0 hww
  clear x0 hww xs
  by_cases h2 : wv = 2
  ·subst h2
   by_cases t2 : ty = 2
   ·subst t2
    cases adr
    ·have HE : Hid (k7 = false) := qH0 (by rw [← H7.out]; simp [*])
     go_wp2_with fail
     go_meet
     exact ⟨by rw [HE.out], HK⟩
    ·have HE : Hid (k7 = false) := qH0 (by rw [← H7.out]; simp [*])
     go_wp2_with fail
     go_meet
     exact ⟨by rw [HE.out], HK⟩
   ·have t2b : (ty == 2) = false := by simpa using t2
    have t2c : (ty != 2) = true := by simpa using t2
    cases adr
    ·have HE : Hid (k7 = true) := qH0 (by rw [← H7.out]; simp [*])
     go_wp2_with fail
     go_meet
     exact ⟨by rw [HE.out], HK⟩
    ·have HE : Hid (k7 = false) := qH0 (by rw [← H7.out]; simp [*])
     go_wp2_with fail
     go_meet
     exact ⟨by rw [HE.out], HK⟩
  ·have h2b : (wv == 2) = false := by simpa using h2
   by_cases h3 : wv = 3
   ·subst h3
    cases adr
    ·have HE : Hid (k7 = true) := qH0 (by rw [← H7.out]; simp [*])
     go_wp2_with fail
     go_meet
     exact ⟨by rw [HE.out], HK⟩
    ·have HE : Hid (k7 = false) := qH0 (by rw [← H7.out]; simp [*])
     go_wp2_with fail
     go_meet
     exact ⟨by rw [HE.out], HK⟩
   ·have h3b : (wv == 3) = false := by simpa using h3
    have HE : Hid (k7 = false) := qH0 (by rw [← H7.out]; simp [*])
    go_wp2_with fail
    go_meet
    exact ⟨by rw [HE.out], HK⟩
 case rest =>
 rename World => wc3
 obtain ⟨rfl, HK2⟩ := hcut
 clear HK
 have HK := HK2
 clear HK2
 go_upto_if 145 with (fail)
 go_cut [3] (fun v wx => ∃ (a : Option Addr) (m c : Nat), v = .slice a m c ∧ Hid (KX W2 w0 wx (.slice a m c) (addB k7 F0 ⟨7, ow, ty⟩)))
 case first =>
  have x0 := HY.out wc3 HK.out.1
  have hww := HBW.out wc3 HK.out.1
  have y0 := kcell x0 0 _ rfl; have y1 := kcell x0 1 _ rfl
  have xs := HSX.out wc3 HK.out.1
  have u0 := kcell xs 0 _ rfl; have u1 := kcell xs 1 _ rfl; have u2 := kcell xs 2 _ rfl; have u3 := kcell xs 3 _ rfl
  have HWW := qH0 hww
  clear x0 hww xs
  cases k7
  ·go_wp2_with fail
   go_meet
   exact ⟨_, _, _, rfl, HK⟩
  ·have hc := CA.out (.slice ga gm gc) F0 p0 q0 r0 ⟨7, ow, ty⟩ (N0) HOW.out HOK.out HFB.out (by have := HN0.out; omega) wc3 HWW.out HK.out.2
   unfold qaK at hc
   go_wp2_with fail
   refine hc.mono ?_
   rintro e w9 ⟨v9, rfl, hr9, hb9⟩
   have hk9 : KX W2 w0 w9 v9 (addB true F0 ⟨7, ow, ty⟩) := ⟨HK.out.1.trans (hb9.mono HK.out.1.size), hr9⟩
   obtain ⟨a9, c9, rfl⟩ := hr9.shape
   generalize (addF F0 ⟨7, ow, ty⟩).length = m9 at *
   have HK9 := qH0 hk9
   clear hc hb9 hr9 hk9 y0 y1 u0 u1 u2 u3
   go_wp2_with fail
   go_meet
   exact ⟨_, _, _, rfl, HK9⟩
 case rest =>
 rename World => wd3
 obtain ⟨ga3, gm3, gc3, rfl, HK2⟩ := hcut
 clear HK
 have HK := HK2
 clear HK2
 have HFB2 := qH0 (qbs k7 HFB.out (f := ⟨7, ow, ty⟩) HOK.out)
 clear HFB
 have HFB := HFB2
 clear HFB2
 obtain ⟨G4, hF⟩ : ∃ G, addB k7 F0 ⟨7, ow, ty⟩ = G := ⟨_, rfl⟩
 rw [hF] at HFK HFB HK
 clear hF
 go_upto_region 23 with (fail)
 go_cut [160] (fun v wx => v = .bool k8 ∧ Hid (KX W2 w0 wx (.slice ga3 gm3 gc3) G4))
 case first =>
  have x0 := HY.out wd3 HK.out.1
  have hww := HBW.out wd3 HK.out.1
  have y0 := kcell x0 0 _ rfl; have y1 := kcell x0 1 _ rfl
  have xs := HSX.out wd3 HK.out.1
  have u0 := kcell xs 0 _ rfl; have u1 := kcell xs 1 _ rfl; have u2 := kcell xs 2 _ rfl; have u3 := kcell xs 3 _ rfl
  have HWW := qH0 hww
  clear x0 hww xs
  by_cases h1 : wv = 1
  ·subst h1
   have HE : Hid (k8 = cov) := qH0 (by rw [← H8.out]; simp [*])
   have hc := CCs.out wd3 HWW.out
   go_wp2_with fail
   refine hc.mono ?_
   rintro e w9 ⟨rfl, hb9⟩
   have HK9 := qH0 (HK.out.to hb9)
   clear hc hb9 y0 y1 u0 u1 u2 u3
   go_wp2_with fail
   go_meet
   exact ⟨by rw [HE.out], HK9⟩
  ·have h1b : (wv == 1) = false := by simpa using h1
   have HE : Hid (k8 = false) := qH0 (by rw [← H8.out]; simp [*])
   go_wp2_with fail
   go_meet
   exact ⟨by rw [HE.out], HK⟩
 case rest =>
 rename World => wc4
 obtain ⟨rfl, HK2⟩ := hcut
 clear HK
 have HK := HK2
 clear HK2
 go_upto_if 160 with (fail)
 go_cut [3] (fun v wx => ∃ (a : Option Addr) (m c : Nat), v = .slice a m c ∧ Hid (KX W2 w0 wx (.slice a m c) (addB k8 G4 ⟨8, ow, ty⟩)))
 case first =>
  have x0 := HY.out wc4 HK.out.1
  have hww := HBW.out wc4 HK.out.1
  have y0 := kcell x0 0 _ rfl; have y1 := kcell x0 1 _ rfl
  have xs := HSX.out wc4 HK.out.1
  have u0 := kcell xs 0 _ rfl; have u1 := kcell xs 1 _ rfl; have u2 := kcell xs 2 _ rfl; have u3 := kcell xs 3 _ rfl
  have HWW := qH0 hww
  clear x0 hww xs
  cases k8
  ·go_wp2_with fail
   go_meet
   exact ⟨_, _, _, rfl, HK⟩
  ·have hc := CA.out (.slice ga3 gm3 gc3) G4 p0 q0 r0 ⟨8, ow, ty⟩ (N0 + 1) HOW.out HOK.out HFB.out (by have := HN0.out; omega) wc4 HWW.out HK.out.2
   unfold qaK at hc
   go_wp2_with fail
   refine hc.mono ?_
   rintro e w9 ⟨v9, rfl, hr9, hb9⟩
   have hk9 : KX W2 w0 w9 v9 (addB true G4 ⟨8, ow, ty⟩) := ⟨HK.out.1.trans (hb9.mono HK.out.1.size), hr9⟩
   obtain ⟨a9, c9, rfl⟩ := hr9.shape
   generalize (addF G4 ⟨8, ow, ty⟩).length = m9 at *
   have HK9 := qH0 hk9
   clear hc hb9 hr9 hk9 y0 y1 u0 u1 u2 u3
   go_wp2_with fail
   go_meet
   exact ⟨_, _, _, rfl, HK9⟩
 case rest =>
 rename World => wd4
 obtain ⟨ga4, gm4, gc4, rfl, HK2⟩ := hcut
 clear HK
 have HK := HK2
 clear HK2
 have HFB2 := qH0 (qbs k8 HFB.out (f := ⟨8, ow, ty⟩) HOK.out)
 clear HFB
 have HFB := HFB2
 clear HFB2
 obtain ⟨G5, hF⟩ : ∃ G, addB k8 G4 ⟨8, ow, ty⟩ = G := ⟨_, rfl⟩
 rw [hF] at HFK HFB HK
 clear hF
 go_upto_region 25 with (fail)
 go_cut [175] (fun v wx => v = .bool k9 ∧ Hid (KX W2 w0 wx (.slice ga4 gm4 gc4) G5))
 case first =>
  have x0 := HY.out wd4 HK.out.1
  have hww := HBW.out wd4 HK.out.1
  have y0 := kcell x0 0 _ rfl; have y1 := kcell x0 1 _ rfl
  have xs := HSX.out wd4 HK.out.1
  have u0 := kcell xs 0 _ rfl; have u1 := kcell xs 1 _ rfl; have u2 := kcell xs 2 _ rfl; have u3 := kcell xs 3 _ rfl
  have HWW := qH0 hww
  clear x0 hww xs
  by_cases h2 : ty = 2
  ·subst h2
   have HE : Hid (k9 = wl) := qH0 (by rw [← H9.out]; simp [*])
   have hc := CLs.out wd4 HWW.out
   go_wp2_with fail
   refine hc.mono ?_
   rintro e w9 ⟨rfl, hb9⟩
   have HK9 := qH0 (HK.out.to hb9)
   clear hc hb9 y0 y1 u0 u1 u2 u3
   go_wp2_with fail
   go_meet
   exact ⟨by rw [HE.out], HK9⟩
  ·have h2b : (ty == 2) = false := by simpa using h2
   have HE : Hid (k9 = false) := qH0 (by rw [← H9.out]; simp [*])
   go_wp2_with fail
   go_meet
   exact ⟨by rw [HE.out], HK⟩
 case rest =>
 rename World => wc5
 obtain ⟨rfl, HK2⟩ := hcut
 clear HK
 have HK := HK2
 clear HK2
 have HFB2 := qH0 (qbs k9 HFB.out (f := ⟨9, ow, ty⟩) HOK.out)
 have HFE : Hid (FOK GR M) := qH0 (by rw [HFK.out, ← HM.out]; exact HFB2.out)
 have x0 := HY.out wc5 HK.out.1
 have hww := HBW.out wc5 HK.out.1
 have y0 := kcell x0 0 _ rfl; have y1 := kcell x0 1 _ rfl
 have xs := HSX.out wc5 HK.out.1
 have u0 := kcell xs 0 _ rfl; have u1 := kcell xs 1 _ rfl; have u2 := kcell xs 2 _ rfl; have u3 := kcell xs 3 _ rfl
 have HWW := qH0 hww
 clear x0 hww xs
 cases k9
 ·have HKE : Hid (KX W2 w0 wc5 (.slice ga4 gm4 gc4) GR) := qH0 (by rw [HFK.out]; exact HK.out)
  go_wp2
  exact HQ.out _ _ _ _ _ _ _ _ _ _ _ _ _ _ _ _ _ _ _ _ _ _ _ _ _ _ _ _ _ _ _ _ _ _ _ _ _ _ _ _ _ _ _ _ _ _ _ _ _ _ _ _ _ _ _ _ _ _ _ _ _ _ _ _ _ _ _ _ _ _ _ _ _ _ _ _ _ _ _ _ _ _ _ _ _ _ _ _ _ _ _ _ _ _ _ _ _ _ _ _ _ _ _ _ _ _ _ _ _ _ _ _ _ _ _ _ _ _ _ _ _ _ _ _ _ _ _ _ _ _ _ _ _ _ _ _ _ _ _ _ _ _ _ _  _ HKE HFE
 ·have hc := CA.out (.slice ga4 gm4 gc4) G5 p0 q0 r0 ⟨9, ow, ty⟩ (N0 + 2) HOW.out HOK.out HFB.out (by have := HN0.out; omega) wc5 HWW.out HK.out.2
  unfold qaK at hc
  go_wp2_with fail
  refine hc.mono ?_
  rintro e w9 ⟨v9, rfl, hr9, hb9⟩
  have hk9 : KX W2 w0 w9 v9 (addB true G5 ⟨9, ow, ty⟩) := ⟨HK.out.1.trans (hb9.mono HK.out.1.size), hr9⟩
  obtain ⟨a9, c9, rfl⟩ := hr9.shape
  generalize (addF G5 ⟨9, ow, ty⟩).length = m9 at *
  have HKE : Hid (KX W2 w0 w9 (.slice a9 m9 c9) GR) := qH0 (by rw [HFK.out]; exact hk9)
  clear hc hb9 hr9 hk9 y0 y1 u0 u1 u2 u3
  go_wp2
  exact HQ.out _ _ _ _ _ _ _ _ _ _ _ _ _ _ _ _ _ _ _ _ _ _ _ _ _ _ _ _ _ _ _ _ _ _ _ _ _ _ _ _ _ _ _ _ _ _ _ _ _ _ _ _ _ _ _ _ _ _ _ _ _ _ _ _ _ _ _ _ _ _ _ _ _ _ _ _ _ _ _ _ _ _ _ _ _ _ _ _ _ _ _ _ _ _ _ _ _ _ _ _ _ _ _ _ _ _ _ _ _ _ _ _ _ _ _ _ _ _ _ _ _ _ _ _ _ _ _ _ _ _ _ _ _ _ _ _ _ _ _ _ _ _ _ _  _ HKE HFE
noncomputable def qi1 : Code := (Tryz.f9.body.bind (qbt 17)).getD .skip
theorem chk_t2 {w0 w W2 w5 : World} {za v1 : Option Addr} {zn zc m c : Nat} {o ow : Nm} {rs : List Rc} {B Bs N0 M : Nat} {p0 p3 : Option Addr} {q0 r0 q3 r3 : Nat} {ty tt wv : Int} {oth cov sm wl adr k4 k5 k6 k7 k8 k9 : Bool} {ga : Option Addr} {gm gc : Nat} {F0 GR : List Fl}
 (HY : Hid (∀ W, Below W2.heap.size W2 W → W.heap[B]? = some (.cells #[.slice za zn zc, .slice v1 m c] 37)))
 (HBW : Hid (∀ W, Below W2.heap.size W2 W → Below w.heap.size w W))
 (HSX : Hid (∀ W, Below W2.heap.size W2 W → W.heap[Bs]? = some (.cells #[.slice p0 q0 r0, .int .i64 ty, .int .u32 tt, .slice p3 q3 r3] 80)))
 (CCs : Hid (∀ W, Below w.heap.size w W → Calls Tryz.prog 31 #[.agg #[.slice za zn zc, .slice v1 m c], .slice p0 q0 r0] W fun e w' => e = .returned (.bool cov) ∧ Below W.heap.size W w'))
 (CTs : Hid (∀ W, Below w.heap.size w W → Calls Tryz.prog 30 #[.slice v1 m c, .slice p0 q0 r0] W (TyPost W (typesM ow rs))))
 (CNs : Hid (∀ W, Below w.heap.size w W → Calls Tryz.prog 17 #[.slice p0 q0 r0, .slice za zn zc] W fun e w' => e = .returned (.bool sm) ∧ Below W.heap.size W w'))
 (CLs : Hid (∀ W, Below w.heap.size w W → Calls Tryz.prog 32 #[.slice p0 q0 r0] W fun e w' => e = .returned (.bool wl) ∧ Below W.heap.size W w'))
 (CA : Hid (∀ (v : Value) (l : List Fl) (x0 : Option Addr) (x1 x2 : Nat) (f : Fl) (N : Nat), NmAt w0 (.slice x0 x1 x2) f.owner → NmOK f.owner → FOK l N → N ≤ 1000000 → ∀ W, Below w.heap.size w W → FlRow w0 W v l → Calls Tryz.prog 26 #[v, .agg #[.int .i64 f.kind, .slice x0 x1 x2, .int .i64 f.ty]] W (qaK w0 W (addF l f))))
 (HTYS : Hid (decide (1 < (typesM ow rs).length) = oth))
 (H4 : Hid ((decide (wv = 0) || (decide (ty = 6) && !sm)) = k4)) (H5 : Hid ((decide (ty = 5) && oth) = k5)) (H6 : Hid (((decide (ty = 5) || decide (ty = 39)) && decide (1 < q3)) = k6))
 (HAD : Hid ((decide (ty = 1) || decide (ty = 28)) = adr)) (H7 : Hid ((!adr && ((decide (wv = 2) && !decide (ty = 2)) || decide (wv = 3))) = k7)) (H8 : Hid ((decide (wv = 1) && cov) = k8)) (H9 : Hid ((decide (ty = 2) && wl) = k9))
 (HFK : Hid (GR = (addB k9 (addB k8 (addB k7 (addB k6 (addB k5 F0 ⟨5, ow, ty⟩) ⟨6, ow, ty⟩) ⟨7, ow, ty⟩) ⟨8, ow, ty⟩) ⟨9, ow, ty⟩))) (HOW : Hid (NmAt w0 (.slice p0 q0 r0) ow)) (HOK : Hid (NmOK ow)) (HN0 : Hid (N0 ≤ 800000)) (HM : Hid (N0 + 5 = M))
 (HK : Hid (KX W2 w0 w5 (.slice ga gm gc) F0)) (HFB : Hid (FOK F0 N0)) (x0 x2 x4 x5 x9 x10 x11 x12 x13 x14 x15 x16 x17 x18 x19 x20 x21 x22 x23 x24 x25 x26 x27 x28 x29 x30 x31 x32 x33 x34 x35 x36 x37 x38 x39 x40 x41 x42 x43 x44 x45 x46 x47 x48 x49 x50 x51 x52 x53 x54 x55 x56 x57 x58 x59 x60 x61 x62 x63 x64 x65 x66 x67 x68 x69 x70 x71 x72 x73 x74 x75 x76 x77 x78 x79 x80 x81 x82 x83 x84 x85 x86 x87 x88 x89 x90 x91 x92 x93 x94 x95 x96 x97 x98 x99 x100 x101 x102 x103 x104 x105 x106 x107 x108 x109 x110 x111 x112 x113 x114 x115 x116 x117 x118 x119 x120 x121 x122 x123 x124 x125 x126 x127 x128 x129 x130 x131 x132 x133 x134 x135 x136 x137 x138 x139 x140 x141 x142 x143 x144 x145 x146 x147 x148 x149 x150 x151 x152 x153 x154 x155 x156 x157 x158 x159 x160 x161 x162 x163 x164 x165 x166 x167 x168 x169 x170 x171 x172 x173 x174 x175 x176 x177 x178 x179 x180 x181 x182 x183 : Value) (Q : Exit → Act → World → Prop)
 (hQ : ∀ (a : Option Addr) (m c : Nat) (y8 y43 y44 y45 y46 y47 y48 y49 y50 y51 y52 y53 y54 y55 y56 y57 y58 y59 y60 y61 y62 y63 y64 y65 y66 y67 y68 y69 y70 y71 y72 y73 y74 y75 y76 y77 y78 y79 y80 y81 y82 y83 y84 y85 y86 y87 y88 y89 y90 y91 y92 y93 y94 y95 y96 y97 y98 y99 y100 y101 y102 y103 y104 y105 y106 y107 y108 y109 y110 y111 y112 y113 y114 y115 y116 y117 y118 y119 y120 y121 y122 y123 y124 y125 y126 y127 y128 y129 y130 y131 y132 y133 y134 y135 y136 y137 y138 y139 y140 y141 y142 y143 y144 y145 y146 y147 y148 y149 y150 y151 y152 y153 y154 y155 y156 y157 y158 y159 y160 y161 y162 y163 y164 y165 y166 y167 y168 y169 y170 y171 y172 y173 y174 y175 y176 y177 y178 y179 y180 y181 y182 : Value) (W : World), Hid (KX W2 w0 W (.slice a m c) GR) → Hid (FOK GR M) → Q .normal ⟨#[x0, .pointer (some ⟨B, 0, none⟩), x2, .slice a m c, x4, x5, .pointer (some ⟨Bs, 0, none⟩), .int .i64 wv, y8, x9, x10, x11, x12, x13, x14, x15, x16, x17, x18, x19, x20, x21, x22, x23, x24, x25, x26, x27, x28, x29, x30, x31, x32, x33, x34, x35, x36, x37, x38, x39, x40, x41, x42, y43, y44, y45, y46, y47, y48, y49, y50, y51, y52, y53, y54, y55, y56, y57, y58, y59, y60, y61, y62, y63, y64, y65, y66, y67, y68, y69, y70, y71, y72, y73, y74, y75, y76, y77, y78, y79, y80, y81, y82, y83, y84, y85, y86, y87, y88, y89, y90, y91, y92, y93, y94, y95, y96, y97, y98, y99, y100, y101, y102, y103, y104, y105, y106, y107, y108, y109, y110, y111, y112, y113, y114, y115, y116, y117, y118, y119, y120, y121, y122, y123, y124, y125, y126, y127, y128, y129, y130, y131, y132, y133, y134, y135, y136, y137, y138, y139, y140, y141, y142, y143, y144, y145, y146, y147, y148, y149, y150, y151, y152, y153, y154, y155, y156, y157, y158, y159, y160, y161, y162, y163, y164, y165, y166, y167, y168, y169, y170, y171, y172, y173, y174, y175, y176, y177, y178, y179, y180, y181, y182, x183], []⟩ W) :
 Code.wp Tryz.prog qi1 Q ⟨#[x0, .pointer (some ⟨B, 0, none⟩), x2, .slice ga gm gc, x4, x5, .pointer (some ⟨Bs, 0, none⟩), .int .i64 wv, .bool adr, x9, x10, x11, x12, x13, x14, x15, x16, x17, x18, x19, x20, x21, x22, x23, x24, x25, x26, x27, x28, x29, x30, x31, x32, x33, x34, x35, x36, x37, x38, x39, x40, x41, x42, x43, x44, x45, x46, x47, x48, x49, x50, x51, x52, x53, x54, x55, x56, x57, x58, x59, x60, x61, x62, x63, x64, x65, x66, x67, x68, x69, x70, x71, x72, x73, x74, x75, x76, x77, x78, x79, x80, x81, x82, x83, x84, x85, x86, x87, x88, x89, x90, x91, x92, x93, x94, x95, x96, x97, x98, x99, x100, x101, x102, x103, x104, x105, x106, x107, x108, x109, x110, x111, x112, x113, x114, x115, x116, x117, x118, x119, x120, x121, x122, x123, x124, x125, x126, x127, x128, x129, x130, x131, x132, x133, x134, x135, x136, x137, x138, x139, x140, x141, x142, x143, x144, x145, x146, x147, x148, x149, x150, x151, x152, x153, x154, x155, x156, x157, x158, x159, x160, x161, x162, x163, x164, x165, x166, x167, x168, x169, x170, x171, x172, x173, x174, x175, x176, x177, x178, x179, x180, x181, x182, x183], []⟩ w5 := by
 have HQ := qH0 hQ
 clear hQ
 let BQ : Exit → Act → World → Prop := bodyPost Tryz.prog Tryz.f9 (fun _ _ => True)
 conv => arg 2; whnf
 conv => arg 4; zeta
 go_upto_region 17 with (fail)
 go_cut [98] (fun v wx => v = .bool k5 ∧ Hid (KX W2 w0 wx (.slice ga gm gc) F0))
 case first =>
  have x0 := HY.out w5 HK.out.1
  have hww := HBW.out w5 HK.out.1
  have y0 := kcell x0 0 _ rfl; have y1 := kcell x0 1 _ rfl
  have xs := HSX.out w5 HK.out.1
  have u0 := kcell xs 0 _ rfl; have u1 := kcell xs 1 _ rfl; have u2 := kcell xs 2 _ rfl; have u3 := kcell xs 3 _ rfl
  have HWW := qH0 hww
  clear x0 hww xs
  by_cases h5 : ty = 5
  ·subst h5
   have hc := CTs.out w5 HWW.out
   unfold TyPost at hc
   go_wp2_with fail
   refine hc.mono ?_
   rintro e w9 ⟨v9, rfl, ho9, hb9⟩
   have HK9 := qH0 (HK.out.to hb9)
   clear hc hb9 y0 y1 u0 u1 u2 u3
   obtain ⟨a9, c9, rfl⟩ := ho9.shape
   have HQ := qH0 (show decide (1 < (typesM ow rs).length) = oth from HTYS.out)
   generalize (typesM ow rs).length = n9 at *
   clear ho9
   by_cases hq : 1 < n9
   ·have hqz : (1 : Int) < (n9 : Int) := by omega
    have hoth : oth = true := by rw [← HQ.out]; simp [hq]
    have HE : Hid (k5 = true) := qH0 (by rw [← H5.out, hoth]; rfl)
    go_wp2_with fail
    go_meet
    exact ⟨by rw [HE.out], HK9⟩
   ·have hqz : ¬ (1 : Int) < (n9 : Int) := by omega
    have hoth : oth = false := by rw [← HQ.out]; simp [hq]
    have HE : Hid (k5 = false) := qH0 (by rw [← H5.out, hoth]; rfl)
    go_wp2_with fail
    go_meet
    exact ⟨by rw [HE.out]; simp <;> omega, HK9⟩
  ·have h5b : (ty == 5) = false := by simpa using h5
   have HE : Hid (k5 = false) := qH0 (by rw [← H5.out]; simp [*])
   go_wp2_with fail
   go_meet
   exact ⟨by rw [HE.out], HK⟩
 case rest =>
 rename World => wc1
 obtain ⟨rfl, HK2⟩ := hcut
 clear HK
 have HK := HK2
 clear HK2
 go_upto_if 98 with (fail)
 go_cut [3] (fun v wx => ∃ (a : Option Addr) (m c : Nat), v = .slice a m c ∧ Hid (KX W2 w0 wx (.slice a m c) (addB k5 F0 ⟨5, ow, ty⟩)))
 case first =>
  have x0 := HY.out wc1 HK.out.1
  have hww := HBW.out wc1 HK.out.1
  have y0 := kcell x0 0 _ rfl; have y1 := kcell x0 1 _ rfl
  have xs := HSX.out wc1 HK.out.1
  have u0 := kcell xs 0 _ rfl; have u1 := kcell xs 1 _ rfl; have u2 := kcell xs 2 _ rfl; have u3 := kcell xs 3 _ rfl
  have HWW := qH0 hww
  clear x0 hww xs
  cases k5
  ·go_wp2_with fail
   go_meet
   exact ⟨_, _, _, rfl, HK⟩
  ·have hc := CA.out (.slice ga gm gc) F0 p0 q0 r0 ⟨5, ow, ty⟩ (N0) HOW.out HOK.out HFB.out (by have := HN0.out; omega) wc1 HWW.out HK.out.2
   unfold qaK at hc
   go_wp2_with fail
   refine hc.mono ?_
   rintro e w9 ⟨v9, rfl, hr9, hb9⟩
   have hk9 : KX W2 w0 w9 v9 (addB true F0 ⟨5, ow, ty⟩) := ⟨HK.out.1.trans (hb9.mono HK.out.1.size), hr9⟩
   obtain ⟨a9, c9, rfl⟩ := hr9.shape
   generalize (addF F0 ⟨5, ow, ty⟩).length = m9 at *
   have HK9 := qH0 hk9
   clear hc hb9 hr9 hk9 y0 y1 u0 u1 u2 u3
   go_wp2_with fail
   go_meet
   exact ⟨_, _, _, rfl, HK9⟩
 case rest =>
 rename World => wd1
 obtain ⟨ga1, gm1, gc1, rfl, HK2⟩ := hcut
 clear HK
 have HK := HK2
 clear HK2
 have HFB2 := qH0 (qbs k5 HFB.out (f := ⟨5, ow, ty⟩) HOK.out)
 clear HFB
 have HFB := HFB2
 clear HFB2
 obtain ⟨G2, hF⟩ : ∃ G, addB k5 F0 ⟨5, ow, ty⟩ = G := ⟨_, rfl⟩
 rw [hF] at HFK HFB HK
 clear hF
 go_upto_region 19 with (fail)
 go_cut [119] (fun v wx => v = .bool k6 ∧ Hid (KX W2 w0 wx (.slice ga1 gm1 gc1) G2))
 case first =>
  have x0 := HY.out wd1 HK.out.1
  have hww := HBW.out wd1 HK.out.1
  have y0 := kcell x0 0 _ rfl; have y1 := kcell x0 1 _ rfl
  have xs := HSX.out wd1 HK.out.1
  have u0 := kcell xs 0 _ rfl; have u1 := kcell xs 1 _ rfl; have u2 := kcell xs 2 _ rfl; have u3 := kcell xs 3 _ rfl
  have HWW := qH0 hww
  clear x0 hww xs
  by_cases h5 : ty = 5
  ·subst h5
   by_cases hq : 1 < q3
   ·have hqz : (1 : Int) < (q3 : Int) := by omega
    have HE : Hid (k6 = true) := qH0 (by rw [← H6.out]; simp [*])
    go_wp2_with fail
    go_meet
    exact ⟨by rw [HE.out], HK⟩
   ·have hqz : ¬ (1 : Int) < (q3 : Int) := by omega
    have HE : Hid (k6 = false) := qH0 (by rw [← H6.out]; simp [*])
    go_wp2_with fail
    go_meet
    exact ⟨by rw [HE.out], HK⟩
  ·have h5b : (ty == 5) = false := by simpa using h5
   by_cases h39 : ty = 39
   ·subst h39
    by_cases hq : 1 < q3
    ·have hqz : (1 : Int) < (q3 : Int) := by omega
     have HE : Hid (k6 = true) := qH0 (by rw [← H6.out]; simp [*])
     go_wp2_with fail
     go_meet
     exact ⟨by rw [HE.out], HK⟩
    ·have hqz : ¬ (1 : Int) < (q3 : Int) := by omega
     have HE : Hid (k6 = false) := qH0 (by rw [← H6.out]; simp [*])
     go_wp2_with fail
     go_meet
     exact ⟨by rw [HE.out], HK⟩
   ·have h39b : (ty == 39) = false := by simpa using h39
    have HE : Hid (k6 = false) := qH0 (by rw [← H6.out]; simp [*])
    go_wp2_with fail
    go_meet
    exact ⟨by rw [HE.out], HK⟩
 case rest =>
 rename World => wc2
 obtain ⟨rfl, HK2⟩ := hcut
 clear HK
 have HK := HK2
 clear HK2
 go_upto_if 119 with (fail)
 go_cut [3] (fun v wx => ∃ (a : Option Addr) (m c : Nat), v = .slice a m c ∧ Hid (KX W2 w0 wx (.slice a m c) (addB k6 G2 ⟨6, ow, ty⟩)))
 case first =>
  have x0 := HY.out wc2 HK.out.1
  have hww := HBW.out wc2 HK.out.1
  have y0 := kcell x0 0 _ rfl; have y1 := kcell x0 1 _ rfl
  have xs := HSX.out wc2 HK.out.1
  have u0 := kcell xs 0 _ rfl; have u1 := kcell xs 1 _ rfl; have u2 := kcell xs 2 _ rfl; have u3 := kcell xs 3 _ rfl
  have HWW := qH0 hww
  clear x0 hww xs
  cases k6
  ·go_wp2_with fail
   go_meet
   exact ⟨_, _, _, rfl, HK⟩
  ·have hc := CA.out (.slice ga1 gm1 gc1) G2 p0 q0 r0 ⟨6, ow, ty⟩ (N0 + 1) HOW.out HOK.out HFB.out (by have := HN0.out; omega) wc2 HWW.out HK.out.2
   unfold qaK at hc
   go_wp2_with fail
   refine hc.mono ?_
   rintro e w9 ⟨v9, rfl, hr9, hb9⟩
   have hk9 : KX W2 w0 w9 v9 (addB true G2 ⟨6, ow, ty⟩) := ⟨HK.out.1.trans (hb9.mono HK.out.1.size), hr9⟩
   obtain ⟨a9, c9, rfl⟩ := hr9.shape
   generalize (addF G2 ⟨6, ow, ty⟩).length = m9 at *
   have HK9 := qH0 hk9
   clear hc hb9 hr9 hk9 y0 y1 u0 u1 u2 u3
   go_wp2_with fail
   go_meet
   exact ⟨_, _, _, rfl, HK9⟩
 case rest =>
 rename World => wd2
 obtain ⟨ga2, gm2, gc2, rfl, HK2⟩ := hcut
 clear HK
 have HK := HK2
 clear HK2
 have HFB2 := qH0 (qbs k6 HFB.out (f := ⟨6, ow, ty⟩) HOK.out)
 clear HFB
 have HFB := HFB2
 clear HFB2
 obtain ⟨G3, hF⟩ : ∃ G, addB k6 G2 ⟨6, ow, ty⟩ = G := ⟨_, rfl⟩
 rw [hF] at HFK HFB HK
 clear hF
 rename Act → World → Prop => K0
 rename ∀ (a_1 : Act) (w_1 : World), _ → K0 a_1 w_1 => hK
 exact hK _ _ (chk_t3 (o := o) HY HBW HSX CCs CTs CNs CLs CA HTYS H4 H5 H6 HAD H7 H8 H9 HFK HOW HOK (M := M) (N0 := N0 + 2) (qH0 (by have := HN0.out; omega)) (qH0 (by have := HM.out; omega)) HK HFB _ _ _ _ _ _ _ _ _ _ _ _ _ _ _ _ _ _ _ _ _ _ _ _ _ _ _ _ _ _ _ _ _ _ _ _ _ _ _ _ _ _ _ _ _ _ _ _ _ _ _ _ _ _ _ _ _ _ _ _ _ _ _ _ _ _ _ _ _ _ _ _ _ _ _ _ _ _ _ _ _ _ _ _ _ _ _ _ _ _ _ _ _ _ _ _ _ _ _ _ _ _ _ _ _ _ _ _ _ _ _ _ _ _ _ _ _ _ _ _ _ _ _ _ _ _ _ _ _ _ _ _ _ _ _ _ _ _ _ _ _ _ _ _ _ _ _ _ _ _ _ _ _ _ _ _ _ _ _ _ _ _ _ _ _ _ _ _ _ _ _ _ _ _ _ _ _ _ _ _ HQ.out)
end Go.Proofs.YtnpnfajgphpabaaGreat
