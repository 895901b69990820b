import Derived.Deep.RegionLaw
import Derived.RangeFuncKeeps
import Derived.RangeFuncNested
import Derived.Test.YtckammgnmgkieaaGreatMQ12
import Derived.Test.YtckammgnmgkieaaGreatMQ39
namespace Go.Proofs.YtckammgnmgkieaaGreat
set_option maxRecDepth 20000
set_option maxHeartbeats 2000000
set_option linter.unusedSectionVars false
open Go.RowKit Go.Shelf Go.Sort Go.Lib
open Stb (COrd Lx Rise)
def Rcs (W : World) (css : List (List Value)) (rs : List Rc) : Prop := css.length = rs.length ∧ ∀ i (h1 : i < css.length) (h2 : i < rs.length), RcAt W css[i] rs[i]
theorem Rcs.below {W W' : World} {css : List (List Value)} {rs : List Rc} (h : Rcs W css rs) (hb : Below W.heap.size W W') : Rcs W' css rs := ⟨h.1, fun i h1 h2 => (h.2 i h1 h2).below hb⟩
theorem SlAt.one {W : World} {v : Value} {xs : List Value} (h : SlAt W v xs) : v.oneCell' = true := by obtain ⟨a, c, rfl, _⟩ := h; rfl
theorem RcAt.len {W : World} {cs : List Value} {r : Rc} (h : RcAt W cs r) : cs.length = 7 := by obtain ⟨vo, vn, vu, vt, vr, rfl, _⟩ := h; rfl
theorem RcAt.one {W : World} {cs : List Value} {r : Rc} (h : RcAt W cs r) : ∀ u ∈ cs, u.oneCell' = true := by
 obtain ⟨vo, vn, vu, vt, vr, rfl, h1, h2⟩ := h
 obtain ⟨un, uu, ut, ur, e, ⟨vs, g1, _⟩, g2, g3, g4⟩ := h2
 have e' : #[Value.int .i64 r.data.ty, vn, vu, vt, vr] = #[Value.int .i64 r.data.ty, un, uu, ut, ur] := by injection e
 simp only [Array.mk.injEq, List.cons.injEq, and_true, true_and] at e'
 obtain ⟨rfl, rfl, rfl, rfl⟩ := e'
 intro u hu
 simp only [List.mem_cons, List.not_mem_nil, or_false] at hu
 rcases hu with rfl | rfl | rfl | rfl | rfl | rfl | rfl
 ·exact (nmAt_sl.1 h1).one
 ·rfl
 ·rfl
 ·exact g1.one
 ·exact g2.one
 ·exact (nmAt_sl.1 g3).one
 ·exact g4.one
def Rc.none : Rc := ⟨[], 0, Dat.none⟩
theorem qkm (W : World) : RcAt W [.slice none 0 0, .int .u32 0, .int .i64 0, .slice none 0 0, .slice none 0 0, .slice none 0 0, .slice none 0 0] Rc.none :=
 ⟨_, _, _, _, _, rfl, nm_nil W, _, _, _, _, rfl, NmsAt.nil W, SlAt.nil W, nm_nil W, SlAt.nil W⟩
theorem qlh : RcOK Rc.none := ⟨⟨by decide, by simp [Rc.none]⟩, by decide, ⟨by decide, by decide⟩, by decide, by simp [Rc.none, Dat.none], by decide, by simp [Rc.none, Dat.none], ⟨by decide, by simp [Rc.none, Dat.none]⟩, by decide⟩
def RcT (w0 : World) : Type := { x : List Value × Rc × Nat // RcAt w0 x.1 x.2.1 ∧ RcOK x.2.1 }
instance (w0 : World) : Inhabited (RcT w0) := ⟨⟨(_, Rc.none, 0), qkm w0, qlh⟩⟩
def RcT.cells {w0 : World} (x : RcT w0) : List Value := x.1.1
def RcT.rc {w0 : World} (x : RcT w0) : Rc := x.1.2.1
def RcT.tg {w0 : World} (x : RcT w0) : Nat := x.1.2.2
theorem qja {α : Type} (enc : α → List Value) (k : Nat) (hk : ∀ x, (enc x).length = k) : ∀ (l : List α) (t : Nat), t < l.length * k → ∃ h : t / k < l.length, (l.flatMap enc)[t]? = (enc l[t / k])[t % k]?
 | [], t, h => by simp at h
 | x :: r, t, h => by
  have k0 : 0 < k := by rcases Nat.eq_zero_or_pos k with h' | h'; · subst h'; simp at h
                        ·exact h'
  rw [List.flatMap_cons]
  by_cases ht : t < k
  ·have e1 : t / k = 0 := Nat.div_eq_of_lt ht
   have e2 : t % k = t := Nat.mod_eq_of_lt ht
   refine ⟨by rw [e1]; simp, ?_⟩
   rw [List.getElem?_append_left (by rw [hk]; exact ht)]
   simp only [e1, e2, List.getElem_cons_zero]
  ·rw [List.length_cons, Nat.succ_mul] at h
   obtain ⟨h1, h2⟩ := qja enc k hk r (t - k) (by omega)
   have e1 : t / k = (t - k) / k + 1 := by
    rw [show t = (t - k) + k by omega, Nat.add_div_right _ k0]; congr 2; omega
   have e2 : t % k = (t - k) % k := by rw [show t = (t - k) + k by omega, Nat.add_mod_right]; congr 1; omega
   refine ⟨by rw [e1, List.length_cons]; omega, ?_⟩
   rw [List.getElem?_append_right (by rw [hk]; omega), hk, h2]
   simp only [e1, e2, List.getElem_cons_succ]
theorem qhO {α : Type} [Inhabited α] (enc : α → List Value) (k : Nat) (hk : ∀ x, (enc x).length = k) (d : Array α) (t : Nat) (ht : t < d.size * k) : (d.toList.flatMap enc)[t]? = some (flatK enc k d)[t]! := by
 have k0 : 0 < k := by rcases Nat.eq_zero_or_pos k with h' | h'; · subst h'; simp at ht
                       ·exact h'
 obtain ⟨h1, h2⟩ := qja enc k hk d.toList t (by simpa using ht)
 have hm : t % k < k := Nat.mod_lt _ k0
 have h1' : t / k < d.size := by simpa using h1
 rw [h2, get_flatK enc k d t ht, getElem!_pos d _ h1', Array.getElem_toList, getElem!_pos (enc d[t / k]) _ (by rw [hk]; exact hm)]
 exact List.getElem?_eq_getElem _
theorem qhf {α : Type} [Inhabited α] (enc : α → List Value) (k : Nat) (hk : ∀ x, (enc x).length = k) {T : TypeId} {W : World} {base g n c : Nat} {css : List (List Value)} (h : OwnC k T W base (.slice (some ⟨g, 0, none⟩) n c) css) (d : Array α) (hd : d.toList.map enc = css) : HoldsK enc k W g 0 d := by
 have hck : ∀ cs ∈ css, cs.length = k := fun cs hc => by rw [← hd] at hc; obtain ⟨x, _, rfl⟩ := List.mem_map.1 hc; exact hk x
 have hf : css.flatten = d.toList.flatMap enc := by rw [← hd]; rfl
 have hl : css.length = d.size := by rw [← hd]; simp
 intro j hj
 rw [size_flatK] at hj
 have hfl := qhO enc k hk d j hj
 rcases h.2 with ⟨e, _⟩ | ⟨g', cap, cur, e, hb, hg, hc, hm, hsz, htk⟩
 ·cases e
 ·cases e
  have h3 : cur.toList[j]? = some (flatK enc k d)[j]! := by
   have : (cur.toList.take (css.length * k))[j]? = some (flatK enc k d)[j]! := by rw [htk, qbQ, hf]; exact hfl
   rw [List.getElem?_take, if_pos (by rw [hl]; exact hj)] at this
   exact this
  refine ⟨?_, by simp [World.frozen?, hg]⟩
  simp only [World.cell?, hg, Nat.zero_add]
  simpa using h3
theorem qih {α : Type} [Inhabited α] (enc : α → List Value) (k : Nat) (hk : ∀ x, (enc x).length = k) {W : World} {g n c : Nat} (d : Array α) (h : HoldsK enc k W g 0 d) (hn : n = d.size) (hc : n ≤ c) (hg : g < W.heap.size) : SlK W (.slice (some ⟨g, 0, none⟩) n c) (d.toList.map enc) := by
 subst hn
 refine ⟨_, _, by rw [List.length_map, Array.length_toList], by rw [List.length_map, Array.length_toList]; exact hc, (fun e => by cases e), .inr ⟨g, 0, rfl, hg, fun j u hj => ?_⟩⟩
 have hf : (d.toList.map enc).flatten = d.toList.flatMap enc := rfl
 rw [hf] at hj
 have hlt : j < d.size * k := by
  have h1 := (List.getElem?_eq_some_iff.1 hj).1
  have hl : (d.toList.flatMap enc).length = d.size * k := by
   have h := qbM (k := k) (d.toList.map enc) (fun cs hc => by obtain ⟨x, _, rfl⟩ := List.mem_map.1 hc; exact hk x)
   rw [hf] at h
   rw [h, List.length_map, Array.length_toList]
  rw [hl] at h1
  exact h1
 have h2 := qhO enc k hk d j hlt
 rw [hj] at h2
 have h3 := (h j (by rw [size_flatK]; exact hlt)).1
 rw [h3]
 exact h2.symm
theorem tagged (w0 : World) (css : List (List Value)) (rs : List Rc) (h : Rcs w0 css rs) (hOK : ∀ r ∈ rs, RcOK r) : ∃ d : Array (RcT w0), d.toList.map RcT.cells = css ∧ d.toList.map RcT.rc = rs ∧ ∀ i, i < d.size → d[i]!.tg = i := by
 have hl := h.1
 let f : Fin css.length → RcT w0 := fun i => ⟨(css[i], rs[i.1]'(by have := i.2; omega), i.1), h.2 i.1 i.2 (by have := i.2; omega), hOK _ (List.getElem_mem _)⟩
 refine ⟨Array.ofFn f, ?_, ?_, fun i hi => ?_⟩
 ·apply List.ext_getElem
  ·simp
  ·intro i h1 h2
   rw [List.getElem_map, Array.getElem_toList, Array.getElem_ofFn]; rfl
 ·apply List.ext_getElem
  ·simp; omega
  ·intro i h1 h2
   rw [List.getElem_map, Array.getElem_toList, Array.getElem_ofFn]; rfl
 ·have hi' : i < css.length := by simpa using hi
  rw [getElem!_pos _ i hi, Array.getElem_ofFn]
  rfl
theorem qeP {w0 w W : World} {g : Nat} (hb : Below w0.heap.size w0 w) (hg : w.grownBy W (some g)) (hle : w0.heap.size ≤ g) : Below w0.heap.size w0 W :=
 hb.grown hg hb.size (fun k e => by cases e; exact hle)
theorem qkQ : SFun Tryz.prog where
 fs := Tryz.func217
 fr := Tryz.func216
 fi := Tryz.func208
 fm := Tryz.func209
 ft := Tryz.func184
 es := enters_of Tryz.func217 (by kernel_rfl) rfl
 er := enters_of Tryz.func216 (by kernel_rfl) rfl
 ei := enters_of Tryz.func208 (by kernel_rfl) rfl
 em := enters_of Tryz.func209 (by kernel_rfl) rfl
theorem ql9 (w0 w : World) (g : Nat) (hb : Below w0.heap.size w0 w) (hle : w0.heap.size ≤ g) : CmpB Tryz.prog 114 #[] (RcT.cells (w0 := w0)) (cfR RcT.rc) w g where
 eg := enters_of Tryz.func114 (by kernel_rfl) rfl
 call := fun W hW x y => by
  have hB := qeP hb hW hle
  exact qiI _ _ _ _ W (x.2.1.below hB) (y.2.1.below hB) x.2.2 y.2.2
theorem qfX (a : Option Addr) (c : Nat) (fv : Value) (w : World) : Calls Tryz.prog 208 #[.slice a 0 c, .int .i64 0, .int .i64 0, fv] w fun e w' => e = .returned (.tuple #[]) ∧ w = w' := by
 go_enter Tryz.func208, Tryz.ntmps208
 go_wp2
 refine wp_loop_rounds 1 ?_
 rw [rounds_succ]
 go_wp2
 go_end0
 exact ⟨rfl, rfl⟩
theorem qi3 (a : Option Addr) (c : Nat) (fv : Value) (w : World) : Calls Tryz.prog 184 #[.slice a 0 c, .int .i64 0, fv] w fun e w' => e = .returned (.tuple #[]) ∧ w = w' := by
 go_enter Tryz.func184, Tryz.ntmps184
 go_wp2
 refine wp_loop_rounds 1 ?_
 rw [rounds_succ]
 go_wp2_with (go_at_call 208; refine (qfX _ _ _ _).mono ?_; rintro e w' ⟨rfl, rfl⟩)
 refine wp_loop_rounds 1 ?_
 rw [rounds_succ]
 go_wp2
 go_end0
 exact ⟨rfl, rfl⟩
def qjp (w0 wb : World) (v : Value) (n : Nat) (rs : List Rc) (e : Ending) (w' : World) : Prop := e = .returned (.tuple #[]) ∧ ∃ css', SlK w' v css' ∧ css'.length = n ∧ Rcs w0 css' (sortM rs) ∧ Below wb.heap.size wb w'
theorem qi7 (w0 wb : World) (hb0 : Below w0.heap.size w0 wb) (v : Value) (css : List (List Value)) (rs : List Rc) (w : World) (hb : Below wb.heap.size wb w) (hR : Rcs w0 css rs) (hOK : ∀ r ∈ rs, RcOK r) (hown : OwnC 7 103 w wb.heap.size v css) (hl : css.length ≤ 1000000000000) :
 Calls Tryz.prog 184 #[v, .int .i64 css.length, .func (.func 114) #[] #[]] w (qjp w0 wb v css.length rs) := by
 have hck : ∀ cs ∈ css, cs.length = 7 := fun cs hc => by
  obtain ⟨i, hi, rfl⟩ := List.mem_iff_getElem.1 hc
  exact (hR.2 i hi (by have := hR.1; omega)).len
 by_cases h0 : css = []
 ·subst h0
  have hr0 : rs = [] := List.eq_nil_of_length_eq_zero hR.1.symm
  subst hr0
  obtain ⟨a, c, rfl⟩ := hown.shape
  refine (qi3 a c _ w).mono ?_
  rintro e w' ⟨rfl, rfl⟩
  exact ⟨rfl, [], SlK.of_own hown hck, rfl, ⟨rfl, fun i h1 => absurd h1 (Nat.not_lt_zero _)⟩, hb⟩
 ·obtain ⟨d, hd1, hd2, hd3⟩ := tagged w0 css rs hR hOK
  have hn : css.length = d.size := by rw [← hd1]; simp
  rcases id hown.2 with ⟨e, h00⟩ | ⟨g, cap, cur, rfl, hbg, hg, hcap, hm, hsz, htk⟩
  ·exact absurd (List.eq_nil_of_length_eq_zero h00) h0
  have hH : HoldsK RcT.cells 7 w g 0 d := qhf RcT.cells 7 (fun x => x.2.1.len) hown d hd1
  have hlt : g < w.heap.size := (Array.getElem?_eq_some_iff.1 hg).1
  have hc := qix qlc qkQ RcT.cells (fun x => x.2.1.len) (fun x => x.2.1.one) (cfR RcT.rc) RcT.tg (qcP _) 114 #[] g 0 cap d w (ql9 w0 w g (qB0 hb0 hb) (Nat.le_trans hb0.size hbg)) hH hlt hd3 (by omega)
  rw [← hn] at hc
  refine hc.mono ?_
  rintro e w' ⟨rfl, d', hp, hr, hs⟩
  have hsz' : d'.size = d.size := hp.1
  refine ⟨rfl, d'.toList.map RcT.cells, qih RcT.cells 7 (fun x => x.2.1.len) d' hs.row (by omega) hcap hs.lt', by simp; omega, ?_, qeP hb hs.rest hbg⟩
  have hsrt := qkR RcT.rc RcT.tg hd3 hp hr
  rw [hd2] at hsrt
  rw [← hsrt]
  refine ⟨by simp, fun i h1 h2 => ?_⟩
  simp only [List.getElem_map]
  exact (d'.toList[i]'(by simpa using h1)).2.1
theorem qk3 (w0 wb : World) (hb0 : Below w0.heap.size w0 wb) (v : Value) (css : List (List Value)) (rs : List Rc) (w : World) (hb : Below wb.heap.size wb w) (hR : Rcs w0 css rs) (hOK : ∀ r ∈ rs, RcOK r) (hown : OwnC 7 103 w wb.heap.size v css) (hl : css.length ≤ 1000000000000) :
 Calls Tryz.prog 151 #[v, .func (.func 114) #[] #[]] w (qjp w0 wb v css.length rs) := by
 have hc := qi7 w0 wb hb0 v css rs w hb hR hOK hown hl
 obtain ⟨a, c, rfl⟩ := hown.shape
 clear hR hOK hown hb hb0
 obtain ⟨n, hn⟩ : ∃ n, css.length = n := ⟨_, rfl⟩
 rw [hn] at hc hl ⊢
 clear hn
 go_enter Tryz.func151, Tryz.ntmps151
 go_wp2_with fail
 refine hc.mono ?_
 rintro e w' ⟨rfl, css', h⟩
 go_wp2
 go_end0
 exact ⟨rfl, css', h⟩
def qjw (w0 w : World) (rs : List Rc) (e : Ending) (w' : World) : Prop := ∃ v' css', e = .returned v' ∧ SlK w' v' css' ∧ Rcs w0 css' (sortM rs) ∧ (∀ b, v'.ownBlock = some b → w.heap.size ≤ b) ∧ Below w.heap.size w w'
theorem qjX (w0 : World) (v : Value) (css : List (List Value)) (rs : List Rc) (w : World) (hb0 : Below w0.heap.size w0 w) (hA : SlK w v css) (hR : Rcs w0 css rs) (hOK : ∀ r ∈ rs, RcOK r) (hl : css.length ≤ 1000000000000) :
 Calls Tryz.prog 113 #[v, .func (.func 114) #[] #[]] w (qjw w0 w rs) := by
 have hck : ∀ cs ∈ css, cs.length = 7 ∧ ∀ u ∈ cs, u.oneCell' = true := fun cs hc => by
  obtain ⟨i, hi, rfl⟩ := List.mem_iff_getElem.1 hc
  have := hR.2 i hi (by have := hR.1; omega)
  exact ⟨this.len, this.one⟩
 have hc := qld v css w hA (fun cs h => (hck cs h).1) (fun cs h => (hck cs h).2) hl
 have HS := qH0 (fun v' W (hown : OwnC 7 103 W w.heap.size v' css) (hb : Below w.heap.size w W) => qk3 w0 w hb0 v' css rs W hb hR hOK hown hl)
 clear hA hR hOK hck hb0
 obtain ⟨n, hn⟩ : ∃ n, css.length = n := ⟨_, rfl⟩
 go_enter Tryz.func113, Tryz.ntmps113
 go_wp2_with fail
 refine hc.mono ?_
 rintro e w1 ⟨v', rfl, hown, hb1⟩
 have hs := HS.out v' w1 hown hb1
 have HBL := qH0 hown.base_le
 obtain ⟨a', c', rfl⟩ := hown.shape
 rw [hn] at hs HBL ⊢
 clear hown hb1 hc hn
 go_wp2_with fail
 refine hs.mono ?_
 rintro e w2 ⟨rfl, css', h1, h2, h3, h4⟩
 have H := qH0 (And.intro h1 (And.intro h3 h4))
 clear h1 h2 h3 h4 hs
 go_wp2
 go_ret
 exact ⟨_, css', rfl, H.out.1, H.out.2.1, HBL.out, H.out.2.2⟩
end Go.Proofs.YtckammgnmgkieaaGreat
namespace Go.Proofs.YtckammgnmgkieaaGreat
set_option maxRecDepth 100000
set_option maxHeartbeats 8000000
open Go.RowKit Go.Shelf
theorem SlK.elem {W : World} {a : Option Addr} {n c : Nat} {css : List (List Value)} (h : SlK W (.slice a n c) css) (hk : ∀ cs ∈ css, cs.length = 7) (h0 : 0 < css.length) : ∃ b off, a = some ⟨b, off, none⟩ ∧ b < W.heap.size ∧
 ∀ k (hlt : k < css.length) (u0 u1 u2 u3 u4 u5 u6 : Value), css[k] = [u0, u1, u2, u3, u4, u5, u6] → ∀ W', Below W.heap.size W W' →
  W'.cell? ⟨b, off + k * 7, none⟩ = some u0 ∧ W'.cell? ⟨b, off + k * 7 + 1, none⟩ = some u1 ∧ W'.cell? ⟨b, off + k * 7 + 2, none⟩ = some u2 ∧ W'.cell? ⟨b, off + k * 7 + 3, none⟩ = some u3 ∧ W'.cell? ⟨b, off + k * 7 + 4, none⟩ = some u4 ∧ W'.cell? ⟨b, off + k * 7 + 5, none⟩ = some u5 ∧ W'.cell? ⟨b, off + k * 7 + 6, none⟩ = some u6 := by
 obtain ⟨a', c', e, _, _, h3⟩ := h
 cases e
 rcases h3 with h3 | ⟨b, off, rfl, hb, hc⟩
 ·subst h3; simp at h0
 ·refine ⟨b, off, rfl, hb, fun k hlt u0 u1 u2 u3 u4 u5 u6 he W' hB => ?_⟩
  have key : ∀ j u, j < 7 → [u0, u1, u2, u3, u4, u5, u6][j]? = some u → W'.cell? ⟨b, off + k * 7 + j, none⟩ = some u := fun j u hj hu => by
   rw [hB.cell (p := ⟨b, off + k * 7 + j, none⟩) hb, Nat.add_assoc]
   refine hc (k * 7 + j) u ?_
   have hl : ∀ (l : List (List Value)) (k : Nat) (hlt : k < l.length), (∀ cs ∈ l, cs.length = 7) → l[k] = [u0, u1, u2, u3, u4, u5, u6] → l.flatten[k * 7 + j]? = some u := by
    intro l
    induction l with
    | nil => intro k hlt; simp at hlt
    | cons x r ih =>
     intro k hlt hk he
     rw [List.flatten_cons]
     cases k with
     | zero =>
      rw [List.getElem_cons_zero] at he
      rw [he, List.getElem?_append_left (by simp; omega)]
      simpa using hu
     | succ k =>
      rw [List.getElem_cons_succ] at he
      have hx : x.length = 7 := hk x (by simp)
      rw [List.getElem?_append_right (by rw [hx]; omega), hx, show (k + 1) * 7 + j - 7 = k * 7 + j by omega]
      exact ih k (by simpa using hlt) (fun cs hc => hk cs (by simp [hc])) he
   exact hl css k hlt hk he
  exact ⟨key 0 u0 (by omega) rfl, key 1 u1 (by omega) rfl, key 2 u2 (by omega) rfl, key 3 u3 (by omega) rfl, key 4 u4 (by omega) rfl, key 5 u5 (by omega) rfl, key 6 u6 (by omega) rfl⟩
theorem Rcs.ck {W : World} {css : List (List Value)} {rs : List Rc} (h : Rcs W css rs) : ∀ cs ∈ css, cs.length = 7 := fun cs hc => by
 obtain ⟨i, hi, rfl⟩ := List.mem_iff_getElem.1 hc
 exact (h.2 i hi (by have := h.1; omega)).len
theorem RcAt.shape {W : World} {cs : List Value} {r : Rc} (h : RcAt W cs r) : ∃ x0 x3 x4 x5 x6 : Option Addr × Nat × Nat, cs = [.slice x0.1 x0.2.1 x0.2.2, .int .u32 (r.ttl : Int), .int .i64 r.data.ty, .slice x3.1 x3.2.1 x3.2.2, .slice x4.1 x4.2.1 x4.2.2, .slice x5.1 x5.2.1 x5.2.2, .slice x6.1 x6.2.1 x6.2.2] := by
 obtain ⟨vo, vn, vu, vt, vr, rfl, h1, h2⟩ := h
 obtain ⟨un, uu, ut, ur, e, ⟨vs, g1, _⟩, g2, g3, g4⟩ := h2
 have e' : #[Value.int .i64 r.data.ty, vn, vu, vt, vr] = #[Value.int .i64 r.data.ty, un, uu, ut, ur] := by injection e
 simp only [Array.mk.injEq, List.cons.injEq, and_true, true_and] at e'
 obtain ⟨rfl, rfl, rfl, rfl⟩ := e'
 obtain ⟨a0, c0, rfl, _⟩ := nmAt_sl.1 h1
 obtain ⟨a3, c3, rfl, _⟩ := g1
 obtain ⟨a4, c4, rfl, _⟩ := g2
 obtain ⟨a5, c5, rfl, _⟩ := nmAt_sl.1 g3
 obtain ⟨a6, c6, rfl, _⟩ := g4
 exact ⟨(a0, _, c0), (a3, _, c3), (a4, _, c4), (a5, _, c5), (a6, _, c6), rfl⟩
theorem qgy (u0 u2 u3 u4 u5 u6 : Value) (t : Int) (w : World) :
 Calls Tryz.prog 118 #[.agg #[u0, .int .u32 t, u2, u3, u4, u5, u6]] w fun e w' => e = .returned (.int .u32 t) ∧ Below w.heap.size w w' := by
 go_enter Tryz.func118, Tryz.ntmps118
 go_wp2
 go_ret
 exact ⟨rfl, (Below.refl _ w).alloc (qN0) _⟩
theorem qib (a b : Nat) : minT a b = min a b := by unfold minT; split <;> omega
theorem qi5 (t : Nat) (l : List Rc) (k : Nat) (hk : k < l.length) : leastM t (l.take (k + 1)) = minT (leastM t (l.take k)) l[k].ttl := by
 rw [List.take_succ_eq_append_getElem hk, qdg]
theorem qcO (y : Rc) (l : List Rc) : leastM y.ttl (y :: l) = leastM y.ttl l := by
 show l.foldl _ (minT y.ttl y.ttl) = _
 have : minT y.ttl y.ttl = y.ttl := by unfold minT; split <;> rfl
 rw [this]; rfl
theorem qlg (v : Value) (css : List (List Value)) (y : Rc) (rs : List Rc) (w : World) (hA : SlK w v css) (hR : Rcs w css (y :: rs)) (hOK : ∀ r ∈ y :: rs, RcOK r) (hl : css.length ≤ 1000000000000) :
 Calls Tryz.prog 117 #[v, .func (.func 118) #[] #[]] w fun e w' => e = .returned (.int .u32 (leastM y.ttl rs : Nat)) ∧ Below w.heap.size w w' := by
 rw [← qcO]
 have hlen := hR.1
 obtain ⟨a, c, rfl, hc1, hc2, hx⟩ := id hA
 obtain ⟨b, off, rfl, hb, hcell⟩ := hA.elem hR.ck (by rw [hlen]; simp)
 obtain ⟨n, hn⟩ : ∃ n, css.length = n := ⟨_, rfl⟩
 have HROW := qH0 hR.2
 have HCELL := qH0 hcell
 have HL := qH0 hlen
 have HOK := qH0 hOK
 have hnc : n ≤ c := by omega
 have hn0 : 0 < n := by rw [← hn, hlen]; simp
 rw [hn]
 have HN := qH0 hn
 have hy0 : ((y :: rs)[0]'(by simp)) = y := rfl
 have h0 := HROW.out 0 (by omega) (by simp)
 rw [hy0] at h0
 obtain ⟨⟨p0, q0, r0⟩, ⟨p3, q3, r3⟩, ⟨p4, q4, r4⟩, ⟨p5, q5, r5⟩, ⟨p6, q6, r6⟩, e0⟩ := h0.shape
 clear h0
 simp only at e0
 obtain ⟨c0, c1, c2, c3, c4, c5, c6⟩ := HCELL.out 0 (by rw [HN.out]; exact hn0) _ _ _ _ _ _ _ e0 w (qL0)
 rw [Nat.zero_mul, Nat.add_zero] at c0 c1 c2 c3 c4 c5 c6
 have hci := qgy (.slice p0 q0 r0) (.int .i64 y.data.ty) (.slice p3 q3 r3) (.slice p4 q4 r4) (.slice p5 q5 r5) (.slice p6 q6 r6) (y.ttl : Int)
 have hyt : y.ttl < 2 ^ 32 := (HOK.out y (by simp)).2.1
 have HY : Hid (y.ttl < 2 ^ 32) := qH0 hyt
 clear hA hR hc1 hc2 hx hcell hlen hOK hn hy0 e0 hyt
 go_enter Tryz.func117, Tryz.ntmps117
 go_wp2_with fail
 refine (hci _).mono ?_
 rintro e w1 ⟨rfl, hb1⟩
 have HB1 := qH0 hb1
 clear hb1 hci c0 c1 c2 c3 c4 c5 c6
 go_wp2
 go_loopw [5, 15] (fun vt vi wr => ∃ (k t : Nat), vi = .int .i64 k ∧ vt = .int .u32 t ∧ k ≤ n ∧ Hid (t = leastM y.ttl ((y :: rs).take k)) ∧ Hid (Below w.heap.size w wr)) (fun _ vi _ => n - (intOf vi).toNat)
 case atStart => exact ⟨0, y.ttl, rfl, rfl, Nat.zero_le _, qH0 rfl, HB1⟩
 case round =>
  obtain ⟨k, t, rfl, rfl, hk, HT, HB⟩ := hrel
  by_cases hlt : k < n
  ·have hltz : (k : Int) < (n : Int) := by omega
   have hk1 : k < css.length := by have := HN.out; omega
   have hk2 : k < (y :: rs).length := by have := HL.out; omega
   have h0 := HROW.out k hk1 hk2
   obtain ⟨r, hr⟩ : ∃ r, (y :: rs)[k] = r := ⟨_, rfl⟩
   rw [hr] at h0
   have HRR := qH0 hr
   obtain ⟨⟨p0, q0, r0⟩, ⟨p3, q3, r3⟩, ⟨p4, q4, r4⟩, ⟨p5, q5, r5⟩, ⟨p6, q6, r6⟩, e0⟩ := h0.shape
   clear h0
   simp only at e0
   obtain ⟨c0, c1, c2, c3, c4, c5, c6⟩ := HCELL.out k hk1 _ _ _ _ _ _ _ e0 wr HB.out
   have hci := qgy (.slice p0 q0 r0) (.int .i64 r.data.ty) (.slice p3 q3 r3) (.slice p4 q4 r4) (.slice p5 q5 r5) (.slice p6 q6 r6) (r.ttl : Int)
   have HK12 := qH0 (And.intro hk1 hk2)
   clear e0 hr
   obtain ⟨m, hm⟩ : ∃ m, minT t r.ttl = m := ⟨_, rfl⟩
   have hmz : min (t : Int) (r.ttl : Int) = (m : Int) := by rw [← hm, qib]; omega
   have HMM := qH0 hm
   clear hm
   go_wp2_with fail
   refine (hci _).mono ?_
   rintro e w2 ⟨rfl, hb2⟩
   have HB2 := qH0 hb2
   clear hb2 hci c0 c1 c2 c3 c4 c5 c6
   go_wp2
   go_roundw
   case measure => simp [intOf]; omega
   case rel =>
    refine ⟨k + 1, m, by go_num, rfl, by omega, qH0 ?_, qH0 ?_⟩
    ·rw [qi5 y.ttl (y :: rs) k HK12.out.2, HRR.out, ← HT.out, HMM.out]
    ·have h1 := (HB.out.alloc (o := Obj.cells #[.slice p0 q0 r0, .int .u32 (r.ttl : Int), .int .i64 r.data.ty, .slice p3 q3 r3, .slice p4 q4 r4, .slice p5 q5 r5, .slice p6 q6 r6] 103) HB.out.size)
     exact qB0 h1 HB2.out
  ·obtain rfl : k = n := by omega
   go_wp2
   go_ret
   have e := HT.out
   rw [List.take_of_length_le (by have := HL.out; have := HN.out; omega)] at e
   exact ⟨by rw [e]; rfl, HB.out⟩
theorem qcR {W : World} {g : Nat} {l : List Value} {T : TypeId} (h : W.heap[g]? = some (.cells l.toArray T)) : SlAt W (.slice (some ⟨g, 0, none⟩) l.length l.length) l := by
 refine ⟨_, _, rfl, qN0, (fun e => by cases e), .inr ⟨g, 0, rfl, qaa h, fun j hj => ?_⟩⟩
 have := kcell h j l[j] (by simp)
 rw [Nat.zero_add]; exact this
theorem qaH {W : World} {g : Nat} {css : List (List Value)} {T : TypeId} (h : W.heap[g]? = some (.cells css.flatten.toArray T)) : SlK W (.slice (some ⟨g, 0, none⟩) css.length css.length) css := by
 refine ⟨_, _, rfl, qN0, (fun e => by cases e), .inr ⟨g, 0, rfl, qaa h, fun j u hj => ?_⟩⟩
 have := kcell h j u (by simpa using hj)
 rw [Nat.zero_add]; exact this
theorem qde (K t : Nat) (u : Value) (ht : t < K) : ∀ (css : List (List Value)), (∀ cs ∈ css, cs.length = K) → ∀ (k : Nat) (h : k < css.length), (css.set k (css[k].set t u)).flatten = css.flatten.set (k * K + t) u
 | [], _, k, h => by simp at h
 | c :: r, hk, 0, _ => by
  have hc := hk c (by simp)
  simp only [List.getElem_cons_zero, List.set_cons_zero, List.flatten_cons, Nat.zero_mul, Nat.zero_add]
  rw [List.set_append_left t u (by omega)]
 | c :: r, hk, k + 1, h => by
  have hc := hk c (by simp)
  have ih := qde K t u ht r (fun cs hcs => hk cs (by simp [hcs])) k (by simpa using h)
  simp only [List.getElem_cons_succ, List.set_cons_succ, List.flatten_cons]
  rw [ih, Nat.add_mul, Nat.one_mul]
  rw [List.set_append_right ((k * K + K + t)) u (by omega)]
  congr 2
  omega
theorem OwnC.put {T : TypeId} {W : World} {base g n c : Nat} {css : List (List Value)} (h : OwnC 7 T W base (.slice (some ⟨g, 0, none⟩) n c) css) (hk : ∀ cs ∈ css, cs.length = 7) (k : Nat) (hlt : k < css.length) (t : Nat) (ht : t < 7) (u : Value) :
 OwnC 7 T (W.setCell ⟨g, k * 7 + t, none⟩ u) base (.slice (some ⟨g, 0, none⟩) n c) (css.set k (css[k].set t u)) := by
 obtain ⟨hl, h⟩ := h
 rcases h with ⟨e, _⟩ | ⟨g', cap, cur, e, hb, hg, hc, hm, hsz, htk⟩
 ·cases e
 ·cases e
  have hfl : ((css.set k (css[k].set t u)).flatMap fun cs => cs) = (css.flatMap fun cs => cs).set (k * 7 + t) u := by
   rw [qbQ, qbQ, qde 7 t u ht css hk k hlt]
  refine ⟨by rw [hfl, List.length_set, List.length_set]; exact hl, .inr ⟨g, c, cur.setIfInBounds (k * 7 + t) u, by rw [List.length_set], hb, kset hg _ u, by rw [List.length_set]; exact hc, hm, by simpa using hsz, ?_⟩⟩
  rw [hfl, List.length_set, ← htk, Array.toList_setIfInBounds]
  rw [List.take_set]
theorem SlK.takeK {W : World} {a : Option Addr} {n c : Nat} {css : List (List Value)} (h : SlK W (.slice a n c) css) (k : Nat) (hk : k ≤ n) : SlK W (.slice a k c) (css.take k) := by
 obtain ⟨a', c', e, h1, h2, h3⟩ := h
 cases e
 have hl : (css.take k).length = k := by rw [List.length_take]; omega
 refine ⟨a, c, by rw [hl], by rw [hl]; omega, h2, ?_⟩
 rcases h3 with h3 | ⟨b, off, e, hlt, hc⟩
 ·left; rw [h3]; simp
 ·right
  refine ⟨b, off, e, hlt, fun j u hj => hc j u ?_⟩
  have hsplit : css.flatten = (css.take k).flatten ++ (css.drop k).flatten := by rw [← List.flatten_append, List.take_append_drop]
  rw [hsplit, List.getElem?_append_left (List.getElem?_eq_some_iff.1 hj).1]
  exact hj
theorem SlK.dropK {W : World} {b off n c : Nat} {css : List (List Value)} (h : SlK W (.slice (some ⟨b, off, none⟩) n c) css) (h7 : ∀ cs ∈ css, cs.length = 7) (k : Nat) (hk : k ≤ n) : SlK W (.slice (some ⟨b, off + k * 7, none⟩) (n - k) (c - k)) (css.drop k) := by
 obtain ⟨a', c', e, h1, h2, h3⟩ := h
 cases e
 have hl : (css.drop k).length = css.length - k := List.length_drop
 refine ⟨_, _, by rw [hl], by rw [hl]; omega, (fun e => by cases e), ?_⟩
 rcases h3 with h3 | ⟨b', off', e, hlt, hc⟩
 ·left; rw [h3]; simp
 ·cases e
  right
  refine ⟨b, off + k * 7, rfl, hlt, fun j u hj => ?_⟩
  rw [Nat.add_assoc]
  refine hc _ _ ?_
  have hsplit : css.flatten = (css.take k).flatten ++ (css.drop k).flatten := by rw [← List.flatten_append, List.take_append_drop]
  have hz : (css.take k).flatten.length = k * 7 := by
   rw [qbM _ (fun cs hcs => h7 cs (List.mem_of_mem_take hcs)), List.length_take]; congr 1; omega
  rw [hsplit, List.getElem?_append_right (by omega), hz, Nat.add_sub_cancel_left]
  exact hj
theorem qhm {S T : TypeId} {k bytes : Nat} {o : Oper} {a : Act} {K : Act → World → Prop} {Q : Exit → Act → World → Prop} (W : World) (s x : Operand) (hE : ElemK k T S bytes) (hk0 : 0 < k)
 (ho : o.op = .call { callee := .builtin .append, args := #[s, x], argTypes := #[S, S] })
 (base : Nat) (v : Value) (xs : List (List Value)) (hs : a.eval s = v) (hown : OwnC k T W base v xs)
 (src : Value) (ys : List (List Value)) (hx : a.eval x = src) (hsrc : SlK W src ys) (hyk : ∀ cs ∈ ys, cs.length = k) (hy1 : ∀ cs ∈ ys, ∀ u ∈ cs, u.oneCell' = true)
 (hbase : base ≤ W.heap.size) (hk : xs.length + ys.length ≤ maxLen) (hk2 : (xs.length + ys.length) * bytes ≤ 140737488355328)
 (h : ∀ v' w', OwnC k T w' base v' (xs ++ ys) → W.grownBy w' v.ownBlock → K (a.put o.dst v') w') :
 o.wp Tryz.prog a W K Q := by
 obtain ⟨ht, i, z, hi, hz, hz1, hz2, hzc⟩ := hE
 obtain ⟨a0, c0, rfl, h1, h2, h3⟩ := hsrc
 have hlen := qbM ys hyk
 cases a0 with
 | none =>
  have e3 := h2 rfl
  subst e3
  have e4 : ys = [] := List.eq_nil_of_length_eq_zero (by omega)
  subst e4
  have hrun := run_append_owned_none (P := Tryz.prog) (w := W) base S o.type _ i k ht hi v _ _ hown
  have hK := h v W (by rw [List.append_nil]; exact hown) ⟨rfl, rfl, rfl, qN0, fun _ _ _ => rfl⟩
  unfold Oper.wp
  simp [execOp, ho, resolve, invoke, builtin, hs, hx, hrun, Result.andThen]
  exact hK
 | some ad =>
  have hcell : ∀ j u, ys.flatten[j]? = some u → W.cell? (ad.add j) = some u := by
   intro j u hj
   rcases h3 with h3 | ⟨b, off, ea, _, hc⟩
   ·subst h3; simp at hj
   ·cases ea; rw [Addr.add_lit]; exact hc j u hj
  refine wp_append_own W s x S ho base _ i z k bytes ht hi hz hz1 hz2 hzc hk0 v xs.length (xs.flatMap fun cs => cs) hs hown ad ys.length c0 ys.flatten hx hlen hcell (by intro u hu; obtain ⟨y, hy, hu⟩ := List.mem_flatten.1 hu; exact hy1 y hy u hu) hk hk2 hbase ?_
  intro v' w' g1 g2 _
  refine h v' w' ?_ g2
  unfold OwnC OwnK
  rw [List.length_append, List.flatMap_append, qbQ ys]
  exact g1
theorem qbp {S T : TypeId} {k bytes : Nat} {ops : Array Oper} {o : Oper} {a : Act} {K : Act → World → Prop} {Q : Exit → Act → World → Prop} {E : Prop} (W : World) (hgd : o.guard = none) (s x : Operand) (hE : ElemK k T S bytes) (hk0 : 0 < k)
 (ho : o.op = .call { callee := .builtin .append, args := #[s, x], argTypes := #[S, S] })
 (base : Nat) (v : Value) (xs : List (List Value)) (hs : a.eval s = v) (hown : OwnC k T W base v xs)
 (src : Value) (ys : List (List Value)) (hx : a.eval x = src) (hsrc : SlK W src ys) (hyk : ∀ cs ∈ ys, cs.length = k) (hy1 : ∀ cs ∈ ys, ∀ u ∈ cs, u.oneCell' = true)
 (hbase : base ≤ W.heap.size) (hk : xs.length + ys.length ≤ maxLen) (hk2 : (xs.length + ys.length) * bytes ≤ 140737488355328)
 (h : ∀ v' w', OwnC k T w' base v' (xs ++ ys) → W.grownBy w' v.ownBlock → K (a.put o.dst v') w') :
 if Region.wanted o (yielded ops a.tmps) = true then Oper.wp Tryz.prog o a W K Q else E := by
 have hw : Region.wanted o (yielded ops a.tmps) = true := by simp [Region.wanted, hgd]
 rw [if_pos hw]
 exact qhm W s x hE hk0 ho base v xs hs hown src ys hx hsrc hyk hy1 hbase hk hk2 h
end Go.Proofs.YtckammgnmgkieaaGreat
namespace Go.Proofs.YtckammgnmgkieaaGreat
set_option maxRecDepth 100000
set_option maxHeartbeats 8000000
open Go.RowKit Go.Shelf
abbrev Seg (n : Nat) := { x : Nat × Nat // x.1 < x.2 ∧ x.2 ≤ n }
def segV (g off c : Nat) {n : Nat} (x : Seg n) : Array Value := #[.slice (some ⟨g, off + x.1.1 * 7, none⟩) (x.1.2 - x.1.1) (c - x.1.1)]
structure RunW (b1 b2 : Nat) (a : Option Addr) (g off n c : Nat) (css : List (List Value)) (rs : List Rc) (Kp : World → World → Prop) (R : World → Prop) : Prop where
 c1 : ∀ W, R W → W.cell? ⟨b1, 0, none⟩ = some (.slice a n c)
 c2 : ∀ W, R W → W.cell? ⟨b2, 0, none⟩ = some (.func (.func 115) #[] #[])
 ha : 0 < n → a = some ⟨g, off, none⟩
 el : ∀ W, R W → ∀ k (hlt : k < css.length) (u0 u1 u2 u3 u4 u5 u6 : Value), css[k] = [u0, u1, u2, u3, u4, u5, u6] →
  W.cell? ⟨g, off + k * 7, none⟩ = some u0 ∧ W.cell? ⟨g, off + k * 7 + 1, none⟩ = some u1 ∧ W.cell? ⟨g, off + k * 7 + 2, none⟩ = some u2 ∧ W.cell? ⟨g, off + k * 7 + 3, none⟩ = some u3 ∧ W.cell? ⟨g, off + k * 7 + 4, none⟩ = some u4 ∧ W.cell? ⟨g, off + k * 7 + 5, none⟩ = some u5 ∧ W.cell? ⟨g, off + k * 7 + 6, none⟩ = some u6
 same : ∀ W, R W → ∀ i j (hi : i < css.length) (hj : j < css.length) (hi' : i < rs.length) (hj' : j < rs.length), Calls Tryz.prog 115 #[.agg css[i].toArray, .agg css[j].toArray] W fun e W' => e = .returned (.bool (sameR rs[i] rs[j])) ∧ Below W.heap.size W W'
 below : ∀ W W', R W → Below W.heap.size W W' → R W'
 kp : ∀ W W', R W → Kp W W' → R W'
 shape : ∀ k (hk : k < css.length), ∃ (t x : Int) (x0 x3 x4 x5 x6 : Option Addr × Nat × Nat), css[k] = [.slice x0.1 x0.2.1 x0.2.2, .int .u32 t, .int .i64 x, .slice x3.1 x3.2.1 x3.2.2, .slice x4.1 x4.2.1 x4.2.2, .slice x5.1 x5.2.1 x5.2.2, .slice x6.1 x6.2.1 x6.2.2]
theorem qbo (W : World) : Below W.heap.size W W.drew := ⟨rfl, rfl, rfl, qN0, fun _ _ => rfl⟩
section
attribute [local go_sem] Oper.semAt_some
theorem qmh (nf : Nat) (hnf : 3 ≤ nf) (l b1 b2 : Nat) (a : Option Addr) (g off n c : Nat) (hnc : n ≤ c) (hn63 : n ≤ 1000000000000) (css : List (List Value)) (rs : List Rc) (hcl : css.length = n) (hrl : rs.length = n) (Kp : World → World → Prop) (R : World → Prop) (H : RunW b1 b2 a g off n c css rs Kp R)
 (J Jx : List (Seg n) → World → Prop) (hJ : ∀ pre W W', J pre W → Below W.heap.size W W' → J pre W')
 (hY : ∀ pre x W, J pre W → pre.length < n → YieldAt Fence.wide (nf - 1) Tryz.prog l (segV g off c x) W fun e W' =>
   (e = .returned (.bool true) ∧ J (pre ++ [x]) W' ∧ Kp W W') ∨ (e = .returned (.bool false) ∧ Jx (pre ++ [x]) W'))
 (W : World) (hR : R W) (h0 : J [] W) :
 CallsIn Fence.wide nf Tryz.prog 149 #[.func (.yield l) #[] #[], .pointer (some ⟨b1, 0, none⟩), .pointer (some ⟨b2, 0, none⟩)] W fun e W' => (∃ v, e = .returned v) ∧
  ((∃ ys : List (Seg n), ys.map (·.1) = segs rs ∧ J ys W') ∨ (∃ pre : List (Seg n), Jx pre W')) := by
 have hn1' : 1 ≤ nf := by omega
 have HJJ := qH0 hJ
 have HCL := qH0 hcl; have HRL := qH0 hrl
 clear hJ
 have HR0 := qH0 hR
 have HJ0 := qH0 h0
 clear hR h0
 refine callsIn_of_wp Tryz.func149 rfl trivial ?_ rfl
 simp only [Tryz.ntmps149, List.size_toArray, List.length_cons, List.length_nil, Nat.reduceAdd, Nat.reduceSub, Array.replicate_succ, Array.replicate_zero, List.push_toArray, List.append_toArray, List.nil_append, List.cons_append]
 gi_wp2
 gi_loopw [4] (fun v4 wr => ∃ (s : Nat) (pre : List (Seg n)), v4 = .int .i64 s ∧ s ≤ n ∧ Hid (pre.map (·.1) ++ leftM rs s = segs rs ∧ pre.length ≤ s) ∧ Hid (J pre wr) ∧ Hid (R wr))
  (fun v4 _ => n - (intOf v4).toNat)
 case atStart => exact ⟨0, [], rfl, Nat.zero_le _, qH0 ⟨rfl, Nat.zero_le _⟩, HJ0, HR0⟩
 case round =>
  obtain ⟨s, pre, rfl, hs, HP, HJ, HR⟩ := hrel
  have hc0 := H.c1 _ HR.out
  by_cases hlt : s < n
  ·have ha := H.ha (by omega)
   subst ha
   have hltz : (s : Int) < (n : Int) := by omega
   have hsr : s < rs.length := by omega
   have HRJ0 := qH0 (And.intro HR.out HJ.out)
   clear HR HJ
   gi_wp2
   clear hc0
   rename World => w1
   gi_loopw [5] (fun v5 wr => ∃ (e : Nat), v5 = .int .i64 e ∧ s + 1 ≤ e ∧ e ≤ n ∧ Hid (e ≤ nxtM rs s) ∧ Hid (R wr ∧ J pre wr))
    (fun v5 _ => n - (intOf v5).toNat)
   case atStart => exact ⟨s + 1, by go_num, qN0, by omega, qH0 (by have := qdl hsr; omega), HRJ0⟩
   case round =>
    obtain ⟨e, rfl, he1, he2, HE, HRJ⟩ := hrel
    have hne : Nonempty (WIn (fun W => R W ∧ J pre W)) := ⟨⟨_, HRJ.out⟩⟩
    have k1 : ∀ p : WIn (fun W => R W ∧ J pre W), p.w.cell? ⟨b1, 0, none⟩ = some (.slice (some ⟨g, off, none⟩) n c) := fun p => H.c1 _ p.ok.1
    have k2 : ∀ p : WIn (fun W => R W ∧ J pre W), p.w.cell? ⟨b2, 0, none⟩ = some (.func (.func 115) #[] #[]) := fun p => H.c2 _ p.ok.1
    have HD : Hid (∀ W, R W ∧ J pre W → ∀ W', Below W.heap.size W W' → R W' ∧ J pre W') := qH0 fun W h W' hb => ⟨H.below _ _ h.1 hb, HJJ.out _ _ _ h.2 hb⟩
    by_cases hen : e < n
    ·have henz : (e : Int) < (n : Int) := by omega
     obtain ⟨t0, y0, ⟨p0, q0, r0⟩, ⟨p3, q3, r3⟩, ⟨p4, q4, r4⟩, ⟨p5, q5, r5⟩, ⟨p6, q6, r6⟩, e0⟩ := H.shape s (by omega)
     obtain ⟨t1, y1, ⟨p0', q0', r0'⟩, ⟨p3', q3', r3'⟩, ⟨p4', q4', r4'⟩, ⟨p5', q5', r5'⟩, ⟨p6', q6', r6'⟩, e1⟩ := H.shape e (by omega)
     simp only at e0 e1
     have f0 := fun p : WIn (fun W => R W ∧ J pre W) => (H.el _ p.ok.1 s (by omega) _ _ _ _ _ _ _ e0)
     have f1 := fun p : WIn (fun W => R W ∧ J pre W) => (H.el _ p.ok.1 e (by omega) _ _ _ _ _ _ _ e1)
     have g0 := fun p => (f0 p).1; have g1 := fun p => (f0 p).2.1; have g2 := fun p => (f0 p).2.2.1; have g3 := fun p => (f0 p).2.2.2.1; have g4 := fun p => (f0 p).2.2.2.2.1; have g5 := fun p => (f0 p).2.2.2.2.2.1; have g6 := fun p => (f0 p).2.2.2.2.2.2
     have j0 := fun p => (f1 p).1; have j1 := fun p => (f1 p).2.1; have j2 := fun p => (f1 p).2.2.1; have j3 := fun p => (f1 p).2.2.2.1; have j4 := fun p => (f1 p).2.2.2.2.1; have j5 := fun p => (f1 p).2.2.2.2.2.1; have j6 := fun p => (f1 p).2.2.2.2.2.2
     have hcg := fun p : WIn (fun W => R W ∧ J pre W) => CallsIn.cls (C := fun W => R W ∧ J pre W) (callsIn_wide (n := nf - 1) |>.2 ((H.same _ p.ok.1 s e (by omega) (by omega) (by omega) (by omega)).mono fun _ _ ⟨hq, hb⟩ => ⟨hq, HD.out _ p.ok _ hb⟩))
     rw [e0, e1] at hcg
     obtain ⟨sm, hsm⟩ : ∃ sm, sameR (rs[s]'(by omega)) (rs[e]'(by omega)) = sm := ⟨_, rfl⟩
     rw [hsm] at hcg
     have HSM := qH0 hsm
     have hn1 : 1 ≤ nf - 1 := by omega
     clear f0 f1 e0 e1 hsm
     cases sm
     ·have HWHY : Hid (e = rs.length ∨ ∃ he : e < rs.length, sameR (rs[s]'hsr) (rs[e]'he) = false) := qH0 (Or.inr ⟨by omega, HSM.out⟩)
      gi_wp2_with fail
      refine qbZ (fun W => R W ∧ J pre W) rfl qae (by kernel_rfl) (HD.out _ HRJ.out _ (qbo _)) ?_
      repeat (gi_big_quiet_step (fail))
      refine wpQuietIn_step (fun _ _ _ _ => trivial) (fun K hK => ?_)
      go_simp
      apply Exists.intro
      refine ⟨fun q => (by first | exact hcg q | exact ⟨fun _ => (by omega), hcg q⟩), hK _ ?_⟩
      clear hK K
      repeat (gi_big_quiet_step (fail))
      refine wpQuietIn_nil ?_
      rintro _ ⟨p, rfl⟩
      have HRJ := qH0 p.ok
      clear k1 k2 g0 g1 g2 g3 g4 g5 g6 j0 j1 j2 j3 j4 j5 j6 hcg
      have hcs : ¬ c = s := by omega
      have hnx := qg1 (rs := rs) (s := s) (e := e) (by omega) he1 HE.out (HWHY.out)
      obtain ⟨HRp, hJp⟩ := HRJ.out
      have hx : s < e ∧ e ≤ n := ⟨by omega, by omega⟩
      obtain ⟨fn, tmps, assign, body, hy, hR⟩ := hY pre ⟨(s, e), hx⟩ p.w hJp (by have := HP.out.2; omega)
      unfold segV at hy
      simp only at hy
      have hc1 := H.c1 _ HRp
      have HRR := qH0 hR
      have HNX := qH0 hnx
      have HX := qH0 hx
      have HRP := qH0 HRp
      have hse : (s : Int) ≤ (e : Int) := by omega
      have hec : (e : Int) ≤ (c : Int) := by omega
      have hes : ((e : Int) - (s : Int)).toNat = e - s := by omega
      have hcz : ((c : Int) - (s : Int)).toNat = c - s := by omega
      clear hR hnx HRp hJp HRJ
      gi_wp2
      refine HRR.out.mono ?_
      rintro e' W3 (⟨rfl, hJ3, hk3⟩ | ⟨rfl, hJx3⟩)
      ·have HR3 := qH0 (H.kp _ _ HRP.out hk3)
       have HJ3 := qH0 hJ3
       clear hJ3 hk3 HRR
       gi_wp2
       go_roundw
       case measure => simp [intOf]; omega
       case rel =>
        refine ⟨e, pre ++ [⟨(s, e), HX.out⟩], rfl, by omega, qH0 ⟨?_, by have := HP.out.2; simp; omega⟩, HJ3, HR3⟩
        have hp := HP.out.1
        rw [qdu (by omega), ← HNX.out] at hp
        simpa using hp
      ·gi_wp2
       refine bodyPost_ret (results_none rfl _ _ _) rfl ?_
       exact ⟨⟨_, rfl⟩, .inr ⟨_, hJx3⟩⟩
     ·have hmo : e + 1 ≤ nxtM rs s := qkt hsr he1 HE.out (by omega) HSM.out
      have HMO := qH0 hmo
      clear hmo
      gi_wp2_with fail
      refine qbZ (fun W => R W ∧ J pre W) rfl qae (by kernel_rfl) (HD.out _ HRJ.out _ (qbo _)) ?_
      repeat (gi_big_quiet_step (fail))
      refine wpQuietIn_step (fun _ _ _ _ => trivial) (fun K hK => ?_)
      go_simp
      apply Exists.intro
      refine ⟨fun q => (by first | exact hcg q | exact ⟨fun _ => (by omega), hcg q⟩), hK _ ?_⟩
      clear hK K
      repeat (gi_big_quiet_step (fail))
      refine wpQuietIn_nil ?_
      rintro _ ⟨p, rfl⟩
      have HRJ := qH0 p.ok
      clear k1 k2 g0 g1 g2 g3 g4 g5 g6 j0 j1 j2 j3 j4 j5 j6 hcg
      gi_wp2
      go_roundw
      case measure => simp [intOf]; omega
      case rel => exact ⟨e + 1, by go_num, by omega, by omega, HMO, HRJ⟩
    ·obtain rfl : n = e := by omega
     have HWHY : Hid (n = rs.length ∨ ∃ he : n < rs.length, sameR (rs[s]'hsr) (rs[n]'he) = false) := qH0 (Or.inl (by omega))
     gi_wp2_with fail
     refine qbZ (fun W => R W ∧ J pre W) rfl qae (by kernel_rfl) (HD.out _ HRJ.out _ (qbo _)) ?_
     repeat (gi_big_quiet_step (fail))
     refine wpQuietIn_step (fun _ _ _ _ => trivial) (fun K hK => ?_)
     go_simp
     refine hK _ ?_
     clear hK K
     repeat (gi_big_quiet_step (fail))
     refine wpQuietIn_nil ?_
     rintro _ ⟨p, rfl⟩
     have HRJ := qH0 p.ok
     clear k1 k2
     have hcs : ¬ c = s := by omega
     have hnx := qg1 (rs := rs) (s := s) (e := n) (by omega) he1 HE.out (HWHY.out)
     obtain ⟨HRp, hJp⟩ := HRJ.out
     have hx : s < n ∧ n ≤ n := ⟨by omega, by omega⟩
     obtain ⟨fn, tmps, assign, body, hy, hR⟩ := hY pre ⟨(s, n), hx⟩ p.w hJp (by have := HP.out.2; omega)
     unfold segV at hy
     simp only at hy
     have hc1 := H.c1 _ HRp
     have HRR := qH0 hR
     have HNX := qH0 hnx
     have HX := qH0 hx
     have HRP := qH0 HRp
     have hse : (s : Int) ≤ (n : Int) := by omega
     have hec : (n : Int) ≤ (c : Int) := by omega
     have hes : ((n : Int) - (s : Int)).toNat = n - s := by omega
     have hcz : ((c : Int) - (s : Int)).toNat = c - s := by omega
     clear hR hnx HRp hJp HRJ
     gi_wp2
     refine HRR.out.mono ?_
     rintro e' W3 (⟨rfl, hJ3, hk3⟩ | ⟨rfl, hJx3⟩)
     ·have HR3 := qH0 (H.kp _ _ HRP.out hk3)
      have HJ3 := qH0 hJ3
      clear hJ3 hk3 HRR
      gi_wp2
      go_roundw
      case measure => simp [intOf]; omega
      case rel =>
       refine ⟨n, pre ++ [⟨(s, n), HX.out⟩], rfl, by omega, qH0 ⟨?_, by have := HP.out.2; simp; omega⟩, HJ3, HR3⟩
       have hp := HP.out.1
       rw [qdu (by omega), ← HNX.out] at hp
       simpa using hp
     ·gi_wp2
      refine bodyPost_ret (results_none rfl _ _ _) rfl ?_
      exact ⟨⟨_, rfl⟩, .inr ⟨_, hJx3⟩⟩
  ·obtain rfl : s = n := by omega
   gi_wp2
   go_end0
   have hp := HP.out.1
   rw [qgD rs (by omega), List.append_nil] at hp
   exact ⟨⟨_, rfl⟩, .inl ⟨pre, hp, HJ.out⟩⟩
end
end Go.Proofs.YtckammgnmgkieaaGreat
