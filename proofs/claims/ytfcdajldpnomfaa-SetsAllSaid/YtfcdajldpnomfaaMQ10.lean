/-
  law6.SetsAll: true for any records.
-/
import Derived.Test.YtfcdajldpnomfaaMQ11
import Derived.Test.YtfcdajldpnomfaaMQ35
import Derived.Deep.RegionHeld3
namespace Go.Proofs.Ytfcdajldpnomfaa
open Go.RowKit Go.Shelf
set_option maxRecDepth 20000
set_option linter.unusedVariables false
set_option linter.unusedSimpArgs false
theorem rcs_arg6 {W : World} {css : List (List Value)} {l : List Rc} (h : css.length = l.length ∧ ∀ i (h1 : i < css.length) (h2 : i < l.length), RcArg W css[i] l[i]) : Rcs W css l := ⟨h.1, fun i h1 h2 => (h.2 i h1 h2).rcAt⟩
theorem SetR.owner {W : World} {o : Option Addr} {n c : Nat} {v1 v2 v3 : Value} {s : St} (h : SetR W [.slice o n c, v1, v2, v3] s) : NmAt W (.slice o n c) s.owner := by
  obtain ⟨z0, z3, ds, e, q1, q2, q3, q4⟩ := h
  simp only [List.cons.injEq, and_true] at e
  obtain ⟨e0, -⟩ := e
  rw [e0]; exact q1
/-- Found, the box not yet made. -/
def OfB6 (W : World) (s : St) (dn : Nat) (e : Ending) (w' : World) : Prop :=
  ∃ p0 q0 k0 p3 k3, e = .returned (.tuple #[.agg #[.slice p0 q0 k0, .int .i64 s.ty, .int .u32 (s.ttl : Int), .slice p3 dn k3], .bool true]) ∧ SetR w' [.slice p0 q0 k0, .int .i64 s.ty, .int .u32 (s.ttl : Int), .slice p3 dn k3] s ∧ Below W.heap.size W w'
/-- Found, the box made ahead of the call. -/
def OfA6 (W : World) (B : Nat) (s : St) (dn : Nat) (e : Ending) (w' : World) : Prop :=
  ∃ p0 q0 k0 p3 k3, e = .returned (.tuple #[.agg #[.slice p0 q0 k0, .int .i64 s.ty, .int .u32 (s.ttl : Int), .slice p3 dn k3], .bool true]) ∧ SetR ((((w'.setCell ⟨B, 0, none⟩ (.slice p0 q0 k0)).setCell ⟨B, 1, none⟩ (.int .i64 s.ty)).setCell ⟨B, 2, none⟩ (.int .u32 (s.ttl : Int))).setCell ⟨B, 3, none⟩ (.slice p3 dn k3)) [.slice p0 q0 k0, .int .i64 s.ty, .int .u32 (s.ttl : Int), .slice p3 dn k3] s ∧ Below W.heap.size W w' ∧
    w'.heap[B]? = some (.cells #[.slice none 0 0, .int .i64 0, .int .u32 0, .slice none 0 0] 40)
theorem ofB6 {W w' : World} {s : St} {dn : Nat} {e : Ending} (hd : s.data.length = dn) (h : OfPostK W (some s) e w') : OfB6 W s dn e w' := by
  obtain ⟨cs, rfl, h2, h3, _⟩ := h
  obtain ⟨⟨p0, q0, k0⟩, ⟨p3, q3, k3⟩, rfl⟩ := h2.shape
  simp only [Option.getD_some] at h2 ⊢
  subst hd
  exact ⟨p0, q0, k0, p3, k3, rfl, h2, h3⟩
theorem ofA6 {W w' : World} {B : Nat} {s : St} {dn : Nat} {e : Ending} (hd : s.data.length = dn) (hB : B < W.heap.size) (hX : W.heap[B]? = some (.cells #[.slice none 0 0, .int .i64 0, .int .u32 0, .slice none 0 0] 40)) (h : OfPostK W (some s) e w') : OfA6 W B s dn e w' := by
  obtain ⟨cs, rfl, h2, h3, h4⟩ := h
  obtain ⟨⟨p0, q0, k0⟩, ⟨p3, q3, k3⟩, rfl⟩ := h2.shape
  simp only [Option.getD_some] at h2 h4 ⊢
  subst hd
  have hx := (h3.block B hB).trans hX
  exact ⟨p0, q0, k0, p3, k3, rfl, h4 B _ _ _ _ _ _ _ _ hB hx, h3, hx⟩
theorem sets_le : ∀ (n : Nat) (l : List Rc), l.length ≤ n → (setsM l).length ≤ l.length
  | 0, l, h => by
    obtain rfl : l = [] := List.eq_nil_of_length_eq_zero (by omega)
    simp [setsM_nil]
  | n + 1, [], h => by simp [setsM_nil]
  | n + 1, y :: r, h => by
    rw [setsM_cons, List.length_cons, List.length_cons]
    have h1 : (r.dropWhile (belR y)).length ≤ r.length := (List.dropWhile_sublist _).length_le
    have := sets_le n (r.dropWhile (belR y)) (by simp at h; omega)
    omega
theorem mem_take1 {x : Int} {l : List Int} {j : Nat} (h : j < l.length) : decide (x ∈ l.take (j + 1)) = (decide (x ∈ l.take j) || decide (l[j] = x)) := by
  rw [List.take_succ_eq_append_getElem h, Bool.eq_iff_iff]
  simp only [List.mem_append, List.mem_singleton, Bool.or_eq_true, decide_eq_true_eq]
  constructor
  · rintro (h | h)
    · exact .inl h
    · exact .inr h.symm
  · rintro (h | h)
    · exact .inl h
    · exact .inr h.symm
theorem box46 {W : World} {B : Nat} {v0 v1 v2 v3 : Value} (h : W.heap[B]? = some (.cells #[.slice none 0 0, .int .i64 0, .int .u32 0, .slice none 0 0] 40)) : ((((W.setCell ⟨B, 0, none⟩ v0).setCell ⟨B, 1, none⟩ v1).setCell ⟨B, 2, none⟩ v2).setCell ⟨B, 3, none⟩ v3).heap[B]? = some (.cells #[v0, v1, v2, v3] 40) :=
  kset (kset (kset (kset h 0 v0) 1 v1) 2 v2) 3 v3
set_option maxRecDepth 100000 in
set_option maxHeartbeats 16000000 in
theorem law6_SetsAll {w : World} (v : Value) (css : List (List Value)) (l : List Rc) (hA : SlK w v css) (hR : css.length = l.length ∧ ∀ i (h1 : i < css.length) (h2 : i < l.length), RcArg w css[i] l[i]) :
    Calls Try.prog 4 #[v] w fun e w' => e = .returned (.bool true) ∧ Below w.heap.size w w' := by
  obtain ⟨fw, hfw⟩ : ∃ fw, fewRs l = fw := ⟨_, rfl⟩
  have hFew := fun W hb => law5_Few v css l w W hA hR hb
  rw [hfw] at hFew
  have HFew := Lib.hid hFew
  have HROW := Lib.hid (show RowC w v l from ⟨css, hA, rcs_arg6 hR⟩)
  obtain ⟨a, c, rfl, -⟩ := id hA
  obtain ⟨n, hn⟩ : ∃ n, css.length = n := ⟨_, rfl⟩
  have HOK := Lib.hid (fun (h : fw = true) => show l.length ≤ 60 ∧ ∀ r ∈ l, RcOK r by
    rw [h] at hfw
    simp only [fewRs, Bool.and_eq_true, decide_eq_true_eq, List.all_eq_true] at hfw
    refine ⟨hfw.1, fun r hr => ?_⟩
    obtain ⟨i, hi, rfl⟩ := List.mem_iff_getElem.1 hr
    exact (hR.2 i (by have := hR.1; omega) hi).ok (hfw.2 _ hr))
  rw [hn] at HFew HROW ⊢
  have hkn := law6_known w
  clear hA hR hFew hfw hn
  go_enter Try.func4, Try.ntmps4
  go_wp2_with fail
  refine hkn.mono ?_
  rintro e w0 ⟨rfl, hb⟩
  have HB0 := Lib.hid hb
  have hc := HFew.out w0 hb
  clear hb hkn HFew
  go_wp2_with fail
  refine hc.mono ?_
  rintro e w1 ⟨rfl, hb⟩
  have HB1 := Lib.hid (HB0.out.trans (hb.mono HB0.out.size))
  clear hb hc HB0
  by_cases hf : fw = true
  · subst hf
    obtain ⟨hl60, hok⟩ := HOK.out rfl
    have hc := row_Sets _ _ w1 (HROW.out.below HB1.out) hok (by omega)
    have HLL := Lib.hid hl60; have HOKL := Lib.hid hok
    clear hl60 hok HOK
    go_wp2_with fail
    refine hc.mono ?_
    rintro e w2 ⟨v2, rfl, hs2, hb2⟩
    obtain ⟨sa, sc, rfl⟩ := hs2.shape
    obtain ⟨ss, hss⟩ : ∃ ss, setsM (canonM l) = ss := ⟨_, rfl⟩
    rw [hss] at hs2 ⊢
    have HSS := Lib.hid hss
    have HS2 := Lib.hid hs2
    have HB2 := Lib.hid (HB1.out.trans (hb2.mono HB1.out.size))
    clear hs2 hb2 hc HB1 hss
    obtain ⟨m, hm⟩ : ∃ m, ss.length = m := ⟨_, rfl⟩
    have hm60 : m ≤ 60 := by
      have h1 := sets_le _ (canonM l) (Nat.le_refl _)
      rw [HSS.out, hm] at h1
      have h2 := canonM_length l
      have h3 := HLL.out
      omega
    rw [hm] at HS2 ⊢
    have HM := Lib.hid hm
    clear hm
    go_wp2
    go_loopw [4, 5] (fun vn vi wr => ∃ (k q : Nat), vn = .int .i64 q ∧ vi = .int .i64 k ∧ k ≤ m ∧ Hid (q = ((ss.take k).map fun s => s.data.length).sum) ∧ Hid (Below w2.heap.size w2 wr)) (fun _ vi _ => m - (intOf vi).toNat)
    case atStart => exact ⟨0, 0, rfl, rfl, Nat.zero_le _, Lib.hid rfl, Lib.hid (Below.refl _ _)⟩
    case round =>
      obtain ⟨k, q, rfl, rfl, hk, HQ, HB⟩ := hrel
      by_cases hlt : k < m
      · have hltz : (k : Int) < (m : Int) := by omega
        have hk2 : k < ss.length := by have := HM.out; omega
        obtain ⟨b, off, rfl, hb, hel⟩ := HS2.out.elem (by omega)
        obtain ⟨x0, x3, hx, hxc⟩ := hel k hk2
        have hmem : ss[k]'hk2 ∈ setsM (canonM l) := by rw [HSS.out]; exact List.getElem_mem _
        have hsum : ((ss.take (k + 1)).map fun s => s.data.length).sum = ((ss.take k).map fun s => s.data.length).sum + (ss[k]'hk2).data.length := by
          rw [List.take_succ_eq_append_getElem hk2, List.map_append, List.sum_append]; simp
        obtain ⟨s, hs⟩ : ∃ s, ss[k]'hk2 = s := ⟨_, rfl⟩
        simp only [hs] at hx hxc hmem hsum
        obtain ⟨x01, x02, x03⟩ := x0; obtain ⟨x31, x32, x33⟩ := x3
        simp only at hx hxc
        obtain ⟨dn, hdn⟩ : ∃ dn, s.data.length = dn := ⟨_, rfl⟩
        rw [hdn] at hx hxc hsum
        rw [← HQ.out] at hsum
        have hqm : q + dn ≤ 100000 := by
          have h1 := sum_take ss (k + 1)
          rw [hsum, ← HSS.out, sets_sum] at h1
          have h2 := canonM_length l
          have h3 := HLL.out
          omega
        have HOF := Lib.hid (ofM_sets hmem)
        obtain ⟨z1, z2, z3, z4⟩ := hxc wr HB.out
        obtain ⟨hko, hdk⟩ := sets_ok HOKL.out hmem
        have hRO : ∀ W, Below w2.heap.size w2 W → Calls Try.prog 12 #[.slice a n c, .slice x01 x02 x03, .int .i64 s.ty] W (OfPostK W (some s)) := fun W hb => by
          have := row_OfK (.slice a n c) (.slice x01 x02 x03) s.owner s.ty l W (HROW.out.below (HB2.out.trans (hb.mono HB2.out.size))) (hx.owner.below hb) hko HOKL.out (by have := HLL.out; omega)
          rw [HOF.out] at this; exact this
        have hKB : ∀ W, Below w2.heap.size w2 W → W.cell? ⟨b, off + k * 4, none⟩ = some (.slice x01 x02 x03) ∧ W.cell? ⟨b, off + k * 4 + 1, none⟩ = some (.int .i64 s.ty) ∧ Below w2.heap.size w2 W := fun W hb => ⟨(hxc W hb).1, (hxc W hb).2.1, hb⟩
        have hS0 := hKB wr HB.out
        have hdr : ∀ W, Below w2.heap.size w2 W → Below w2.heap.size w2 W.drew := fun W h => h.trans ⟨rfl, rfl, rfl, Nat.le_refl _, fun _ _ => rfl⟩
        have hwr : w2.heap.size ≤ wr.heap.size := HB.out.size
        have KR := Lib.hid (fun W (h : W.cell? ⟨b, off + k * 4, none⟩ = some (.slice x01 x02 x03) ∧ W.cell? ⟨b, off + k * 4 + 1, none⟩ = some (.int .i64 s.ty) ∧ Below w2.heap.size w2 W) => hKB _ (hdr W h.2.2))
        have KA := Lib.hid (fun W o (h : W.cell? ⟨b, off + k * 4, none⟩ = some (.slice x01 x02 x03) ∧ W.cell? ⟨b, off + k * 4 + 1, none⟩ = some (.int .i64 s.ty) ∧ Below w2.heap.size w2 W) => hKB _ (h.2.2.alloc h.2.2.size o))
        have KS := Lib.hid (fun W W' (h : W.cell? ⟨b, off + k * 4, none⟩ = some (.slice x01 x02 x03) ∧ W.cell? ⟨b, off + k * 4 + 1, none⟩ = some (.int .i64 s.ty) ∧ Below w2.heap.size w2 W) (hb : Below W.heap.size W W') => hKB W' (h.2.2.trans (hb.mono h.2.2.size)))
        have KP := Lib.hid (fun W v0 v1 v2 v3 (h : W.cell? ⟨b, off + k * 4, none⟩ = some (.slice x01 x02 x03) ∧ W.cell? ⟨b, off + k * 4 + 1, none⟩ = some (.int .i64 s.ty) ∧ Below w2.heap.size w2 W) => hKB _ ((((h.2.2.setCell (p := ⟨wr.heap.size, 0, none⟩) hwr v0).setCell (p := ⟨wr.heap.size, 1, none⟩) hwr v1).setCell (p := ⟨wr.heap.size, 2, none⟩) hwr v2).setCell (p := ⟨wr.heap.size, 3, none⟩) hwr v3))
        have hal : Below w2.heap.size w2 (wr.alloc (.cells #[.slice none 0 0, .int .i64 0, .int .u32 0, .slice none 0 0] 40)).drew := hdr _ (HB.out.alloc hwr _)
        have HAd := Lib.hid ((hRO _ hal).mono fun e w' h => ofA6 hdn (B := wr.heap.size) (by simp) (knewD wr _) h)
        have HBd := Lib.hid (fun W (h : W.cell? ⟨b, off + k * 4, none⟩ = some (.slice x01 x02 x03) ∧ W.cell? ⟨b, off + k * 4 + 1, none⟩ = some (.int .i64 s.ty) ∧ Below w2.heap.size w2 W) => (hRO W h.2.2).mono fun e w' h => ofB6 hdn h)
        have HXC := Lib.hid hxc; have HX := Lib.hid hx; have HMEM := Lib.hid hmem; have HSUM := Lib.hid hsum; have HDN := Lib.hid hdn; have HRO := Lib.hid hRO; have HKO := Lib.hid hko; have HDK := Lib.hid hdk; have HWR := Lib.hid hwr
        clear hel hx hxc hmem hsum hs hdn hk2 hRO hKB hdr hal hko hdk hwr
        go_wp2_with fail
        go_region_held3 (fun W => W.cell? ⟨b, off + k * 4, none⟩ = some (.slice x01 x02 x03) ∧ W.cell? ⟨b, off + k * 4 + 1, none⟩ = some (.int .i64 s.ty) ∧ Below w2.heap.size w2 W)
          (first | with_reducible assumption | (with_reducible exact KR.out _ (by with_reducible assumption)) | (with_reducible exact KA.out _ _ (by with_reducible assumption)) | (with_reducible exact KR.out _ (KA.out _ _ (by with_reducible assumption))) | (with_reducible exact KA.out _ _ (KR.out _ (by with_reducible assumption))) | (with_reducible exact KP.out _ _ _ _ _ (by with_reducible assumption)))
          (first
            | ((with_reducible refine (HAd.out).mono ?_); rintro e w7 ⟨p0, q0, k0, p3, k3, rfl, hs7, hb7, hx7⟩; have hS2 := KS.out _ _ (by with_reducible assumption) hb7; have fz0 := kfrozen hx7 0; have fz1 := kfrozen hx7 1; have fz2 := kfrozen hx7 2; have fz3 := kfrozen hx7 3; have cl0 := kcell hx7 0 _ rfl; have cl1 := kcell hx7 1 _ rfl; have cl2 := kcell hx7 2 _ rfl; have cl3 := kcell hx7 3 _ rfl; have HSA := Lib.hid hs7; have HXA := Lib.hid hx7; clear hs7 hx7)
            | ((with_reducible refine (HBd.out _ (by with_reducible assumption)).mono ?_); rintro e w7 ⟨p0, q0, k0, p3, k3, rfl, hs7, hb7⟩; have hS2 := KS.out _ _ (by with_reducible assumption) hb7; have HSB := Lib.hid hs7; clear hs7))
        all_goals
          obtain ⟨hs71, hs72, hs73⟩ := hS2
          have HS73 := Lib.hid hs73
          clear hS0 KR KA KS KP HAd HBd hs71 hs72 hs73 hb7 z1 z2 z3 z4
          first
          | (have hq := HSB
             obtain ⟨W8, hW8⟩ : ∃ W8, w7.alloc (.cells #[.slice p0 q0 k0, .int .i64 s.ty, .int .u32 (s.ttl : Int), .slice p3 dn k3] 40) = W8 := ⟨_, rfl⟩
             have HX8 := Lib.hid (show W8.heap[w7.heap.size]? = some (.cells #[.slice p0 q0 k0, .int .i64 s.ty, .int .u32 (s.ttl : Int), .slice p3 dn k3] 40) by rw [← hW8]; exact knew w7 _)
             have HS8 := Lib.hid (show SetR W8 [.slice p0 q0 k0, .int .i64 s.ty, .int .u32 (s.ttl : Int), .slice p3 dn k3] s by rw [← hW8]; exact HSB.out.below ((Below.refl _ w7).alloc (Nat.le_refl _) _))
             have HB8 := Lib.hid (show Below w2.heap.size w2 W8 by rw [← hW8]; exact HS73.out.alloc HS73.out.size _)
             rw [hW8]
             clear hW8 HSB hq HS73
             generalize w7.heap.size = Bx at *)
          | (have hq := HSA
             obtain ⟨W8, hW8⟩ : ∃ W8, (((w7.setCell ⟨wr.heap.size, 0, none⟩ (.slice p0 q0 k0)).setCell ⟨wr.heap.size, 1, none⟩ (.int .i64 s.ty)).setCell ⟨wr.heap.size, 2, none⟩ (.int .u32 (s.ttl : Int))).setCell ⟨wr.heap.size, 3, none⟩ (.slice p3 dn k3) = W8 := ⟨_, rfl⟩
             have HX8 := Lib.hid (show W8.heap[wr.heap.size]? = some (.cells #[.slice p0 q0 k0, .int .i64 s.ty, .int .u32 (s.ttl : Int), .slice p3 dn k3] 40) by rw [← hW8]; exact box46 HXA.out)
             have HS8 := Lib.hid (show SetR W8 [.slice p0 q0 k0, .int .i64 s.ty, .int .u32 (s.ttl : Int), .slice p3 dn k3] s by rw [← hW8]; exact HSA.out)
             have HB8 := Lib.hid (show Below w2.heap.size w2 W8 by rw [← hW8]; exact (((HS73.out.setCell (p := ⟨wr.heap.size, 0, none⟩) HWR.out _).setCell (p := ⟨wr.heap.size, 1, none⟩) HWR.out _).setCell (p := ⟨wr.heap.size, 2, none⟩) HWR.out _).setCell (p := ⟨wr.heap.size, 3, none⟩) HWR.out _)
             rw [hW8]
             clear hW8 HSA HXA hq HS73 HWR fz0 fz1 fz2 fz3 cl0 cl1 cl2 cl3
             generalize wr.heap.size = Bx at *)
          have hd0 := sets_ne HMEM.out
          rw [HDN.out] at hd0
          have hdz : ((dn : Int) == 0) = false := by simp; omega
          have f0 := fun p : WIn (fun W => Below W8.heap.size W8 W) => kcell ((p.ok.block Bx (kblock_lt HX8.out)).trans HX8.out)
          have g0 := fun p => f0 p 0 _ rfl; have g1 := fun p => f0 p 1 _ rfl; have g2 := fun p => f0 p 2 _ rfl; have g3 := fun p => f0 p 3 _ rfl
          have f1 := fun p : WIn (fun W => Below W8.heap.size W8 W) => HXC.out p.w (HB8.out.trans (p.ok.mono HB8.out.size))
          have j0 := fun p => (f1 p).1; have j1 := fun p => (f1 p).2.1; have j2 := fun p => (f1 p).2.2.1; have j3 := fun p => (f1 p).2.2.2
          have hcg : ∀ p : WIn (fun W => Below W8.heap.size W8 W), Calls Try.prog 8 #[.agg #[.slice p0 q0 k0, .int .i64 s.ty, .int .u32 (s.ttl : Int), .slice p3 dn k3], .agg #[.slice x01 x02 x03, .int .i64 s.ty, .int .u32 (s.ttl : Int), .slice x31 dn x33]] p.w fun e w'' => e = .returned (.bool true) ∧ ∃ q : WIn (fun W => Below W8.heap.size W8 W), w'' = q.w := fun p => by
            obtain ⟨da, da1, da2, -⟩ := SetR.dts (x0 := (p0, q0, k0)) (x3 := (p3, dn, k3)) HS8.out
            obtain ⟨db, db1, db2, -⟩ := SetR.dts (x0 := (x01, x02, x03)) (x3 := (x31, dn, x33)) HX.out
            have hbp : Below w2.heap.size w2 p.w := HB8.out.trans (p.ok.mono HB8.out.size)
            have hdl : s.data.length ≤ 1048576 := by have := HDN.out; omega
            have := rset_Equal p0 q0 k0 s.ty s.ttl (p3, dn, k3) x01 x02 x03 s.ty s.ttl (x31, dn, x33) da db s.data s.data p.w (da1.below p.ok) (da2.below p.ok) (db1.below hbp) (db2.below hbp) HDK.out HDK.out (by rw [da2.1]; exact hdl) (by rw [db2.1]; exact hdl)
            rw [sameDsM_self] at this
            exact Calls.cls (C := fun W => Below W8.heap.size W8 W) (this.mono fun _ _ ⟨hq, hb⟩ => ⟨hq, p.ok.trans (hb.mono p.ok.size)⟩)
          have hne : Nonempty (WIn (fun W => Below W8.heap.size W8 W)) := ⟨⟨W8, Below.refl _ _⟩⟩
          have hcl : Below W8.heap.size W8 W8.drew := ⟨rfl, rfl, rfl, Nat.le_refl _, fun _ _ => rfl⟩
          clear f0 f1 hd0
          go_wp2_with fail
          refine wp_region_cls (fun W => Below W8.heap.size W8 W) follows_mixed (by kernel_rfl) hcl ?_
          repeat (go_big_quiet_step (exact hcg _))
          refine wpQuiet_nil ?_
          rintro W9 ⟨p9, hp9⟩
          have hok := p9.ok
          rw [← hp9] at hok
          clear hp9 p9
          have HB9 := Lib.hid (HB8.out.trans (hok.mono HB8.out.size))
          clear g0 g1 g2 g3 j0 j1 j2 j3 hcg hne hcl hok hdz HX8 HS8 HB8 HRO
          obtain ⟨z1, z2, z3, z4⟩ := HXC.out W9 HB9.out
          have hc := row_Types (.slice a n c) (.slice x01 x02 x03) s.owner l W9 (HROW.out.below (HB2.out.trans (HB9.out.mono HB2.out.size))) (HX.out.owner.below HB9.out) HKO.out HOKL.out (by have := HLL.out; omega)
          have HTM := Lib.hid (typesM_mem HMEM.out)
          have HTL := Lib.hid (typesM_len s.owner l)
          obtain ⟨tys, htys⟩ : ∃ tys, typesM s.owner l = tys := ⟨_, rfl⟩
          rw [htys] at hc HTM HTL
          clear htys
          go_wp2_with fail
          refine hc.mono ?_
          rintro e w10 ⟨v10, rfl, ho10, hb10⟩
          obtain ⟨ta, tc, rfl⟩ := ho10.shape
          obtain ⟨tb, rfl, -, htb, htc⟩ := ho10.cells (List.ne_nil_of_mem HTM.out)
          have HB10 := Lib.hid (HB9.out.trans (hb10.mono HB9.out.size))
          have HTC := Lib.hid htc; have HTB := Lib.hid htb
          obtain ⟨tn, htn⟩ : ∃ tn, tys.length = tn := ⟨_, rfl⟩
          rw [htn]
          have HTN := Lib.hid htn
          clear hc ho10 hb10 htc htb htn HB9 z1 z2 z3 z4
          go_wp2
          obtain ⟨wo, rfl⟩ : ∃ wo : World, wo = wr := ⟨_, rfl⟩
          have htn60 : tn ≤ 60 := (by have := HTN.out; have := HTL.out; have := HLL.out; omega)
          go_loopw [9, 10] (fun von vk wr => ∃ j : Nat, vk = .int .i64 j ∧ von = .bool (decide (s.ty ∈ tys.take j)) ∧ j ≤ tn ∧ Hid (Below w10.heap.size w10 wr)) (fun _ vk _ => tn - (intOf vk).toNat)
          case atStart => exact ⟨0, rfl, by simp, Nat.zero_le _, Lib.hid (Below.refl _ _)⟩
          case round =>
            obtain ⟨j, rfl, rfl, hj, HBJ⟩ := hrel
            by_cases hjt : j < tn
            · have hjz : (j : Int) < (tn : Int) := by omega
              have hj2 : j < tys.length := by have := HTN.out; omega
              have hcj : wr.cell? ⟨tb, j, none⟩ = some (.int .i64 (tys[j]'hj2)) := (HBJ.out.cell (p := ⟨tb, j, none⟩) HTB.out).trans (HTC.out j hj2)
              obtain ⟨z1, z2, z3, z4⟩ := HXC.out wr (HB10.out.trans (HBJ.out.mono HB10.out.size))
              have hob := mem_take1 (x := s.ty) hj2
              obtain ⟨tj, htj⟩ : ∃ tj, tys[j]'hj2 = tj := ⟨_, rfl⟩
              rw [htj] at hcj hob
              have HOB := Lib.hid hob
              clear htj hob
              generalize decide (s.ty ∈ tys.take j) = ob at *
              cases ob
              · by_cases hts : tj = s.ty
                · subst hts
                  have hbb : (s.ty == s.ty) = true := by simp
                  go_wp2_with fail
                  go_quiet (fail)
                  go_wp2
                  go_roundw
                  case measure => simp [intOf]; omega
                  case rel => exact ⟨j + 1, by go_num, by rw [HOB.out]; simp, by omega, Lib.hid (below_drewQ HBJ.out _)⟩
                · have hbb : (tj == s.ty) = false := by simpa using hts
                  go_wp2_with fail
                  go_quiet (fail)
                  go_wp2
                  go_roundw
                  case measure => simp [intOf]; omega
                  case rel => exact ⟨j + 1, by go_num, by rw [HOB.out]; simp [hts], by omega, Lib.hid (below_drewQ HBJ.out _)⟩
              · go_wp2_with fail
                go_quiet (fail)
                go_wp2
                go_roundw
                case measure => simp [intOf]; omega
                case rel => exact ⟨j + 1, by go_num, by rw [HOB.out]; simp, by omega, Lib.hid (below_drewQ HBJ.out _)⟩
            · obtain rfl : j = tn := by omega
              have hon : decide (s.ty ∈ tys.take j) = true := by
                rw [List.take_of_length_le (by have := HTN.out; omega)]; simpa using HTM.out
              have HON := Lib.hid hon
              rw [hon]
              clear hon
              go_wp2
              go_roundw
              case measure => simp [intOf]; omega
              case rel => exact ⟨k + 1, q + dn, by go_num, by go_num, by omega, Lib.hid HSUM.out.symm, Lib.hid (HB10.out.trans (HBJ.out.mono HB10.out.size))⟩
      · obtain rfl : k = m := by omega
        have hq := HQ.out
        rw [List.take_of_length_le (by have := HM.out; omega), ← HSS.out, sets_sum] at hq
        have hbr := HB2.out.trans (HB.out.mono HB2.out.size)
        obtain ⟨css9, r1, r2⟩ := HROW.out.below hbr
        have hc := rec_Canon _ css9 l wr r1 r2 HOKL.out (by rw [r2.1]; have := HLL.out; omega)
        unfold CanonPost at hc
        have HQQ := Lib.hid hq
        have HBR := Lib.hid hbr
        clear hq hbr r1 r2 HQ HB HSS
        go_wp2_with fail
        refine hc.mono ?_
        rintro e w9 ⟨v9, cs9, rfl, ho9, hl9, -, hb9⟩
        obtain ⟨a9, c9, rfl⟩ := OwnK.shape ho9
        rw [hl9, ← HQQ.out]
        have HB9 := Lib.hid (HBR.out.trans (hb9.mono HBR.out.size))
        clear hb9 ho9 hl9 hc
        go_wp2
        go_ret
        exact ⟨rfl, HB9.out⟩
  · simp only [Bool.not_eq_true] at hf
    subst hf
    go_wp2
    go_ret
    exact ⟨rfl, HB1.out⟩
end Go.Proofs.Ytfcdajldpnomfaa

