/-
  (*Tree[bool]).all, Names.
-/
import Derived.Test.YtbnkecmhmcligaaMQ16
import Derived.Test.YtbnkecmhmcligaaMQ08
import Derived.Test.YtbnkecmhmcligaaMQ29
namespace Go.Proofs.Ytbnkecmhmcligaa
set_option linter.unusedVariables false
set_option linter.unusedSimpArgs false
set_option maxRecDepth 20000
open Go.RowKit Go.Shelf Go.Maps Go.WideMaps
set_option maxRecDepth 20000
theorem all_stops_b (n b1 : Nat) (s : TreS) (more : Nat) (N0 : Nat) (w : World) (hN : N0 ≤ w.heap.size) (hT : TrM 45 43 (.bool false) w s more) (hb : Boxed w b1 24 (.pointer (some ⟨s.be [], 0, none⟩))) (hsz : s.ks.length ≤ 1048576) (hdeep : ∀ p ∈ s.ks, p.length ≤ 1048576 ∧ ∀ l ∈ p, l.length ≤ 1048576) :
    SeqStopsU YAll_b Fence.wide n Try.prog 33 #[.pointer (some ⟨b1, 0, none⟩)] elV (fun x W => OwnNm W N0 x) KeepAl (fun xs => xs.map (·.2) = srtT s.ks) (fun pre => pre.map (·.2) <+: srtT s.ks) s.ks.length w := fun l J Jx W hW hJ hJx hY h0 =>
  callsIn_wide.2 (all1_in_b l b1 s more W J Jx hJ hJx (fun pre x W1 hj hd hl => yieldAt_wide _ (hY pre x W1 hj (OwnG.weaken hd (Nat.le_trans hN hW.size)) hl)) (hT.below hW) ((hW.block b1 hb.lt).trans hb) hsz hdeep h0)
section
attribute [local go_sem] Oper.semAt_some
theorem tree_all_b (B : Nat) (w : World) :
    Calls Try.prog 22 #[.pointer (some ⟨B, 0, none⟩)] w fun e w' => e = .returned (.func (.func 33) #[] #[.pointer (some ⟨w.heap.size, 0, none⟩)]) ∧ w' = w.alloc (.cells #[.pointer (some ⟨B, 0, none⟩)] 24) := by
  go_enter Try.func22, Try.ntmps22
  go_wp2
  go_ret
  exact ⟨rfl, rfl⟩
set_option maxRecDepth 100000 in
set_option maxHeartbeats 4000000 in
theorem tree_Names_b (s : TreS) (more : Nat) (w : World) (hT : TrM 45 43 (.bool false) w s more) (hsz : s.ks.length ≤ 1048576) (hdeep : ∀ p ∈ s.ks, p.length ≤ 1048576 ∧ ∀ l ∈ p, l.length ≤ 1048576) :
    Calls Try.prog 8 #[.pointer (some ⟨s.be [], 0, none⟩)] w (NamesPost s w) := by
  have HT := Lib.hid hT; have HSZ := Lib.hid hsz; have HDP := Lib.hid hdeep
  obtain ⟨B, hB⟩ : ∃ B, s.be [] = B := ⟨_, rfl⟩
  rw [hB]
  have HB := Lib.hid hB
  clear hT hsz hdeep hB
  obtain ⟨W0, hW0⟩ : ∃ W0, w.alloc (.cells #[.slice none 0 0] 22) = W0 := ⟨_, rfl⟩
  obtain ⟨W1, hW1⟩ : ∃ W1, W0.alloc (.cells #[.pointer (some ⟨B, 0, none⟩)] 24) = W1 := ⟨_, rfl⟩
  have hz0 : W0.heap.size = w.heap.size + 1 := by rw [← hW0]; simp
  have hb0 : Below w.heap.size w W1 := by rw [← hW1, ← hW0]; exact ((Below.refl w.heap.size w).alloc (Nat.le_refl _) _).alloc (by simp) _
  have x0 : Boxed W1 w.heap.size 22 (.slice none 0 0) := by rw [← hW1, ← hW0]; exact (Boxed.new w _ _).alloc _
  have x1 : Boxed W1 (w.heap.size + 1) 24 (.pointer (some ⟨s.be [], 0, none⟩)) := by
    have h := Boxed.new W0 24 (.pointer (some ⟨B, 0, none⟩))
    rw [hz0] at h
    rw [← hW1, HB.out]; exact h
  have hz1 : W1.heap.size = w.heap.size + 2 := by rw [← hW1]; simp [hz0]
  have hI0 : NamI w [] W1 := ⟨⟨_, x0, OwnG.nil _ _⟩, fun x h => (by cases h), hb0⟩
  have HW0 := Lib.hid hW0; have HW1 := Lib.hid hW1; have HZ1 := Lib.hid hz1; have HZ0 := Lib.hid hz0
  clear hW0 hW1 hz1 hz0 x0
  refine (callsIn_wide (n := 9)).1 ?_
  refine callsIn_of_wp_marks Try.func8 rfl trivial ?_ rfl
  simp only [Try.ntmps8, List.size_toArray, List.length_cons, List.length_nil, Nat.reduceAdd, Nat.reduceSub, Array.replicate_succ, Array.replicate_zero, List.push_toArray, List.append_toArray, List.nil_append, List.cons_append]
  refine wpIn_wide.2 ?_
  go_wp2_with fail
  rw [HW0.out]
  clear HW0
  refine (tree_all_b _ _).mono ?_
  rintro e w2 ⟨rfl, rfl⟩
  go_wp2
  refine (wpIn_wide (n := 9)).1 ?_
  rw [HW1.out, HZ0.out]
  clear HW1
  refine wpIn_rangeFunc_U (Y := YAll_b) (fun o h => .inl h) rfl (by omega) (gf := 33) (lb := #[.pointer (some ⟨w.heap.size + 1, 0, none⟩)]) rfl trivial (enters_of Try.func33 (by kernel_rfl) rfl)
    (all_stops_b _ (w.heap.size + 1) s more w.heap.size W1 (by rw [HZ1.out]; omega) (HT.out.below hb0) x1 HSZ.out HDP.out) (fun x W l o o' _ hl hp hd => OwnG.putObj hd o' hl hp.1) keepAl_t keepAl_b (Below.refl _ _) (fun _ => rfl)
    (NamI w) (fun _ _ _ => False)
    (namI_own (by rw [HZ1.out]; omega) (fun o ho cs t e => by
      subst e
      rcases ho with ho | ⟨cs', t', e, ht⟩
      · cases ho.1
      · injection e with _ e _; subst e
        rcases ht with rfl | rfl
        · exact ⟨by decide, by decide, by decide⟩
        · exact ⟨by decide, by decide, by decide⟩))
    (fun _ _ _ _ _ h _ _ => h.elim)
    hI0
    (fun x => { tmps := #[.pointer (some ⟨B, 0, none⟩), undef, .slice none 0 0, .pointer (some ⟨w.heap.size, 0, none⟩), hdV x.1, .pointer (some ⟨B, 0, none⟩), .func (.func 33) #[] #[.pointer (some ⟨w.heap.size + 1, 0, none⟩)], hdV x.1, undef, undef, undef, undef, undef], defers := [] }) ?assign ?body ?done ?stop
  case assign =>
    intro l x W K hK
    unfold elV
    gi_wp2
    exact hK
  case body =>
    rintro l' pre x W hl' ⟨rec, hrec⟩ ⟨⟨v, h1, h2⟩, h3, h4⟩ hd hlt
    obtain ⟨va, vc, rfl⟩ := h2.shape
    obtain ⟨vn, hvn⟩ : ∃ n, pre.length = n := ⟨_, rfl⟩
    rw [hvn] at h1 h2
    have hpl : pre.length ≤ 1048576 := by have := HSZ.out; omega
    have c0 := h1.cell
    have ca := (h1.alloc (.cells #[hdV x.1] 28)).cell
    have hP := Lib.hid (fun (a' : Option Addr) (n' c' : Nat) (w1 : World) (ho : OwnG 28 elH w1 w.heap.size (.slice a' n' c') (pre ++ [x])) (hg : W.grownBy w1 (Value.slice va vn vc).ownBlock) => NamI.push h1 h2 h3 h4 hd ho hg W1.heap.size)
    have H2 := Lib.hid h2; have HPL := Lib.hid hpl; have HSW := Lib.hid (show w.heap.size ≤ W.heap.size from h4.size)
    obtain ⟨xv, hxv⟩ : ∃ v, hdV x.1 = v := ⟨_, rfl⟩
    have hcel : [xv] = [x].map elH := by rw [← hxv]; rfl
    have HCE := Lib.hid hcel
    rw [hxv] at ca ⊢
    obtain ⟨⟨xa, xn, xc⟩, xp⟩ := x
    simp only [hdV] at hxv
    subst hxv
    clear h1 h2 h3 h4 hd hrec hlt hpl hvn hcel
    gi_wp2_with (gi_at_builtin; refine wplIn_append_g W rfl (.tmp 8) (.tmp 10) elemNs rfl (fun _ => rfl) w.heap.size _ pre rfl H2.out _ [((xa, xn, xc), xp)] HCE.out 1 1 rfl rfl HSW.out (by have := HPL.out; unfold maxLen; simp; omega) (by have := HPL.out; simp; omega) ?_; intro v' w1 hown' hg'; obtain ⟨a', n', c', rfl⟩ : ∃ a n c, v' = .slice a n c := (by obtain ⟨a, c, e⟩ := hown'.shape; exact ⟨_, _, _, e⟩); obtain ⟨hv1, k1, k2, k3⟩ := hP.out _ _ _ _ hown' hg'; have hc1 := hv1.cell; have hf1 := hv1.frozen; have K1 := Lib.hid k1; have K2 := Lib.hid k2; have K3 := Lib.hid k3; clear hown' hg' hv1 k1 k2 k3)
    exact ⟨K1.out, K2.out, K3.out⟩
  case done =>
    rintro D xs W hD hxs ⟨⟨v, h1, h2⟩, h3, h4⟩ hKD
    have c0 := h1.cell
    obtain ⟨va, vc, rfl⟩ := h2.shape
    obtain ⟨vn, hvn⟩ : ∃ n, xs.length = n := ⟨_, rfl⟩
    rw [hvn] at h1 h2 c0
    have HF : Hid (NamesPost s w (.returned (.slice va vn vc)) (W.putObj D (.deferred none))) := Lib.hid ⟨_, xs, rfl, hxs, OwnG.putObj h2 _ hKD rfl, fun x hx => OwnG.putObj (h3 x hx) _ hKD rfl, below_putO h4 (by rw [HZ1.out] at hD; omega) (Nat.le_refl _)⟩
    have HKD := Lib.hid hKD
    clear h1 h2 h3 h4 hKD hxs hvn
    gi_wp2
    go_wp2
    refine ⟨by simp, .inl ⟨_, _, rfl, run_takeDeferred HKD.out, ?_⟩⟩
    refine ⟨_, results_tmp rfl _ _ _, ?_⟩
    exact HF.out
  case stop =>
    rintro D c2 pre W hD hp h _
    exact h.elim
end
end Go.Proofs.Ytbnkecmhmcligaa

/-
  Two trees of bool in one world; the ways put by a list that is turned.
-/
namespace Go.Proofs.Ytbnkecmhmcligaa
set_option linter.unusedVariables false
set_option linter.unusedSimpArgs false
set_option maxRecDepth 20000
open Go.RowKit Go.Shelf Go.Maps Go.WideMaps
set_option maxRecDepth 20000
/-- Two trees of the law's own, apart from one another. -/
def T2 (w : World) (A B : Nat) (ka kb : List Nm) (W : World) : Prop :=
  ∃ s t, TrM 45 43 (.bool false) W s (s.ks.length - 1) ∧ TrM 45 43 (.bool false) W t (t.ks.length - 1) ∧ s.ks = ka ∧ t.ks = kb ∧ s.be [] = A ∧ t.be [] = B ∧ (∀ k, foot s k → w.heap.size ≤ k) ∧ (∀ k, foot t k → w.heap.size ≤ k) ∧ (∀ k, foot s k → ¬ foot t k) ∧ Below w.heap.size w W
theorem T2.below' {w W W' : World} {A B : Nat} {ka kb : List Nm} (h : T2 w A B ka kb W) (hb : Below W.heap.size W W') : T2 w A B ka kb W' := by
  obtain ⟨s, t, h1, h2, e1, e2, e3, e4, h5, h6, h7, h8⟩ := h
  exact ⟨s, t, h1.below hb, h2.below hb, e1, e2, e3, e4, h5, h6, h7, h8.trans (hb.mono h8.size)⟩
theorem T2.world {w W : World} {A B : Nat} {ka kb : List Nm} (h : T2 w A B ka kb W) : Below w.heap.size w W := by
  obtain ⟨s, t, h1, h2, e1, e2, e3, e4, h5, h6, h7, h8⟩ := h
  exact h8
theorem T2.flip {w W : World} {A B : Nat} {ka kb : List Nm} (h : T2 w A B ka kb W) : T2 w B A kb ka W := by
  obtain ⟨s, t, h1, h2, e1, e2, e3, e4, h5, h6, h7, h8⟩ := h
  exact ⟨t, s, h2, h1, e2, e1, e4, e3, h6, h5, fun k a b => h7 k b a, h8⟩
theorem T2.ok {w W : World} {A B : Nat} {ka kb : List Nm} (h : T2 w A B ka kb W) : TreeOK ka ∧ TreeOK kb := by
  obtain ⟨s, t, h1, h2, rfl, rfl, e3, e4, h5, h6, h7, h8⟩ := h
  exact ⟨h1.ok, h2.ok⟩
theorem t2_New {w W : World} {A : Nat} {f : Nm → Option Value} (h : TLp 45 43 (.bool false) w A [[]] f W) : Calls Try.prog 5 #[] W (fun e w' => ∃ B, e = .returned (.pointer (some ⟨B, 0, none⟩)) ∧ T2 w A B [[]] [[]] w' ∧ Below W.heap.size W w') := by
  obtain ⟨s, h1, h2, -, h4, h5, h6⟩ := h
  refine (tree_New_b W).mono ?_
  rintro e w' ⟨t, rfl, g1, g2, g3, g4, g5⟩
  exact ⟨_, rfl, ⟨s, t, h1.below g5, g1, h2, g2, h4, rfl, h5, fun k hk => Nat.le_trans h6.size (g4 k hk), fun k a b => by have := h1.lt a; have := g4 k b; omega, h6.trans (g5.mono h6.size)⟩, g5⟩
theorem t2_Put {w W : World} {A B : Nat} {ka kb : List Nm} (h : T2 w A B ka kb W) (vn : Value) (x : Bool) (n : Nm) (hA : NmAt W vn n) (hk : NmBig n) (hsz : ka.length ≤ 281474976710656) :
    Calls Try.prog 7 #[.pointer (some ⟨A, 0, none⟩), vn, .bool x] W (fun e w' => (∃ x, e = .returned x) ∧ T2 w A B (addK ka (wayN n)) kb w') := by
  obtain ⟨s, t, h1, h2, rfl, rfl, rfl, rfl, h5, h6, h7, h8⟩ := h
  refine (tree_PutB_b s vn (.bool x) n _ rfl W h1 hA hk ⟨_, rfl⟩ hsz).mono ?_
  rintro e w' ⟨hx, s', g1, g2, g3, g4, g5, g6⟩
  exact ⟨hx, s', t, g1, h2.move (fun k hk => g6.block k (h2.lt hk) (fun hs => h7 k hs hk)), g2, rfl, g4, rfl, fun k hk => (g5 k hk).elim (h5 k) (fun g => Nat.le_trans h8.size g), h6, fun k hk ht => (g5 k hk).elim (fun g => h7 k g ht) (fun g => by have := h2.lt ht; omega), h8.trans (g6.below h8.size h5)⟩
/-- A tree's names, in order. -/
def nmsOf (ks : List Nm) : List Nm := (srtT ks).map List.reverse
theorem nmsOf_len (ks : List Nm) : (nmsOf ks).length = ks.length := by unfold nmsOf; rw [List.length_map, srtT_len]
theorem nmsOf_mem {ks : List Nm} {x : Nm} (h : x ∈ nmsOf ks) : x.reverse ∈ ks := by
  obtain ⟨y, hy, rfl⟩ := List.mem_map.1 h
  rw [List.reverse_reverse]; exact mem_srtT.1 hy
def Deep (ks : List Nm) : Prop := ∀ p ∈ ks, p.length ≤ 1048576 ∧ ∀ l ∈ p, l.length ≤ 1048576
theorem Deep.nm {ks : List Nm} (h : Deep ks) {x : Nm} (hx : x ∈ nmsOf ks) : NmOK x := by
  have := h _ (nmsOf_mem hx)
  exact ⟨by have := this.1; rwa [List.length_reverse] at this, fun l hl => this.2 l (by simpa using hl)⟩
theorem way_nms {ks : List Nm} (h : TreeOK ks) {x : Nm} (hx : x ∈ nmsOf ks) : wayN x ∈ ks := by
  have h1 := nmsOf_mem hx
  have h2 := h.fold _ h1
  rw [foldN_rev] at h2
  have h3 := congrArg List.reverse h2
  rw [List.reverse_reverse, List.reverse_reverse] at h3
  unfold wayN; rw [h3]; exact h1
theorem t2_Names {w W : World} {A B : Nat} {ka kb : List Nm} (h : T2 w A B ka kb W) (hd : Deep ka) (hsz : ka.length ≤ 1048576) :
    Calls Try.prog 8 #[.pointer (some ⟨A, 0, none⟩)] W (fun e w' => ∃ a c, e = .returned (.slice a ka.length c) ∧ NmsAt w' (.slice a ka.length c) (nmsOf ka) ∧ Below W.heap.size W w') := by
  obtain ⟨s, t, h1, h2, rfl, rfl, rfl, rfl, h5, h6, h7, h8⟩ := h
  refine (tree_Names_b s _ W h1 hsz hd).mono ?_
  rintro e w' ⟨v, xs, rfl, hx, ho, hn, hb⟩
  have hy : nmsOf s.ks = xs.map (fun x => x.2.reverse) := by unfold nmsOf; rw [← hx, List.map_map]; rfl
  have hxl : xs.length = s.ks.length := by have := congrArg List.length hx; rw [List.length_map, srtT_len] at this; exact this
  obtain ⟨a, c, rfl⟩ := ho.shape
  rw [hxl] at ho ⊢
  refine ⟨a, c, rfl, ⟨xs.map elH, SlAt.of_own ho, by rw [hy, List.length_map, List.length_map], fun j hj => ?_⟩, hb⟩
  rw [List.length_map] at hj
  simp only [hy, List.getElem_map]
  exact (hn _ (List.getElem_mem hj)).nm
theorem t2_Len {w W : World} {A B : Nat} {ka kb : List Nm} (h : T2 w A B ka kb W) (hsz : ka.length ≤ 549755813888) :
    Calls Try.prog 9 #[.pointer (some ⟨A, 0, none⟩)] W (fun e w' => e = .returned (.int .i64 (ka.length : Int)) ∧ w' = W) := by
  obtain ⟨s, t, h1, h2, rfl, rfl, rfl, rfl, h5, h6, h7, h8⟩ := h
  exact tree_Len_b s W h1 hsz
theorem t2_Kids {w W : World} {A B : Nat} {ka kb : List Nm} (h : T2 w A B ka kb W) (vn : Value) (n : Nm) (hA : NmAt W vn n) (hk : NmOK n) (hin : wayN n ∈ ka) (hsz : ka.length ≤ 549755813888) :
    Calls Try.prog 11 #[.pointer (some ⟨A, 0, none⟩), vn] W (fun e w' => ∃ a c K, e = .returned (.slice a K.length c) ∧ KidsOf ka (wayN n) K ∧ Below W.heap.size W w') := by
  obtain ⟨s, t, h1, h2, rfl, rfl, rfl, rfl, h5, h6, h7, h8⟩ := h
  refine (tree_Kids_b s _ vn n W h1 hA hk hsz).mono ?_
  rintro e w' (⟨_, v, ss, rfl, hs, _, ho, hb⟩ | ⟨hn, _, _⟩)
  · obtain ⟨a, c, rfl⟩ := ho.shape
    exact ⟨a, c, ss, rfl, hs, hb⟩
  · exact absurd hin hn

/-! ### the turned list -/
def turnL (l : List Nm) (t : Nat) : List Nm := (List.range l.length).map fun i => l.getD ((i + t) % l.length) []
theorem turnL_len (l : List Nm) (t : Nat) : (turnL l t).length = l.length := by simp [turnL]
theorem turnL_get {l : List Nm} {t i : Nat} (h : i < l.length) (h2 : (i + t) % l.length < l.length) : (turnL l t)[i]'(by rw [turnL_len]; exact h) = l[(i + t) % l.length] := by
  simp [turnL, List.getD, h2]
theorem turnL_mem {l : List Nm} {t : Nat} {x : Nm} : x ∈ turnL l t ↔ x ∈ l := by
  constructor
  · intro h
    obtain ⟨i, hi, rfl⟩ := List.mem_map.1 h
    have hi := List.mem_range.1 hi
    have h2 : (i + t) % l.length < l.length := Nat.mod_lt _ (by omega)
    rw [List.getD_eq_getElem?_getD, List.getElem?_eq_getElem h2]
    exact List.getElem_mem h2
  · intro h
    obtain ⟨j, hj, rfl⟩ := List.mem_iff_getElem.1 h
    have h0 : 0 < l.length := by omega
    have hm : t % l.length < l.length := Nat.mod_lt _ h0
    refine List.mem_map.2 ⟨(j + (l.length - t % l.length)) % l.length, List.mem_range.2 (Nat.mod_lt _ h0), ?_⟩
    have e : ((j + (l.length - t % l.length)) % l.length + t) % l.length = j := by
      rw [Nat.mod_add_mod]
      have e2 : j + (l.length - t % l.length) + t = j + l.length * (t / l.length + 1) := by
        have := Nat.div_add_mod t l.length
        rw [Nat.mul_add, Nat.mul_one]; omega
      rw [e2, Nat.add_mul_mod_self_left, Nat.mod_eq_of_lt hj]
    rw [e, List.getD_eq_getElem?_getD, List.getElem?_eq_getElem hj]
    rfl
theorem srtT_same {a b : List Nm} (ha : TreeOK a) (hb : TreeOK b) (h : ∀ x, x ∈ a ↔ x ∈ b) : srtT a = srtT b :=
  srt_is hb (srtT_rising ha) fun x => by rw [mem_srtT, h]
theorem turned_same {l : List Nm} {t : Nat} (x : Nm) : x ∈ ksOf l ↔ x ∈ ksOf (turnL l t) := by
  rw [mem_ksOf, mem_ksOf]
  constructor
  · rintro (h | ⟨n, h1, h2⟩)
    · exact .inl h
    · exact .inr ⟨n, turnL_mem.2 h1, h2⟩
  · rintro (h | ⟨n, h1, h2⟩)
    · exact .inl h
    · exact .inr ⟨n, turnL_mem.1 h1, h2⟩
theorem nms_turned {l : List Nm} {t : Nat} (ha : TreeOK (ksOf l)) (hb : TreeOK (ksOf (turnL l t))) : nmsOf (ksOf l) = nmsOf (ksOf (turnL l t)) := by
  unfold nmsOf; rw [srtT_same ha hb turned_same]
theorem kids_turned {l : List Nm} {t : Nat} {p : Nm} {K K' : List (List UInt8)} (h : KidsOf (ksOf l) p K) (h' : KidsOf (ksOf (turnL l t)) p K') : K = K' :=
  kidsOf_uniq h ⟨fun x => by rw [turned_same, h'.mem], h'.rise⟩
theorem ksOf_big : ∀ (l : List Nm), (∀ n ∈ l, NmBig n) → (ksOf l).length ≤ 1 + 8796093021952 * l.length := by
  refine snoc_ind ?_ ?_
  · intro _; simp [ksOf]
  · intro l n ih h
    rw [ksOf_snoc]
    have h1 := ih (fun x hx => h x (by simp [hx]))
    have h2 := (h n (by simp)).1
    have h3 := addK_len (ksOf l) (wayN n)
    rw [wayN_len] at h3
    rw [List.length_append, List.length_singleton]
    omega
theorem ksOf_deep (l : List Nm) (h : ∀ n ∈ l, NmOK n) : Deep (ksOf l) := by
  intro p hp
  rcases mem_ksOf.1 hp with rfl | ⟨n, h1, h2⟩
  · simp
  · have hn := (h n h1).fold
    refine ⟨by have := h2.length_le; rw [wayN_len] at this; have := (h n h1).1; omega, fun x hx => hn.2 x ?_⟩
    have := h2.subset hx
    unfold wayN at this
    simpa using this
end Go.Proofs.Ytbnkecmhmcligaa

