/-
  The library's stable sort at a struct: the recursion, and the blocks.
-/
import Derived.Test.YtckammgnmgkieaaGreatMQ21
import Derived.Test.YtckammgnmgkieaaGreatMQ20
import Derived.Test.YtckammgnmgkieaaGreatMQ09
namespace Go.Proofs.YtckammgnmgkieaaGreat
set_option maxRecDepth 20000
open Go.RowKit Go.Shelf Go.Sort Go.Lib
set_option linter.unusedVariables false
set_option linter.unusedSimpArgs false
set_option linter.unusedSectionVars false
variable {P : Program} {α : Type} [Inhabited α]

structure SFun (P : Program) : Prop where
  fs : P.funcs[217]? = some Tryz.f217
  fr : P.funcs[216]? = some Tryz.f216
  fi : P.funcs[208]? = some Tryz.f208
  fm : P.funcs[209]? = some Tryz.f209
  ft : P.funcs[184]? = some Tryz.f184
  es : ∀ args w, (callFunc 217 args).run P w = .ok (.enter 217 args) w
  er : ∀ args w, (callFunc 216 args).run P w = .ok (.enter 216 args) w
  ei : ∀ args w, (callFunc 208 args).run P w = .ok (.enter 208 args) w
  em : ∀ args w, (callFunc 209 args).run P w = .ok (.enter 209 args) w

theorem sort_sym {k : Nat} (L : SLay P k) (F : SFun P) (enc : α → List Value) (hk : ∀ x, (enc x).length = k) (h1 : ∀ x, ∀ v ∈ enc x, v.oneCell' = true) (cf : α → α → Int) (tg : α → Nat) (hO : Stb.COrd cf) (g : Nat) (cb : Array Value)
    (blk off cap N : Nat) (hN : N < 4611686018427387904) (w : World) (hcmp : CmpB P g cb enc cf w blk) : ∀ (n a m b : Nat) (d : Array α) (W : World), b - a ≤ n → d.size = N → SW enc k w blk off d W → Stb.Mrg cf tg a m b d →
    Calls P 209 #[.slice (some ⟨blk, off, none⟩) N cap, .int .i64 a, .int .i64 m, .int .i64 b, .func (.func g) #[] cb] W (SymPost enc k cf tg W blk off d a b)
  | 0, a, m, b, d, W, hn, _, _, hM => by have := hM.am; have := hM.mb; omega
  | n + 1, a, m, b, d, W, hn, hs, hW, hM => by
    subst hs
    have hc := hcmp.later hW.rest
    by_cases hma : m = a + 1
    · exact sort_sym_one L F.fm enc hk h1 cf tg hO g cb blk off cap a m b hma d W hc hW.row hW.lt' hM hN
    by_cases hbm : b = m + 1
    · exact sort_sym_last L F.fm enc hk h1 cf tg hO g cb blk off cap a m b hma hbm d W hc hW.row hW.lt' hM hN
    exact sort_sym_gen L F.fm F.fr F.fs F.es F.er F.em enc hk h1 cf tg hO g cb blk off cap a m b hma hbm d W hc hW.row hW.lt' hM hN
      (fun a' m' b' d' W' hlt hs' hW' hM' => sort_sym L F enc hk h1 cf tg hO g cb blk off cap d.size hN w hcmp n a' m' b' d' W' (by omega) hs' (hW.trans hW') hM')

def StbPost (enc : α → List Value) (k : Nat) (cf : α → α → Int) (tg : α → Nat) (w : World) (blk off : Nat) (d : Array α) (e : Ending) (w' : World) : Prop :=
  e = .returned (.tuple #[]) ∧ ∃ d' : Array α, PermIn 0 d.size d d' ∧ Stb.Rise cf tg 0 d.size d' ∧ SW enc k w blk off d' w'
structure StbAt (enc : α → List Value) (k : Nat) (w : World) (blk off : Nat) (d : Array α) (Q : Array α → Prop) (dk : Array α) (W : World) : Prop where
  perm : PermIn 0 d.size d dk
  sw : SW enc k w blk off dk W
  q : Q dk
theorem StbAt.next {enc : α → List Value} {k : Nat} {w : World} {blk off : Nat} {d : Array α} {Q Q' : Array α → Prop} {dk d' : Array α} {W W' : World} (h : StbAt enc k w blk off d Q dk W) {a b : Nat} (hb : b ≤ d.size) (hp : PermIn a b dk d') (hw : SW enc k W blk off d' W') (hq : Q' d') : StbAt enc k w blk off d Q' d' W' :=
  ⟨permIn_trans _ _ _ 0 d.size h.perm (permIn_mono _ _ a b 0 d.size (Nat.zero_le _) hb (by rw [h.perm.1]; omega) hp), h.sw.trans hw, hq⟩

set_option maxHeartbeats 8000000 in
set_option maxRecDepth 1000000 in
theorem sort_stable {k : Nat} (L : SLay P k) (F : SFun P) (enc : α → List Value) (hk : ∀ x, (enc x).length = k) (h1 : ∀ x, ∀ v ∈ enc x, v.oneCell' = true) (cf : α → α → Int) (tg : α → Nat) (hO : Stb.COrd cf) (g : Nat) (cb : Array Value)
    (blk off cap : Nat) (d : Array α) (w : World) (hcmp : CmpB P g cb enc cf w blk) (hH : HoldsK enc k w blk off d) (hblk : blk < w.heap.size) (ht : ∀ i, i < d.size → tg d[i]! = i) (hsz : d.size < 4611686018427387904) :
    Calls P 184 #[.slice (some ⟨blk, off, none⟩) d.size cap, .int .i64 d.size, .func (.func g) #[] cb] w (StbPost enc k cf tg w blk off d) := by
  have mixed := L.mixed; have t0 := L.t0; have a0 := L.a0; have z0 := L.z0; have v0 := L.v0; have t3 := L.t3; have a3 := L.a3; have z3 := L.z3; have v3 := L.v3; have t4 := L.t4; have a4 := L.a4; have z4 := L.z4; have v4 := L.v4; have t85 := L.t85; have a85 := L.a85; have z85 := L.z85; have v85 := L.v85; have t43 := L.t43; have a43 := L.a43; have z43 := L.z43; have v43 := L.v43; have t69 := L.t69; have a69 := L.a69; have z69 := L.z69; have v69 := L.v69; have aE := L.aE; have zE := L.zE
  have u43 := run_underlying L.t43
  obtain ⟨n, hn⟩ : ∃ n, d.size = n := ⟨_, rfl⟩
  have HNN := Lib.hid hn
  have hF := F.ft
  have ei := F.ei
  have em := F.em
  have HI := Lib.hid (fun (dk : Array α) (W : World) (a b : Nat) (hs : dk.size = n) (hW : SW enc k w blk off dk W) (hab : a ≤ b) (hb : b ≤ n) =>
    (show Calls P 208 #[.slice (some ⟨blk, off, none⟩) n cap, .int .i64 a, .int .i64 b, .func (.func g) #[] cb] W (InsPost enc k cf W blk off dk a b) from hs ▸ sort_insertion L F.fi enc hk h1 cf g cb blk off cap a b dk W (hcmp.later hW.rest) hW.row hW.lt' hab (by omega) (by omega)))
  have HM := Lib.hid (fun (dk : Array α) (W : World) (a m b : Nat) (hs : dk.size = n) (hW : SW enc k w blk off dk W) (hM : Stb.Mrg cf tg a m b dk) => sort_sym L F enc hk h1 cf tg hO g cb blk off cap n (by omega) w hcmp (b - a) a m b dk W (Nat.le_refl _) hs hW hM)
  have HS0 : Hid (StbAt enc k w blk off d (Stb.Blk0 cf tg 20 0) d w) := Lib.hid ⟨permIn_refl d 0 _, SW.refl hH hblk, Stb.Blk0.start ht⟩
  rw [hn] at hsz ⊢
  clear hcmp hH hblk ht hk h1 hn F
  go_enter hF, Tryz.ntmps184
  go_wp2
  go_loopw [7, 8] (fun va vb wr => ∃ (A B : Nat) (dk : Array α), va = .int .i64 A ∧ vb = .int .i64 B ∧ A ≤ n ∧ B ≤ A + 20 ∧ A + 20 ≤ B ∧ Hid (∃ r, A = r * 20) ∧ Hid (StbAt enc k w blk off d (Stb.Blk0 cf tg 20 A) dk wr)) (fun va _ _ => n - (intOf va).toNat)
  case atStart => exact ⟨0, 20, d, rfl, rfl, Nat.zero_le _, by omega, by omega, Lib.hid ⟨0, by omega⟩, HS0⟩
  case round =>
    obtain ⟨A, B, dk, rfl, rfl, hA, hB1, hB2, HR, HS⟩ := hrel
    have hds : dk.size = n := by rw [HS.out.perm.1]; exact HNN.out
    have HDS := Lib.hid hds
    clear hds
    by_cases hlt : B ≤ n
    · have hltz : (B : Int) ≤ (n : Int) := by omega
      have hc := HI.out dk _ A B HDS.out HS.out.sw (by omega) hlt
      go_wp2_with (go_at_fn 208; refine hc.mono ?_; rintro e w' ⟨rfl, g1⟩)
      have HN : Hid (StbAt enc k w blk off d (Stb.Blk0 cf tg 20 B) (insertionSort (Stb.lb cf) dk A B) w') := by
        have hs := HS.out
        have hd := HDS.out
        have hnn := HNN.out
        have hi := Stb.insertion_rise (tg := tg) hO dk A B (by omega) (by omega) (hs.q.tags (by omega))
        obtain ⟨r, rfl⟩ := HR.out
        have hB : B = r * 20 + 20 := by omega
        exact Lib.hid (hs.next (by omega) hi.1 g1 (hs.q.next (by omega) (by omega) (by omega) hi.1 hi.2))
      have HR' : Hid (∃ r, B = r * 20) := by
        obtain ⟨r, rfl⟩ := HR.out
        exact Lib.hid ⟨r + 1, by omega⟩
      clear g1 hc
      go_roundw
      case measure => simp [intOf]; omega
      case rel => exact ⟨B, B + 20, _, rfl, by go_num, hlt, Nat.le_refl _, Nat.le_refl _, HR', HN⟩
    · have hltz : ¬ (B : Int) ≤ (n : Int) := by omega
      have hc := HI.out dk _ A n HDS.out HS.out.sw hA (Nat.le_refl _)
      go_wp2_with (go_at_fn 208; refine hc.mono ?_; rintro e w' ⟨rfl, g1⟩)
      have HN : Hid (StbAt enc k w blk off d (Stb.Blk cf tg 20) (insertionSort (Stb.lb cf) dk A n) w') := by
        have hs := HS.out
        have hd := HDS.out
        have hnn := HNN.out
        have hi := Stb.insertion_rise (tg := tg) hO dk A n hA (by omega) (hs.q.tags (by omega))
        obtain ⟨r, rfl⟩ := HR.out
        have hw := hs.q.next (by omega) hA (by omega) hi.1 hi.2
        have he : (insertionSort (Stb.lb cf) dk (r * 20) n).size = n := hi.1.1.trans hd
        have hw' : Stb.Blk0 cf tg 20 (insertionSort (Stb.lb cf) dk (r * 20) n).size (insertionSort (Stb.lb cf) dk (r * 20) n) := by rw [he]; exact hw
        exact Lib.hid (hs.next (by omega) hi.1 g1 hw'.whole)
      generalize insertionSort (Stb.lb cf) dk A n = dj at HN
      clear g1 hc HDS HS HR hlt hltz hB1 hB2 hA
      rename World => wo
      go_loopw [6] (fun vs wr => ∃ (s : Nat) (dk : Array α), vs = .int .i64 s ∧ 20 ≤ s ∧ s < 9223372036854775807 ∧ Hid (StbAt enc k w blk off d (Stb.Blk cf tg s) dk wr)) (fun vs _ => n - (intOf vs).toNat)
      case atStart => exact ⟨20, dj, rfl, Nat.le_refl _, by omega, HN⟩
      case round =>
        obtain ⟨s, dk, rfl, hs1, hs2, HS⟩ := hrel
        by_cases hlt : s < n
        · have hltz : (s : Int) < (n : Int) := by omega
          obtain ⟨t, ht⟩ : ∃ t, 2 * s = t := ⟨_, rfl⟩
          have htz : 2 * (s : Int) = (t : Int) := by omega
          have htz' : (s : Int) * 2 = (t : Int) := by omega
          have htb : (t : Int) ≤ 9223372036854775806 := by omega
          have htp : s < t := by omega
          have HTT := Lib.hid ht
          have HS2 : Hid (StbAt enc k w blk off d (Stb.Blk2 cf tg s 0) dk wr) := by
            have hs := HS.out
            exact Lib.hid ⟨hs.perm, hs.sw, Stb.Blk2.start hs.q⟩
          clear ht
          rename World => w1
          go_wp2
          go_loopw [7, 8] (fun va vb wr => ∃ (A B : Nat) (dk : Array α), va = .int .i64 A ∧ vb = .int .i64 B ∧ A ≤ n ∧ B ≤ A + t ∧ A + t ≤ B ∧ Hid (∃ r, A = r * (2 * s)) ∧ Hid (StbAt enc k w blk off d (Stb.Blk2 cf tg s A) dk wr)) (fun va _ _ => n - (intOf va).toNat)
          case atStart => exact ⟨0, t, dk, rfl, rfl, Nat.zero_le _, by omega, by omega, Lib.hid ⟨0, by omega⟩, HS2⟩
          case round =>
            obtain ⟨A, B, dl, rfl, rfl, hA, hB1, hB2, HR, HL⟩ := hrel
            have hds : dl.size = n := by rw [HL.out.perm.1]; exact HNN.out
            have HDS := Lib.hid hds
            clear hds
            have hAsz : ((A + s : Nat) : Int) = (A : Int) + (s : Int) := by omega
            have HAS := Lib.hid hAsz
            clear hAsz
            by_cases hBn : B ≤ n
            · have hBnz : (B : Int) ≤ (n : Int) := by omega
              have hM : Stb.Mrg cf tg A (A + s) B dl := by
                have hl := HL.out
                have hd := HDS.out
                have ht := HTT.out
                obtain ⟨r, rfl⟩ := HR.out
                exact hl.q.mrg (by omega) (by omega) (by omega) (by omega)
              have hc := HM.out dl _ A (A + s) B HDS.out HL.out.sw hM
              rw [HAS.out] at hc
              clear hM
              go_wp2_with (go_at_fn 209; refine hc.mono ?_; rintro e w' ⟨rfl, dm, g1, g2, g3⟩)
              have HN2 : Hid (StbAt enc k w blk off d (Stb.Blk2 cf tg s B) dm w') := by
                have hl := HL.out
                have hd := HDS.out
                have ht := HTT.out
                have hnn := HNN.out
                obtain ⟨r, rfl⟩ := HR.out
                exact Lib.hid (hl.next (by omega) g1 g3 (hl.q.next (by omega) (by omega) (by omega) (Or.inl (by omega)) g1 g2))
              have HR' : Hid (∃ r, B = r * (2 * s)) := by
                have ht := HTT.out
                obtain ⟨r, rfl⟩ := HR.out
                exact Lib.hid ⟨r + 1, by rw [Nat.succ_mul]; omega⟩
              clear g1 g2 g3 hc
              go_roundw
              case measure => simp [intOf]; omega
              case rel => exact ⟨B, B + t, dm, rfl, by go_num, hBn, Nat.le_refl _, Nat.le_refl _, HR', HN2⟩
            · have hBnz : ¬ (B : Int) ≤ (n : Int) := by omega
              by_cases hm : A + s < n
              · have hmz : (A : Int) + (s : Int) < (n : Int) := by omega
                have hM : Stb.Mrg cf tg A (A + s) n dl := by
                  have hl := HL.out
                  have hd := HDS.out
                  have ht := HTT.out
                  obtain ⟨r, rfl⟩ := HR.out
                  exact hl.q.mrg (by omega) (by omega) (by omega) (by omega)
                have hc := HM.out dl _ A (A + s) n HDS.out HL.out.sw hM
                rw [HAS.out] at hc
                clear hM
                go_wp2_with (go_at_fn 209; refine hc.mono ?_; rintro e w' ⟨rfl, dm, g1, g2, g3⟩)
                have HN2 : Hid (StbAt enc k w blk off d (Stb.Blk cf tg t) dm w') := by
                  have hl := HL.out
                  have hd := HDS.out
                  have ht := HTT.out
                  have hnn := HNN.out
                  obtain ⟨r, rfl⟩ := HR.out
                  have hw := hl.q.next (by omega) hA (by omega) (Or.inr hd.symm) g1 g2
                  rw [← ht]
                  exact Lib.hid (hl.next (by omega) g1 g3 (hw.whole (by rw [g1.1]; omega)))
                clear g1 g2 g3 hc
                go_roundw
                case measure => simp [intOf]; omega
                case rel => exact ⟨t, dm, rfl, by omega, by omega, HN2⟩
              · have hmz : ¬ (A : Int) + (s : Int) < (n : Int) := by omega
                have HN2 : Hid (StbAt enc k w blk off d (Stb.Blk cf tg t) dl wr) := by
                  have hl := HL.out
                  have hd := HDS.out
                  have ht := HTT.out
                  have hnn := HNN.out
                  obtain ⟨r, rfl⟩ := HR.out
                  have hr : Stb.Rise cf tg (r * (2 * s)) n dl := by have := hl.q.short (by omega); rwa [hd] at this
                  have hw := hl.q.next (d' := dl) (by omega) hA (by omega) (Or.inr hd.symm) (permIn_refl dl _ _) hr
                  rw [← ht]
                  exact Lib.hid ⟨hl.perm, hl.sw, hw.whole (by omega)⟩
                go_wp2
                go_roundw
                case measure => simp [intOf]; omega
                case rel => exact ⟨t, dl, rfl, by omega, by omega, HN2⟩
        · have hltz : ¬ (s : Int) < (n : Int) := by omega
          go_wp2
          go_end0
          have hs := HS.out
          have hnn := HNN.out
          have hd : dk.size = n := by rw [hs.perm.1]; exact hnn
          have hr := hs.q.rise (by omega)
          rw [hd] at hr
          exact ⟨rfl, dk, hs.perm, by rw [hnn]; exact hr, hs.sw⟩
end Go.Proofs.YtckammgnmgkieaaGreat

/-
  What a stable sort leaves is the one sorted row.
-/
namespace Go.Proofs.YtckammgnmgkieaaGreat
set_option maxRecDepth 20000
open Go.RowKit Go.Shelf Go.Sort
open Stb (COrd Lx Rise)

theorem eq_of_perm_strict {α : Type} {R : α → α → Prop} (ht : ∀ x y z, R x y → R y z → R x z) (hi : ∀ x, ¬ R x x) : ∀ (a b : List α), a.Perm b → a.Pairwise R → b.Pairwise R → a = b
  | [], b, hp, _, _ => (List.nil_perm.1 hp).symm
  | x :: a, [], hp, _, _ => by have := hp.length_eq; simp at this
  | x :: a, y :: b, hp, h1, h2 => by
    have p1 := List.pairwise_cons.1 h1
    have p2 := List.pairwise_cons.1 h2
    have e : x = y := by
      have hx : x ∈ y :: b := hp.mem_iff.1 (by simp)
      have hy : y ∈ x :: a := hp.mem_iff.2 (by simp)
      rcases List.mem_cons.1 hx with h | h
      · exact h
      · rcases List.mem_cons.1 hy with g | g
        · exact g.symm
        · exact absurd (ht _ _ _ (p1.1 y g) (p2.1 x h)) (hi x)
    subst e
    rw [eq_of_perm_strict ht hi a b (List.Perm.cons_inv hp) p1.2 p2.2]

section
variable {α : Type} [Inhabited α] (rc : α → Rc) (tg : α → Nat)
def insT : List α → α → List α
  | [], x => [x]
  | y :: r, x => if compareR (rc y) (rc x) ≤ 0 then y :: insT r x else x :: y :: r
def sortT (l : List α) : List α := l.foldl (insT rc) []
omit [Inhabited α] in
theorem insT_map : ∀ (l : List α) (x : α), (insT rc l x).map rc = insS (l.map rc) (rc x)
  | [], x => rfl
  | y :: r, x => by
    simp only [insT, insS, List.map_cons]
    split
    · rw [List.map_cons, insT_map r x]
    · rfl
omit [Inhabited α] in
theorem sortT_map (l : List α) : (sortT rc l).map rc = sortM (l.map rc) := by
  unfold sortT sortM
  suffices ∀ (l a : List α) (b : List Rc), a.map rc = b → (l.foldl (insT rc) a).map rc = (l.map rc).foldl insS b from this l [] [] rfl
  intro l
  induction l with
  | nil => intro a b h; exact h
  | cons x l ih => intro a b h; exact ih _ _ (by rw [insT_map, h])
omit [Inhabited α] in
theorem insT_perm : ∀ (l : List α) (x : α), (insT rc l x).Perm (x :: l)
  | [], x => List.Perm.refl _
  | y :: r, x => by
    simp only [insT]
    split
    · exact ((insT_perm r x).cons y).trans (List.Perm.swap x y r)
    · exact List.Perm.refl _
def cfR (x y : α) : Int := compareR (rc x) (rc y)
omit [Inhabited α] in
theorem cord_cfR : COrd (cfR rc) := cord_on cord_compareR rc
omit [Inhabited α] in
theorem insT_rises : ∀ (l : List α) (x : α), l.Pairwise (Lx (cfR rc) tg) → (∀ y ∈ l, tg y < tg x) → (insT rc l x).Pairwise (Lx (cfR rc) tg)
  | [], x, _, _ => by simp [insT]
  | y :: r, x, h, ht => by
    have p := List.pairwise_cons.1 h
    simp only [insT]
    split
    · rename_i c
      have hyx : Lx (cfR rc) tg y x := by
        have := ht y (by simp)
        unfold Lx cfR; omega
      refine List.pairwise_cons.2 ⟨fun z hz => ?_, insT_rises r x p.2 (fun y hy => ht y (by simp [hy]))⟩
      rcases List.mem_cons.1 ((insT_perm rc r x).mem_iff.1 hz) with rfl | hz
      · exact hyx
      · exact p.1 z hz
    · rename_i c
      have hxy : Lx (cfR rc) tg x y := by
        have := (cord_cfR rc).anti x y
        unfold Lx; unfold cfR at *; omega
      refine List.pairwise_cons.2 ⟨fun z hz => ?_, h⟩
      rcases List.mem_cons.1 hz with rfl | hz
      · exact hxy
      · exact hxy.trans (cord_cfR rc) (p.1 z hz)
omit [Inhabited α] in
theorem sortT_rises (l : List α) (ht : l.Pairwise fun a b => tg a < tg b) : (sortT rc l).Pairwise (Lx (cfR rc) tg) ∧ (sortT rc l).Perm l := by
  unfold sortT
  suffices ∀ (l a : List α), a.Pairwise (Lx (cfR rc) tg) → (∀ x ∈ l, ∀ y ∈ a, tg y < tg x) → l.Pairwise (fun a b => tg a < tg b) → (l.foldl (insT rc) a).Pairwise (Lx (cfR rc) tg) ∧ (l.foldl (insT rc) a).Perm (l ++ a) from by
    have := this l [] List.Pairwise.nil (by simp) ht
    simpa using this
  intro l
  induction l with
  | nil => intro a h _ _; exact ⟨h, List.Perm.refl _⟩
  | cons x l ih =>
    intro a h h2 h3
    have p := List.pairwise_cons.1 h3
    have := ih (insT rc a x) (insT_rises rc tg a x h (h2 x (by simp))) (fun z hz y hy => by
      rcases List.mem_cons.1 ((insT_perm rc a x).mem_iff.1 hy) with rfl | hy
      · exact p.1 z hz
      · exact h2 z (by simp [hz]) y hy) p.2
    refine ⟨this.1, this.2.trans ?_⟩
    exact ((insT_perm rc a x).append_left l).trans (List.perm_middle)
end
theorem get_toList {α : Type} [Inhabited α] (x : Array α) (i : Nat) (h : i < x.toList.length) : x[i]! = x.toList[i] := by
  have h' : i < x.size := by simpa using h
  rw [getElem!_pos x i h', Array.getElem_toList]
theorem extract_all {α : Type} (x : Array α) (n : Nat) (h : x.size = n) : (x.extract 0 n).toList = x.toList := by
  subst h; simp
theorem sorted_is {α : Type} [Inhabited α] (rc : α → Rc) (tg : α → Nat) {d d' : Array α} (ht : ∀ i, i < d.size → tg d[i]! = i) (hp : PermIn 0 d.size d d') (hr : Rise (cfR rc) tg 0 d.size d') : d'.toList.map rc = sortM (d.toList.map rc) := by
  obtain ⟨hs, _, h1⟩ := hp
  rw [extract_all d' d.size hs, extract_all d d.size rfl] at h1
  have h2 : d'.toList.Pairwise (Lx (cfR rc) tg) := by
    refine List.pairwise_iff_getElem.2 ?_
    intro i j hi hj hij
    have h := hr i j (Nat.zero_le _) hij (by rw [← hs]; simpa using hj)
    rw [get_toList d' i hi, get_toList d' j hj] at h
    exact h
  have h3 : d.toList.Pairwise fun a b => tg a < tg b := by
    refine List.pairwise_iff_getElem.2 ?_
    intro i j hi hj hij
    have e1 := ht i (by simpa using hi)
    have e2 := ht j (by simpa using hj)
    rw [get_toList d i hi] at e1
    rw [get_toList d j hj] at e2
    omega
  obtain ⟨h4, h5⟩ := sortT_rises rc tg d.toList h3
  have h6 := eq_of_perm_strict (R := Lx (cfR rc) tg) (fun _ _ _ a b => Lx.trans (cord_cfR rc) a b) (fun x => Lx.irrefl (cord_cfR rc) x) d'.toList (sortT rc d.toList) (h1.trans h5.symm) h2 h4
  rw [← sortT_map, h6]
end Go.Proofs.YtckammgnmgkieaaGreat

/-
  rec.sorted: a copy of the row, sorted by rec.Compare, the stable way.
-/
namespace Go.Proofs.YtckammgnmgkieaaGreat
set_option maxRecDepth 20000
open Go.RowKit Go.Shelf Go.Sort Go.Lib
open Stb (COrd Lx Rise)
set_option maxRecDepth 20000
set_option linter.unusedVariables false
set_option linter.unusedSimpArgs false
set_option linter.unusedSectionVars false

def Rcs (W : World) (css : List (List Value)) (rs : List Rc) : Prop := css.length = rs.length ∧ ∀ i (h1 : i < css.length) (h2 : i < rs.length), RcAt W css[i] rs[i]
theorem Rcs.below {W W' : World} {css : List (List Value)} {rs : List Rc} (h : Rcs W css rs) (hb : Below W.heap.size W W') : Rcs W' css rs := ⟨h.1, fun i h1 h2 => (h.2 i h1 h2).below hb⟩
theorem SlAt.one {W : World} {v : Value} {xs : List Value} (h : SlAt W v xs) : v.oneCell' = true := by obtain ⟨a, c, rfl, _⟩ := h; rfl
theorem RcAt.len {W : World} {cs : List Value} {r : Rc} (h : RcAt W cs r) : cs.length = 7 := by obtain ⟨vo, vn, vu, vt, vr, rfl, _⟩ := h; rfl
theorem RcAt.one {W : World} {cs : List Value} {r : Rc} (h : RcAt W cs r) : ∀ u ∈ cs, u.oneCell' = true := by
  obtain ⟨vo, vn, vu, vt, vr, rfl, h1, h2⟩ := h
  obtain ⟨un, uu, ut, ur, e, ⟨vs, g1, _⟩, g2, g3, g4⟩ := h2
  have e' : #[Value.int .i64 r.data.ty, vn, vu, vt, vr] = #[Value.int .i64 r.data.ty, un, uu, ut, ur] := by injection e
  simp only [Array.mk.injEq, List.cons.injEq, and_true, true_and] at e'
  obtain ⟨rfl, rfl, rfl, rfl⟩ := e'
  intro u hu
  simp only [List.mem_cons, List.not_mem_nil, or_false] at hu
  rcases hu with rfl | rfl | rfl | rfl | rfl | rfl | rfl
  · exact (nmAt_sl.1 h1).one
  · rfl
  · rfl
  · exact g1.one
  · exact g2.one
  · exact (nmAt_sl.1 g3).one
  · exact g4.one
def Rc.none : Rc := ⟨[], 0, Dat.none⟩
theorem rcAt_none (W : World) : RcAt W [.slice none 0 0, .int .u32 0, .int .i64 0, .slice none 0 0, .slice none 0 0, .slice none 0 0, .slice none 0 0] Rc.none :=
  ⟨_, _, _, _, _, rfl, nm_nil W, _, _, _, _, rfl, NmsAt.nil W, SlAt.nil W, nm_nil W, SlAt.nil W⟩
theorem rcOK_none : RcOK Rc.none := ⟨⟨by decide, by simp [Rc.none]⟩, by decide, ⟨by decide, by decide⟩, by decide, by simp [Rc.none, Dat.none], by decide, by simp [Rc.none, Dat.none], ⟨by decide, by simp [Rc.none, Dat.none]⟩, by decide⟩

def RcT (w0 : World) : Type := { x : List Value × Rc × Nat // RcAt w0 x.1 x.2.1 ∧ RcOK x.2.1 }
instance (w0 : World) : Inhabited (RcT w0) := ⟨⟨(_, Rc.none, 0), rcAt_none w0, rcOK_none⟩⟩
def RcT.cells {w0 : World} (x : RcT w0) : List Value := x.1.1
def RcT.rc {w0 : World} (x : RcT w0) : Rc := x.1.2.1
def RcT.tg {w0 : World} (x : RcT w0) : Nat := x.1.2.2

theorem flat_at {α : Type} (enc : α → List Value) (k : Nat) (hk : ∀ x, (enc x).length = k) : ∀ (l : List α) (t : Nat), t < l.length * k → ∃ h : t / k < l.length, (l.flatMap enc)[t]? = (enc l[t / k])[t % k]?
  | [], t, h => by simp at h
  | x :: r, t, h => by
    have k0 : 0 < k := by rcases Nat.eq_zero_or_pos k with h' | h'; · subst h'; simp at h
                          · exact h'
    rw [List.flatMap_cons]
    by_cases ht : t < k
    · have e1 : t / k = 0 := Nat.div_eq_of_lt ht
      have e2 : t % k = t := Nat.mod_eq_of_lt ht
      refine ⟨by rw [e1]; simp, ?_⟩
      rw [List.getElem?_append_left (by rw [hk]; exact ht)]
      simp only [e1, e2, List.getElem_cons_zero]
    · rw [List.length_cons, Nat.succ_mul] at h
      obtain ⟨h1, h2⟩ := flat_at enc k hk r (t - k) (by omega)
      have e1 : t / k = (t - k) / k + 1 := by
        rw [show t = (t - k) + k by omega, Nat.add_div_right _ k0]; congr 2; omega
      have e2 : t % k = (t - k) % k := by rw [show t = (t - k) + k by omega, Nat.add_mod_right]; congr 1; omega
      refine ⟨by rw [e1, List.length_cons]; omega, ?_⟩
      rw [List.getElem?_append_right (by rw [hk]; omega), hk, h2]
      simp only [e1, e2, List.getElem_cons_succ]
theorem flatK_is {α : Type} [Inhabited α] (enc : α → List Value) (k : Nat) (hk : ∀ x, (enc x).length = k) (d : Array α) (t : Nat) (ht : t < d.size * k) : (d.toList.flatMap enc)[t]? = some (flatK enc k d)[t]! := by
  have k0 : 0 < k := by rcases Nat.eq_zero_or_pos k with h' | h'; · subst h'; simp at ht
                        · exact h'
  obtain ⟨h1, h2⟩ := flat_at enc k hk d.toList t (by simpa using ht)
  have hm : t % k < k := Nat.mod_lt _ k0
  have h1' : t / k < d.size := by simpa using h1
  rw [h2, get_flatK enc k d t ht, getElem!_pos d _ h1', Array.getElem_toList, getElem!_pos (enc d[t / k]) _ (by rw [hk]; exact hm)]
  exact List.getElem?_eq_getElem _
theorem holdsK_of_own {α : Type} [Inhabited α] (enc : α → List Value) (k : Nat) (hk : ∀ x, (enc x).length = k) {T : TypeId} {W : World} {base g n c : Nat} {css : List (List Value)} (h : OwnC k T W base (.slice (some ⟨g, 0, none⟩) n c) css) (d : Array α) (hd : d.toList.map enc = css) : HoldsK enc k W g 0 d := by
  have hck : ∀ cs ∈ css, cs.length = k := fun cs hc => by rw [← hd] at hc; obtain ⟨x, _, rfl⟩ := List.mem_map.1 hc; exact hk x
  have hf : css.flatten = d.toList.flatMap enc := by rw [← hd]; rfl
  have hl : css.length = d.size := by rw [← hd]; simp
  intro j hj
  rw [size_flatK] at hj
  have hfl := flatK_is enc k hk d j hj
  rcases h.2 with ⟨e, _⟩ | ⟨g', cap, cur, e, hb, hg, hc, hm, hsz, htk⟩
  · cases e
  · cases e
    have h3 : cur.toList[j]? = some (flatK enc k d)[j]! := by
      have : (cur.toList.take (css.length * k))[j]? = some (flatK enc k d)[j]! := by rw [htk, flat_id, hf]; exact hfl
      rw [List.getElem?_take, if_pos (by rw [hl]; exact hj)] at this
      exact this
    refine ⟨?_, by simp [World.frozen?, hg]⟩
    simp only [World.cell?, hg, Nat.zero_add]
    simpa using h3
theorem slK_of_holds {α : Type} [Inhabited α] (enc : α → List Value) (k : Nat) (hk : ∀ x, (enc x).length = k) {W : World} {g n c : Nat} (d : Array α) (h : HoldsK enc k W g 0 d) (hn : n = d.size) (hc : n ≤ c) (hg : g < W.heap.size) : SlK W (.slice (some ⟨g, 0, none⟩) n c) (d.toList.map enc) := by
  subst hn
  refine ⟨_, _, by rw [List.length_map, Array.length_toList], by rw [List.length_map, Array.length_toList]; exact hc, (fun e => by cases e), .inr ⟨g, 0, rfl, hg, fun j u hj => ?_⟩⟩
  have hf : (d.toList.map enc).flatten = d.toList.flatMap enc := rfl
  rw [hf] at hj
  have hlt : j < d.size * k := by
    have h1 := (List.getElem?_eq_some_iff.1 hj).1
    have hl : (d.toList.flatMap enc).length = d.size * k := by
      have h := flat_len (k := k) (d.toList.map enc) (fun cs hc => by obtain ⟨x, _, rfl⟩ := List.mem_map.1 hc; exact hk x)
      rw [hf] at h
      rw [h, List.length_map, Array.length_toList]
    rw [hl] at h1
    exact h1
  have h2 := flatK_is enc k hk d j hlt
  rw [hj] at h2
  have h3 := (h j (by rw [size_flatK]; exact hlt)).1
  rw [h3]
  exact h2.symm

theorem tagged (w0 : World) (css : List (List Value)) (rs : List Rc) (h : Rcs w0 css rs) (hOK : ∀ r ∈ rs, RcOK r) : ∃ d : Array (RcT w0), d.toList.map RcT.cells = css ∧ d.toList.map RcT.rc = rs ∧ ∀ i, i < d.size → d[i]!.tg = i := by
  have hl := h.1
  let f : Fin css.length → RcT w0 := fun i => ⟨(css[i], rs[i.1]'(by have := i.2; omega), i.1), h.2 i.1 i.2 (by have := i.2; omega), hOK _ (List.getElem_mem _)⟩
  refine ⟨Array.ofFn f, ?_, ?_, fun i hi => ?_⟩
  · apply List.ext_getElem
    · simp
    · intro i h1 h2
      rw [List.getElem_map, Array.getElem_toList, Array.getElem_ofFn]; rfl
  · apply List.ext_getElem
    · simp; omega
    · intro i h1 h2
      rw [List.getElem_map, Array.getElem_toList, Array.getElem_ofFn]; rfl
  · have hi' : i < css.length := by simpa using hi
    rw [getElem!_pos _ i hi, Array.getElem_ofFn]
    rfl
theorem below_grown {w0 w W : World} {g : Nat} (hb : Below w0.heap.size w0 w) (hg : w.grownBy W (some g)) (hle : w0.heap.size ≤ g) : Below w0.heap.size w0 W :=
  hb.grown hg hb.size (fun k e => by cases e; exact hle)

theorem sfun_here : SFun Tryz.prog where
  fs := Tryz.func217
  fr := Tryz.func216
  fi := Tryz.func208
  fm := Tryz.func209
  ft := Tryz.func184
  es := enters_of Tryz.func217 (by kernel_rfl) rfl
  er := enters_of Tryz.func216 (by kernel_rfl) rfl
  ei := enters_of Tryz.func208 (by kernel_rfl) rfl
  em := enters_of Tryz.func209 (by kernel_rfl) rfl

theorem cmp_here (w0 w : World) (g : Nat) (hb : Below w0.heap.size w0 w) (hle : w0.heap.size ≤ g) : CmpB Tryz.prog 114 #[] (RcT.cells (w0 := w0)) (cfR RcT.rc) w g where
  eg := enters_of Tryz.func114 (by kernel_rfl) rfl
  call := fun W hW x y => by
    have hB := below_grown hb hW hle
    exact rec_Compare _ _ _ _ W (x.2.1.below hB) (y.2.1.below hB) x.2.2 y.2.2

set_option maxHeartbeats 1000000 in
theorem insertion_none (a : Option Addr) (c : Nat) (fv : Value) (w : World) : Calls Tryz.prog 208 #[.slice a 0 c, .int .i64 0, .int .i64 0, fv] w fun e w' => e = .returned (.tuple #[]) ∧ w = w' := by
  go_enter Tryz.func208, Tryz.ntmps208
  go_wp2
  refine wp_loop_rounds 1 ?_
  rw [rounds_succ]
  go_wp2
  go_end0
  exact ⟨rfl, rfl⟩
set_option maxHeartbeats 2000000 in
theorem stable_none (a : Option Addr) (c : Nat) (fv : Value) (w : World) : Calls Tryz.prog 184 #[.slice a 0 c, .int .i64 0, fv] w fun e w' => e = .returned (.tuple #[]) ∧ w = w' := by
  go_enter Tryz.func184, Tryz.ntmps184
  go_wp2
  refine wp_loop_rounds 1 ?_
  rw [rounds_succ]
  go_wp2_with (go_at_call 208; refine (insertion_none _ _ _ _).mono ?_; rintro e w' ⟨rfl, rfl⟩)
  refine wp_loop_rounds 1 ?_
  rw [rounds_succ]
  go_wp2
  go_end0
  exact ⟨rfl, rfl⟩

def SrtPost (w0 wb : World) (v : Value) (n : Nat) (rs : List Rc) (e : Ending) (w' : World) : Prop := e = .returned (.tuple #[]) ∧ ∃ css', SlK w' v css' ∧ css'.length = n ∧ Rcs w0 css' (sortM rs) ∧ Below wb.heap.size wb w'
set_option maxHeartbeats 2000000 in
theorem stable_recs (w0 wb : World) (hb0 : Below w0.heap.size w0 wb) (v : Value) (css : List (List Value)) (rs : List Rc) (w : World) (hb : Below wb.heap.size wb w) (hR : Rcs w0 css rs) (hOK : ∀ r ∈ rs, RcOK r) (hown : OwnC 7 103 w wb.heap.size v css) (hl : css.length ≤ 1000000000000) :
    Calls Tryz.prog 184 #[v, .int .i64 css.length, .func (.func 114) #[] #[]] w (SrtPost w0 wb v css.length rs) := by
  have hck : ∀ cs ∈ css, cs.length = 7 := fun cs hc => by
    obtain ⟨i, hi, rfl⟩ := List.mem_iff_getElem.1 hc
    exact (hR.2 i hi (by have := hR.1; omega)).len
  by_cases h0 : css = []
  · subst h0
    have hr0 : rs = [] := List.eq_nil_of_length_eq_zero hR.1.symm
    subst hr0
    obtain ⟨a, c, rfl⟩ := hown.shape
    refine (stable_none a c _ w).mono ?_
    rintro e w' ⟨rfl, rfl⟩
    exact ⟨rfl, [], SlK.of_own hown hck, rfl, ⟨rfl, fun i h1 => absurd h1 (Nat.not_lt_zero _)⟩, hb⟩
  · obtain ⟨d, hd1, hd2, hd3⟩ := tagged w0 css rs hR hOK
    have hn : css.length = d.size := by rw [← hd1]; simp
    rcases id hown.2 with ⟨e, h00⟩ | ⟨g, cap, cur, rfl, hbg, hg, hcap, hm, hsz, htk⟩
    · exact absurd (List.eq_nil_of_length_eq_zero h00) h0
    have hH : HoldsK RcT.cells 7 w g 0 d := holdsK_of_own RcT.cells 7 (fun x => x.2.1.len) hown d hd1
    have hlt : g < w.heap.size := (Array.getElem?_eq_some_iff.1 hg).1
    have hc := sort_stable slay_here sfun_here RcT.cells (fun x => x.2.1.len) (fun x => x.2.1.one) (cfR RcT.rc) RcT.tg (cord_cfR _) 114 #[] g 0 cap d w (cmp_here w0 w g (hb0.trans (hb.mono hb0.size)) (Nat.le_trans hb0.size hbg)) hH hlt hd3 (by omega)
    rw [← hn] at hc
    refine hc.mono ?_
    rintro e w' ⟨rfl, d', hp, hr, hs⟩
    have hsz' : d'.size = d.size := hp.1
    refine ⟨rfl, d'.toList.map RcT.cells, slK_of_holds RcT.cells 7 (fun x => x.2.1.len) d' hs.row (by omega) hcap hs.lt', by simp; omega, ?_, below_grown hb hs.rest hbg⟩
    have hsrt := sorted_is RcT.rc RcT.tg hd3 hp hr
    rw [hd2] at hsrt
    rw [← hsrt]
    refine ⟨by simp, fun i h1 h2 => ?_⟩
    simp only [List.getElem_map]
    exact (d'.toList[i]'(by simpa using h1)).2.1

set_option maxHeartbeats 2000000 in
theorem sort_func (w0 wb : World) (hb0 : Below w0.heap.size w0 wb) (v : Value) (css : List (List Value)) (rs : List Rc) (w : World) (hb : Below wb.heap.size wb w) (hR : Rcs w0 css rs) (hOK : ∀ r ∈ rs, RcOK r) (hown : OwnC 7 103 w wb.heap.size v css) (hl : css.length ≤ 1000000000000) :
    Calls Tryz.prog 151 #[v, .func (.func 114) #[] #[]] w (SrtPost w0 wb v css.length rs) := by
  have hc := stable_recs w0 wb hb0 v css rs w hb hR hOK hown hl
  obtain ⟨a, c, rfl⟩ := hown.shape
  clear hR hOK hown hb hb0
  obtain ⟨n, hn⟩ : ∃ n, css.length = n := ⟨_, rfl⟩
  rw [hn] at hc hl ⊢
  clear hn
  go_enter Tryz.func151, Tryz.ntmps151
  go_wp2_with fail
  refine hc.mono ?_
  rintro e w' ⟨rfl, css', h⟩
  go_wp2
  go_end0
  exact ⟨rfl, css', h⟩

def SortedPost (w0 w : World) (rs : List Rc) (e : Ending) (w' : World) : Prop := ∃ v' css', e = .returned v' ∧ SlK w' v' css' ∧ Rcs w0 css' (sortM rs) ∧ (∀ b, v'.ownBlock = some b → w.heap.size ≤ b) ∧ Below w.heap.size w w'
set_option maxHeartbeats 2000000 in
theorem rec_sorted (w0 : World) (v : Value) (css : List (List Value)) (rs : List Rc) (w : World) (hb0 : Below w0.heap.size w0 w) (hA : SlK w v css) (hR : Rcs w0 css rs) (hOK : ∀ r ∈ rs, RcOK r) (hl : css.length ≤ 1000000000000) :
    Calls Tryz.prog 113 #[v, .func (.func 114) #[] #[]] w (SortedPost w0 w rs) := by
  have hck : ∀ cs ∈ css, cs.length = 7 ∧ ∀ u ∈ cs, u.oneCell' = true := fun cs hc => by
    obtain ⟨i, hi, rfl⟩ := List.mem_iff_getElem.1 hc
    have := hR.2 i hi (by have := hR.1; omega)
    exact ⟨this.len, this.one⟩
  have hc := clone_rec v css w hA (fun cs h => (hck cs h).1) (fun cs h => (hck cs h).2) hl
  have HS := Lib.hid (fun v' W (hown : OwnC 7 103 W w.heap.size v' css) (hb : Below w.heap.size w W) => sort_func w0 w hb0 v' css rs W hb hR hOK hown hl)
  clear hA hR hOK hck hb0
  obtain ⟨n, hn⟩ : ∃ n, css.length = n := ⟨_, rfl⟩
  go_enter Tryz.func113, Tryz.ntmps113
  go_wp2_with fail
  refine hc.mono ?_
  rintro e w1 ⟨v', rfl, hown, hb1⟩
  have hs := HS.out v' w1 hown hb1
  have HBL := Lib.hid hown.base_le
  obtain ⟨a', c', rfl⟩ := hown.shape
  rw [hn] at hs HBL ⊢
  clear hown hb1 hc hn
  go_wp2_with fail
  refine hs.mono ?_
  rintro e w2 ⟨rfl, css', h1, h2, h3, h4⟩
  have H := Lib.hid (And.intro h1 (And.intro h3 h4))
  clear h1 h2 h3 h4 hs
  go_wp2
  go_ret
  exact ⟨_, css', rfl, H.out.1, H.out.2.1, HBL.out, H.out.2.2⟩
end Go.Proofs.YtckammgnmgkieaaGreat

/-
  rec.least: the least TTL of a row of records.
-/
namespace Go.Proofs.YtckammgnmgkieaaGreat
set_option maxRecDepth 20000
open Go.RowKit Go.Shelf
set_option maxRecDepth 20000
set_option linter.unusedVariables false
set_option linter.unusedSimpArgs false

theorem SlK.elem {W : World} {a : Option Addr} {n c : Nat} {css : List (List Value)} (h : SlK W (.slice a n c) css) (hk : ∀ cs ∈ css, cs.length = 7) (h0 : 0 < css.length) : ∃ b off, a = some ⟨b, off, none⟩ ∧ b < W.heap.size ∧
    ∀ k (hlt : k < css.length) (u0 u1 u2 u3 u4 u5 u6 : Value), css[k] = [u0, u1, u2, u3, u4, u5, u6] → ∀ W', Below W.heap.size W W' →
      W'.cell? ⟨b, off + k * 7, none⟩ = some u0 ∧ W'.cell? ⟨b, off + k * 7 + 1, none⟩ = some u1 ∧ W'.cell? ⟨b, off + k * 7 + 2, none⟩ = some u2 ∧ W'.cell? ⟨b, off + k * 7 + 3, none⟩ = some u3 ∧ W'.cell? ⟨b, off + k * 7 + 4, none⟩ = some u4 ∧ W'.cell? ⟨b, off + k * 7 + 5, none⟩ = some u5 ∧ W'.cell? ⟨b, off + k * 7 + 6, none⟩ = some u6 := by
  obtain ⟨a', c', e, _, _, h3⟩ := h
  cases e
  rcases h3 with h3 | ⟨b, off, rfl, hb, hc⟩
  · subst h3; simp at h0
  · refine ⟨b, off, rfl, hb, fun k hlt u0 u1 u2 u3 u4 u5 u6 he W' hB => ?_⟩
    have key : ∀ j u, j < 7 → [u0, u1, u2, u3, u4, u5, u6][j]? = some u → W'.cell? ⟨b, off + k * 7 + j, none⟩ = some u := fun j u hj hu => by
      rw [hB.cell (p := ⟨b, off + k * 7 + j, none⟩) hb, Nat.add_assoc]
      refine hc (k * 7 + j) u ?_
      have hl : ∀ (l : List (List Value)) (k : Nat) (hlt : k < l.length), (∀ cs ∈ l, cs.length = 7) → l[k] = [u0, u1, u2, u3, u4, u5, u6] → l.flatten[k * 7 + j]? = some u := by
        intro l
        induction l with
        | nil => intro k hlt; simp at hlt
        | cons x r ih =>
          intro k hlt hk he
          rw [List.flatten_cons]
          cases k with
          | zero =>
            rw [List.getElem_cons_zero] at he
            rw [he, List.getElem?_append_left (by simp; omega)]
            simpa using hu
          | succ k =>
            rw [List.getElem_cons_succ] at he
            have hx : x.length = 7 := hk x (by simp)
            rw [List.getElem?_append_right (by rw [hx]; omega), hx, show (k + 1) * 7 + j - 7 = k * 7 + j by omega]
            exact ih k (by simpa using hlt) (fun cs hc => hk cs (by simp [hc])) he
      exact hl css k hlt hk he
    exact ⟨key 0 u0 (by omega) rfl, key 1 u1 (by omega) rfl, key 2 u2 (by omega) rfl, key 3 u3 (by omega) rfl, key 4 u4 (by omega) rfl, key 5 u5 (by omega) rfl, key 6 u6 (by omega) rfl⟩
theorem Rcs.ck {W : World} {css : List (List Value)} {rs : List Rc} (h : Rcs W css rs) : ∀ cs ∈ css, cs.length = 7 := fun cs hc => by
  obtain ⟨i, hi, rfl⟩ := List.mem_iff_getElem.1 hc
  exact (h.2 i hi (by have := h.1; omega)).len

theorem RcAt.shape {W : World} {cs : List Value} {r : Rc} (h : RcAt W cs r) : ∃ x0 x3 x4 x5 x6 : Option Addr × Nat × Nat, cs = [.slice x0.1 x0.2.1 x0.2.2, .int .u32 (r.ttl : Int), .int .i64 r.data.ty, .slice x3.1 x3.2.1 x3.2.2, .slice x4.1 x4.2.1 x4.2.2, .slice x5.1 x5.2.1 x5.2.2, .slice x6.1 x6.2.1 x6.2.2] := by
  obtain ⟨vo, vn, vu, vt, vr, rfl, h1, h2⟩ := h
  obtain ⟨un, uu, ut, ur, e, ⟨vs, g1, _⟩, g2, g3, g4⟩ := h2
  have e' : #[Value.int .i64 r.data.ty, vn, vu, vt, vr] = #[Value.int .i64 r.data.ty, un, uu, ut, ur] := by injection e
  simp only [Array.mk.injEq, List.cons.injEq, and_true, true_and] at e'
  obtain ⟨rfl, rfl, rfl, rfl⟩ := e'
  obtain ⟨a0, c0, rfl, _⟩ := nmAt_sl.1 h1
  obtain ⟨a3, c3, rfl, _⟩ := g1
  obtain ⟨a4, c4, rfl, _⟩ := g2
  obtain ⟨a5, c5, rfl, _⟩ := nmAt_sl.1 g3
  obtain ⟨a6, c6, rfl, _⟩ := g4
  exact ⟨(a0, _, c0), (a3, _, c3), (a4, _, c4), (a5, _, c5), (a6, _, c6), rfl⟩

set_option maxHeartbeats 2000000 in
theorem canon_ttl (u0 u2 u3 u4 u5 u6 : Value) (t : Int) (w : World) :
    Calls Tryz.prog 118 #[.agg #[u0, .int .u32 t, u2, u3, u4, u5, u6]] w fun e w' => e = .returned (.int .u32 t) ∧ Below w.heap.size w w' := by
  go_enter Tryz.func118, Tryz.ntmps118
  go_wp2
  go_ret
  exact ⟨rfl, (Below.refl _ w).alloc (Nat.le_refl _) _⟩

theorem minT_min (a b : Nat) : minT a b = min a b := by unfold minT; split <;> omega
theorem leastM_take (t : Nat) (l : List Rc) (k : Nat) (hk : k < l.length) : leastM t (l.take (k + 1)) = minT (leastM t (l.take k)) l[k].ttl := by
  rw [List.take_succ_eq_append_getElem hk, leastM_snoc]
theorem leastM_first (y : Rc) (l : List Rc) : leastM y.ttl (y :: l) = leastM y.ttl l := by
  show l.foldl _ (minT y.ttl y.ttl) = _
  have : minT y.ttl y.ttl = y.ttl := by unfold minT; split <;> rfl
  rw [this]; rfl

set_option maxRecDepth 100000 in
set_option maxHeartbeats 8000000 in
theorem rec_least (v : Value) (css : List (List Value)) (y : Rc) (rs : List Rc) (w : World) (hA : SlK w v css) (hR : Rcs w css (y :: rs)) (hOK : ∀ r ∈ y :: rs, RcOK r) (hl : css.length ≤ 1000000000000) :
    Calls Tryz.prog 117 #[v, .func (.func 118) #[] #[]] w fun e w' => e = .returned (.int .u32 (leastM y.ttl rs : Nat)) ∧ Below w.heap.size w w' := by
  rw [← leastM_first]
  have hlen := hR.1
  obtain ⟨a, c, rfl, hc1, hc2, hx⟩ := id hA
  obtain ⟨b, off, rfl, hb, hcell⟩ := hA.elem hR.ck (by rw [hlen]; simp)
  obtain ⟨n, hn⟩ : ∃ n, css.length = n := ⟨_, rfl⟩
  have HROW := Lib.hid hR.2
  have HCELL := Lib.hid hcell
  have HL := Lib.hid hlen
  have HOK := Lib.hid hOK
  have hnc : n ≤ c := by omega
  have hn0 : 0 < n := by rw [← hn, hlen]; simp
  rw [hn]
  have HN := Lib.hid hn
  have hy0 : ((y :: rs)[0]'(by simp)) = y := rfl
  have h0 := HROW.out 0 (by omega) (by simp)
  rw [hy0] at h0
  obtain ⟨⟨p0, q0, r0⟩, ⟨p3, q3, r3⟩, ⟨p4, q4, r4⟩, ⟨p5, q5, r5⟩, ⟨p6, q6, r6⟩, e0⟩ := h0.shape
  clear h0
  simp only at e0
  obtain ⟨c0, c1, c2, c3, c4, c5, c6⟩ := HCELL.out 0 (by rw [HN.out]; exact hn0) _ _ _ _ _ _ _ e0 w (Below.refl _ _)
  rw [Nat.zero_mul, Nat.add_zero] at c0 c1 c2 c3 c4 c5 c6
  have hci := canon_ttl (.slice p0 q0 r0) (.int .i64 y.data.ty) (.slice p3 q3 r3) (.slice p4 q4 r4) (.slice p5 q5 r5) (.slice p6 q6 r6) (y.ttl : Int)
  have hyt : y.ttl < 2 ^ 32 := (HOK.out y (by simp)).2.1
  have HY : Hid (y.ttl < 2 ^ 32) := Lib.hid hyt
  clear hA hR hc1 hc2 hx hcell hlen hOK hn hy0 e0 hyt
  go_enter Tryz.func117, Tryz.ntmps117
  go_wp2_with fail
  refine (hci _).mono ?_
  rintro e w1 ⟨rfl, hb1⟩
  have HB1 := Lib.hid hb1
  clear hb1 hci c0 c1 c2 c3 c4 c5 c6
  go_wp2
  go_loopw [5, 15] (fun vt vi wr => ∃ (k t : Nat), vi = .int .i64 k ∧ vt = .int .u32 t ∧ k ≤ n ∧ Hid (t = leastM y.ttl ((y :: rs).take k)) ∧ Hid (Below w.heap.size w wr)) (fun _ vi _ => n - (intOf vi).toNat)
  case atStart => exact ⟨0, y.ttl, rfl, rfl, Nat.zero_le _, Lib.hid rfl, HB1⟩
  case round =>
    obtain ⟨k, t, rfl, rfl, hk, HT, HB⟩ := hrel
    by_cases hlt : k < n
    · have hltz : (k : Int) < (n : Int) := by omega
      have hk1 : k < css.length := by have := HN.out; omega
      have hk2 : k < (y :: rs).length := by have := HL.out; omega
      have h0 := HROW.out k hk1 hk2
      obtain ⟨r, hr⟩ : ∃ r, (y :: rs)[k] = r := ⟨_, rfl⟩
      rw [hr] at h0
      have HRR := Lib.hid hr
      obtain ⟨⟨p0, q0, r0⟩, ⟨p3, q3, r3⟩, ⟨p4, q4, r4⟩, ⟨p5, q5, r5⟩, ⟨p6, q6, r6⟩, e0⟩ := h0.shape
      clear h0
      simp only at e0
      obtain ⟨c0, c1, c2, c3, c4, c5, c6⟩ := HCELL.out k hk1 _ _ _ _ _ _ _ e0 wr HB.out
      have hci := canon_ttl (.slice p0 q0 r0) (.int .i64 r.data.ty) (.slice p3 q3 r3) (.slice p4 q4 r4) (.slice p5 q5 r5) (.slice p6 q6 r6) (r.ttl : Int)
      have HK12 := Lib.hid (And.intro hk1 hk2)
      clear e0 hr
      obtain ⟨m, hm⟩ : ∃ m, minT t r.ttl = m := ⟨_, rfl⟩
      have hmz : min (t : Int) (r.ttl : Int) = (m : Int) := by rw [← hm, minT_min]; omega
      have HMM := Lib.hid hm
      clear hm
      go_wp2_with fail
      refine (hci _).mono ?_
      rintro e w2 ⟨rfl, hb2⟩
      have HB2 := Lib.hid hb2
      clear hb2 hci c0 c1 c2 c3 c4 c5 c6
      go_wp2
      go_roundw
      case measure => simp [intOf]; omega
      case rel =>
        refine ⟨k + 1, m, by go_num, rfl, by omega, Lib.hid ?_, Lib.hid ?_⟩
        · rw [leastM_take y.ttl (y :: rs) k HK12.out.2, HRR.out, ← HT.out, HMM.out]
        · have h1 := (HB.out.alloc (o := Obj.cells #[.slice p0 q0 r0, .int .u32 (r.ttl : Int), .int .i64 r.data.ty, .slice p3 q3 r3, .slice p4 q4 r4, .slice p5 q5 r5, .slice p6 q6 r6] 103) HB.out.size)
          exact h1.trans (HB2.out.mono h1.size)
    · obtain rfl : k = n := by omega
      go_wp2
      go_ret
      have e := HT.out
      rw [List.take_of_length_le (by have := HL.out; have := HN.out; omega)] at e
      exact ⟨by rw [e]; rfl, HB.out⟩
end Go.Proofs.YtckammgnmgkieaaGreat

/-
  A row cut into runs of records that are the same: plain facts.
-/
namespace Go.Proofs.YtckammgnmgkieaaGreat
set_option maxRecDepth 20000
open Go.RowKit Go.Shelf
set_option linter.unusedVariables false

def nxtM (rs : List Rc) (s : Nat) : Nat := match rs.drop s with
  | [] => s + 1
  | y :: r => s + 1 + (r.takeWhile (sameR y)).length
def segsF : Nat → Nat → List Rc → List (Nat × Nat)
  | 0, _, _ => []
  | f + 1, s, rs => if s < rs.length then (s, nxtM rs s) :: segsF f (nxtM rs s) rs else []
def segs (rs : List Rc) : List (Nat × Nat) := segsF rs.length 0 rs
theorem takeWhile_len {p : Rc → Bool} : ∀ (l : List Rc), (l.takeWhile p).length ≤ l.length ∧ (∀ j (hj : j < (l.takeWhile p).length) (h : j < l.length), p l[j] = true) ∧ (∀ h : (l.takeWhile p).length < l.length, p l[(l.takeWhile p).length] = false)
  | [] => ⟨Nat.le_refl _, fun j hj => by simp at hj, fun h => by simp at h⟩
  | x :: r => by
    obtain ⟨h1, h2, h3⟩ := takeWhile_len (p := p) r
    by_cases hx : p x = true
    · have e : (x :: r).takeWhile p = x :: r.takeWhile p := by rw [List.takeWhile_cons, if_pos hx]
      simp only [e, List.length_cons]
      refine ⟨by omega, fun j hj h => ?_, fun h => ?_⟩
      · cases j with
        | zero => exact hx
        | succ j => exact h2 j (by omega) (by omega)
      · exact h3 (by omega)
    · have hx' : p x = false := by simpa using hx
      have e : (x :: r).takeWhile p = [] := by rw [List.takeWhile_cons, if_neg hx]
      simp only [e, List.length_nil, List.length_cons]
      exact ⟨by omega, fun j hj => by omega, fun h => hx'⟩
theorem nxtM_at {rs : List Rc} {s : Nat} (hs : s < rs.length) : nxtM rs s = s + 1 + ((rs.drop (s + 1)).takeWhile (sameR rs[s])).length := by
  unfold nxtM
  rw [List.drop_eq_getElem_cons hs]
theorem nxtM_lt {rs : List Rc} {s : Nat} (hs : s < rs.length) : s < nxtM rs s ∧ nxtM rs s ≤ rs.length := by
  rw [nxtM_at hs]
  have := (takeWhile_len (p := sameR rs[s]) (rs.drop (s + 1))).1
  rw [List.length_drop] at this
  omega
theorem nxtM_more {rs : List Rc} {s e : Nat} (hs : s < rs.length) (h1 : s + 1 ≤ e) (h2 : e ≤ nxtM rs s) (he : e < rs.length) (hsame : sameR rs[s] rs[e] = true) : e + 1 ≤ nxtM rs s := by
  rw [nxtM_at hs] at h2 ⊢
  obtain ⟨t1, t2, t3⟩ := takeWhile_len (p := sameR rs[s]) (rs.drop (s + 1))
  rcases Nat.lt_or_ge e (s + 1 + ((rs.drop (s + 1)).takeWhile (sameR rs[s])).length) with h | h
  · omega
  · exfalso
    obtain ⟨j, rfl⟩ : ∃ j, e = s + 1 + j := ⟨e - (s + 1), by omega⟩
    have e1 : ((rs.drop (s + 1)).takeWhile (sameR rs[s])).length = j := by omega
    have := t3 (by rw [List.length_drop]; omega)
    simp only [e1, List.getElem_drop] at this
    rw [hsame] at this; cases this
theorem nxtM_stop {rs : List Rc} {s e : Nat} (hs : s < rs.length) (h1 : s + 1 ≤ e) (h2 : e ≤ nxtM rs s) (h : e = rs.length ∨ ∃ he : e < rs.length, sameR rs[s] rs[e] = false) : e = nxtM rs s := by
  have hn := nxtM_lt hs
  rcases h with h | ⟨he, h⟩
  · omega
  · rcases Nat.lt_or_ge e (nxtM rs s) with h3 | h3
    · exfalso
      rw [nxtM_at hs] at h3
      obtain ⟨t1, t2, t3⟩ := takeWhile_len (p := sameR rs[s]) (rs.drop (s + 1))
      obtain ⟨j, rfl⟩ : ∃ j, e = s + 1 + j := ⟨e - (s + 1), by omega⟩
      have := t2 j (by omega) (by rw [List.length_drop]; omega)
      simp only [List.getElem_drop] at this
      rw [h] at this; cases this
    · omega
theorem segsF_more (rs : List Rc) : ∀ (f s : Nat), rs.length - s ≤ f → segsF f s rs = segsF (rs.length - s) s rs
  | 0, s, h => by rw [show rs.length - s = 0 by omega]
  | f + 1, s, h => by
    by_cases hs : s < rs.length
    · have hn := nxtM_lt hs
      obtain ⟨m, hm⟩ : ∃ m, rs.length - s = m + 1 := ⟨rs.length - s - 1, by omega⟩
      rw [hm]
      simp only [segsF, if_pos hs]
      rw [segsF_more rs f (nxtM rs s) (by omega), segsF_more rs m (nxtM rs s) (by omega)]
    · rw [show rs.length - s = 0 by omega]
      simp only [segsF, if_neg hs]
def leftM (rs : List Rc) (s : Nat) : List (Nat × Nat) := segsF (rs.length - s) s rs
theorem leftM_zero (rs : List Rc) : leftM rs 0 = segs rs := rfl
theorem leftM_end (rs : List Rc) {s : Nat} (h : rs.length ≤ s) : leftM rs s = [] := by unfold leftM; rw [show rs.length - s = 0 by omega]; rfl
theorem leftM_step {rs : List Rc} {s : Nat} (hs : s < rs.length) : leftM rs s = (s, nxtM rs s) :: leftM rs (nxtM rs s) := by
  have hn := nxtM_lt hs
  obtain ⟨m, hm⟩ : ∃ m, rs.length - s = m + 1 := ⟨rs.length - s - 1, by omega⟩
  unfold leftM
  rw [hm]
  simp only [segsF, if_pos hs]
  rw [segsF_more rs m (nxtM rs s) (by omega)]
def runR (rs : List Rc) (x : Nat × Nat) : Rc := match rs.drop x.1 with
  | [] => Rc.mk [] 0 ⟨0, [], [], [], []⟩
  | y :: r => ⟨y.owner, leastM y.ttl (r.take (x.2 - x.1 - 1)), y.data⟩
theorem takeWhile_take (p : Rc → Bool) : ∀ l : List Rc, l.take (l.takeWhile p).length = l.takeWhile p ∧ l.drop (l.takeWhile p).length = l.dropWhile p
  | [] => ⟨rfl, rfl⟩
  | x :: r => by
    have ih := takeWhile_take p r
    by_cases hx : p x = true
    · simp only [List.takeWhile_cons, List.dropWhile_cons, hx, if_true, List.length_cons, List.take_succ_cons, List.drop_succ_cons, ih.1, ih.2]
      exact ⟨trivial, trivial⟩
    · simp only [List.takeWhile_cons, List.dropWhile_cons, hx, Bool.false_eq_true, if_false, List.length_nil, List.take_zero, List.drop_zero]
      exact ⟨trivial, trivial⟩
theorem leftM_grp (rs : List Rc) : ∀ (n s : Nat), rs.length - s ≤ n → (leftM rs s).map (runR rs) = grp (rs.drop s)
  | n, s, h => by
    by_cases hs : s < rs.length
    · have hn := nxtM_lt hs
      have e1 := nxtM_at hs
      obtain ⟨t1, t2⟩ := takeWhile_take (sameR rs[s]) (rs.drop (s + 1))
      rw [leftM_step hs, List.map_cons, List.drop_eq_getElem_cons hs, grp_cons]
      have ed : (rs.drop (s + 1)).dropWhile (sameR rs[s]) = rs.drop (nxtM rs s) := by rw [← t2, List.drop_drop, e1]
      have er : runR rs (s, nxtM rs s) = ⟨rs[s].owner, leastM rs[s].ttl ((rs.drop (s + 1)).takeWhile (sameR rs[s])), rs[s].data⟩ := by
        unfold runR
        simp only [List.drop_eq_getElem_cons hs]
        rw [← t1, show nxtM rs s - s - 1 = ((rs.drop (s + 1)).takeWhile (sameR rs[s])).length by omega]
      rw [er, ed]
      cases n with
      | zero => omega
      | succ n => rw [leftM_grp rs n (nxtM rs s) (by omega)]
    · rw [leftM_end rs (by omega), List.drop_of_length_le (by omega)]
      rfl
theorem segs_grp (rs : List Rc) : (segs rs).map (runR rs) = grp rs := by rw [← leftM_zero, leftM_grp rs rs.length 0 (by omega)]; rfl
end Go.Proofs.YtckammgnmgkieaaGreat

