/-
  The library's sort in place at a struct: a turn of two neighbouring ranges.
-/
import Derived.Test.YtckammgnmgkieaaMQ39
import Derived.Test.YtckammgnmgkieaaMQ04
namespace Go.Proofs.Ytckammgnmgkieaa.Fls
open Go.RowKit Go.Shelf Go.Sort Go.Lib
set_option linter.unusedVariables false
set_option linter.unusedSimpArgs false
set_option linter.unusedSectionVars false
variable {P : Program} {α : Type} [Inhabited α]

/-- What a turn leaves. -/
def RotPost (enc : α → List Value) (k : Nat) (w : World) (blk off : Nat) (d : Array α) (a m b : Nat) (e : Ending) (w' : World) : Prop :=
  e = .returned (.tuple #[]) ∧ ∃ d' : Array α, d'.size = d.size ∧ (∀ x, x < d.size → d'[x]! = Stb.rot a m b (fun i => d[i]!) x) ∧ PermIn a b d d' ∧ SW enc k w blk off d' w'
/-- So far: what is left to turn is from m - i to m and from m to m + j. -/
structure RotAt (enc : α → List Value) (k : Nat) (w : World) (blk off : Nat) (d : Array α) (a m b i j : Nat) (dk : Array α) (W : World) : Prop where
  size : dk.size = d.size
  at_ : ∀ x, x < d.size → Stb.rot (m - i) m (m + j) (fun i => dk[i]!) x = Stb.rot a m b (fun i => d[i]!) x
  perm : PermIn a b d dk
  sw : SW enc k w blk off dk W
theorem RotAt.step {enc : α → List Value} {k : Nat} {w : World} {blk off : Nat} {d : Array α} {a m b i j : Nat} {dk : Array α} {W W' : World} (h : RotAt enc k w blk off d a m b i j dk W) {p q n i' j' : Nat} {d' : Array α}
    (hs : d'.size = dk.size) (hd : ∀ x, x < dk.size → d'[x]! = Stb.swr p q n (fun i => dk[i]!) x) (hp : PermIn p (q + n) dk d') (hw : SW enc k W blk off d' W') (hap : a ≤ p) (hqb : q + n ≤ b) (hb : b ≤ d.size) (hj : j' ≤ b - m) (him : i' ≤ m)
    (hr : ∀ x, Stb.rot (m - i') m (m + j') (Stb.swr p q n (fun i => dk[i]!)) x = Stb.rot (m - i) m (m + j) (fun i => dk[i]!) x) (hmb : m ≤ b) : RotAt enc k w blk off d a m b i' j' d' W' := by
  have hsz := h.size
  refine ⟨hs.trans hsz, fun x hx => ?_, permIn_trans _ _ _ a b h.perm (permIn_mono _ _ p (q + n) a b hap hqb (by omega) hp), h.sw.trans hw⟩
  rw [Stb.rot_congr (n := d.size) (f := fun i => d'[i]!) (g := Stb.swr p q n (fun i => dk[i]!)) (by omega) (by omega) (by omega) (fun y hy => hd y (by omega)) x hx, hr, h.at_ x hx]

set_option maxHeartbeats 4000000 in
set_option maxRecDepth 1000000 in
theorem sort_rotate {k : Nat} (L : SLay P k) (hF : P.funcs[78]? = some Try.f78) (hFs : P.funcs[89]? = some Try.f89)
    (e100 : ∀ args w, (callFunc 89 args).run P w = .ok (.enter 89 args) w) (enc : α → List Value) (hk : ∀ x, (enc x).length = k) (h1 : ∀ x, ∀ v ∈ enc x, v.oneCell' = true)
    (blk off cap a m b : Nat) (d : Array α) (fv : Value) (w : World) (hH : HoldsK enc k w blk off d) (hlt : blk < w.heap.size) (ham : a < m) (hmb : m < b) (hb : b ≤ d.size) (hsz : d.size < 4611686018427387904) :
    Calls P 78 #[.slice (some ⟨blk, off, none⟩) d.size cap, .int .i64 a, .int .i64 m, .int .i64 b, fv] w (RotPost enc k w blk off d a m b) := by
  have mixed := L.mixed; have t0 := L.t0; have a0 := L.a0; have z0 := L.z0; have v0 := L.v0; have t3 := L.t3; have a3 := L.a3; have z3 := L.z3; have v3 := L.v3; have t4 := L.t4; have a4 := L.a4; have z4 := L.z4; have v4 := L.v4; have t85 := L.t85; have a85 := L.a85; have z85 := L.z85; have v85 := L.v85; have t43 := L.t43; have a43 := L.a43; have z43 := L.z43; have v43 := L.v43; have t69 := L.t69; have a69 := L.a69; have z69 := L.z69; have v69 := L.v69; have aE := L.aE; have zE := L.zE
  have u43 := run_underlying L.t43
  have HC := Lib.hid (fun (W : World) (dk : Array α) (p q n : Nat) (hs : dk.size = d.size) (hW : SW enc k w blk off dk W) (h1' : p + n ≤ q) (h2 : q + n ≤ d.size) => hs ▸ sort_swapRange L hFs enc hk h1 blk off cap p q n dk fv W hW.row hW.lt' h1' (by omega) (by omega))
  have HS0 : Hid (RotAt enc k w blk off d a m b (m - a) (b - m) d w) := Lib.hid ⟨rfl, fun x _ => by rw [show m - (m - a) = a by omega, show m + (b - m) = b by omega], permIn_refl d a _, SW.refl hH hlt⟩
  clear hH hlt hk h1
  have c1 : (m : Int) - (a : Int) = ((m - a : Nat) : Int) := by omega
  have c2 : (b : Int) - (m : Int) = ((b - m : Nat) : Int) := by omega
  have C1 := Lib.hid c1; have C2 := Lib.hid c2
  clear c1 c2
  go_enter hF, Try.ntmps78
  go_wp2
  go_loopw [10, 11] (fun vi vj wr => ∃ (i j : Nat) (dk : Array α), vi = .int .i64 i ∧ vj = .int .i64 j ∧ 0 < i ∧ 0 < j ∧ i ≤ m - a ∧ j ≤ b - m ∧ Hid (RotAt enc k w blk off d a m b i j dk wr)) (fun vi vj _ => (intOf vi).toNat + (intOf vj).toNat)
  case atStart => exact ⟨m - a, b - m, d, by rw [C1.out], by rw [C2.out], by omega, by omega, Nat.le_refl _, Nat.le_refl _, HS0⟩
  case round =>
    obtain ⟨i, j, dk, rfl, rfl, hi0, hj0, hi, hj, HS⟩ := hrel
    have hsk := HS.out.size
    have SK := Lib.hid hsk
    clear hsk
    rcases Nat.lt_trichotomy i j with hij | hij | hij
    · have hne : ¬ (i : Int) = (j : Int) := by omega
      have hgt : ¬ (j : Int) < (i : Int) := by omega
      have hc := HC.out wr dk (m - i) (m + j - i) i SK.out HS.out.sw (by omega) (by omega)
      have e1 : ((m - i : Nat) : Int) = (m : Int) - (i : Int) := by omega
      have e2 : ((m + j - i : Nat) : Int) = (m : Int) + (j : Int) - (i : Int) := by omega
      rw [e1, e2] at hc
      clear e1 e2
      go_wp2_with (go_at_fn 89; refine hc.mono ?_; rintro e w' ⟨rfl, d', g1, g2, g3, g4⟩)
      have HN : Hid (RotAt enc k w blk off d a m b i (j - i) d' w') := Lib.hid (HS.out.step g1 g2 g3 g4 (by omega) (by omega) hb (by omega) (by omega) (fun x => Stb.rot_lt _ (by omega) hij x) (by omega))
      clear g1 g2 g3 g4 hc
      go_roundw
      case measure => simp [intOf]; omega
      case rel => exact ⟨i, j - i, d', rfl, by (congr 1; omega), hi0, by omega, hi, by omega, HN⟩
    · subst hij
      have hc := HC.out wr dk (m - i) m i SK.out HS.out.sw (by omega) (by omega)
      have e1 : ((m - i : Nat) : Int) = (m : Int) - (i : Int) := by omega
      rw [e1] at hc
      clear e1
      go_wp2_with (go_at_fn 89; refine hc.mono ?_; rintro e w' ⟨rfl, d', g1, g2, g3, g4⟩)
      go_end0
      have h := HS.out
      have hs := SK.out
      refine ⟨rfl, d', g1.trans hs, fun x hx => ?_, permIn_trans _ _ _ a b h.perm (permIn_mono _ _ (m - i) (m + i) a b (by omega) (by omega) (by omega) g3), h.sw.trans g4⟩
      rw [g2 x (by omega), Stb.rot_eq _ (by omega), h.at_ x hx]
    · have hne : ¬ (i : Int) = (j : Int) := by omega
      have hgt : (j : Int) < (i : Int) := by omega
      have hc := HC.out wr dk (m - i) m j SK.out HS.out.sw (by omega) (by omega)
      have e1 : ((m - i : Nat) : Int) = (m : Int) - (i : Int) := by omega
      rw [e1] at hc
      clear e1
      go_wp2_with (go_at_fn 89; refine hc.mono ?_; rintro e w' ⟨rfl, d', g1, g2, g3, g4⟩)
      have HN : Hid (RotAt enc k w blk off d a m b (i - j) j d' w') := Lib.hid (HS.out.step g1 g2 g3 g4 (by omega) (by omega) hb (by omega) (by omega) (fun x => Stb.rot_gt _ (by omega) hij x) (by omega))
      clear g1 g2 g3 g4 hc
      go_roundw
      case measure => simp [intOf]; omega
      case rel => exact ⟨i - j, j, d', by (congr 1; omega), rfl, by omega, hj0, by omega, hj, HN⟩
end Go.Proofs.Ytckammgnmgkieaa.Fls

/-
  The library's stable sort at a struct: the recursion, and the blocks.
-/
namespace Go.Proofs.Ytckammgnmgkieaa
set_option maxRecDepth 20000
open Go.RowKit Go.Shelf Go.Sort Go.Lib
set_option linter.unusedVariables false
set_option linter.unusedSimpArgs false
set_option linter.unusedSectionVars false
variable {P : Program} {α : Type} [Inhabited α]

/-- The sort's functions, where they are. -/
structure SFun (P : Program) : Prop where
  fs : P.funcs[103]? = some Try.f103
  fr : P.funcs[98]? = some Try.f98
  fi : P.funcs[90]? = some Try.f90
  fm : P.funcs[91]? = some Try.f91
  ft : P.funcs[79]? = some Try.f79
  es : ∀ args w, (callFunc 103 args).run P w = .ok (.enter 103 args) w
  er : ∀ args w, (callFunc 98 args).run P w = .ok (.enter 98 args) w
  ei : ∀ args w, (callFunc 90 args).run P w = .ok (.enter 90 args) w
  em : ∀ args w, (callFunc 91 args).run P w = .ok (.enter 91 args) w

theorem sort_sym {k : Nat} (L : SLay P k) (F : SFun P) (enc : α → List Value) (hk : ∀ x, (enc x).length = k) (h1 : ∀ x, ∀ v ∈ enc x, v.oneCell' = true) (cf : α → α → Int) (tg : α → Nat) (hO : Stb.COrd cf) (g : Nat) (cb : Array Value)
    (blk off cap N : Nat) (hN : N < 4611686018427387904) (w : World) (hcmp : CmpB P g cb enc cf w blk) : ∀ (n a m b : Nat) (d : Array α) (W : World), b - a ≤ n → d.size = N → SW enc k w blk off d W → Stb.Mrg cf tg a m b d →
    Calls P 91 #[.slice (some ⟨blk, off, none⟩) N cap, .int .i64 a, .int .i64 m, .int .i64 b, .func (.func g) #[] cb] W (SymPost enc k cf tg W blk off d a b)
  | 0, a, m, b, d, W, hn, _, _, hM => by have := hM.am; have := hM.mb; omega
  | n + 1, a, m, b, d, W, hn, hs, hW, hM => by
    subst hs
    have hc := hcmp.later hW.rest
    by_cases hma : m = a + 1
    · exact sort_sym_one L F.fm enc hk h1 cf tg hO g cb blk off cap a m b hma d W hc hW.row hW.lt' hM hN
    by_cases hbm : b = m + 1
    · exact sort_sym_last L F.fm enc hk h1 cf tg hO g cb blk off cap a m b hma hbm d W hc hW.row hW.lt' hM hN
    exact sort_sym_gen L F.fm F.fr F.fs F.es F.er F.em enc hk h1 cf tg hO g cb blk off cap a m b hma hbm d W hc hW.row hW.lt' hM hN
      (fun a' m' b' d' W' hlt hs' hW' hM' => sort_sym L F enc hk h1 cf tg hO g cb blk off cap d.size hN w hcmp n a' m' b' d' W' (by omega) hs' (hW.trans hW') hM')

def StbPost (enc : α → List Value) (k : Nat) (cf : α → α → Int) (tg : α → Nat) (w : World) (blk off : Nat) (d : Array α) (e : Ending) (w' : World) : Prop :=
  e = .returned (.tuple #[]) ∧ ∃ d' : Array α, PermIn 0 d.size d d' ∧ Stb.Rise cf tg 0 d.size d' ∧ SW enc k w blk off d' w'
/-- A state of the sort: of so many, the row's elements among themselves, what Q says of them. -/
structure StbAt (enc : α → List Value) (k : Nat) (w : World) (blk off : Nat) (d : Array α) (Q : Array α → Prop) (dk : Array α) (W : World) : Prop where
  perm : PermIn 0 d.size d dk
  sw : SW enc k w blk off dk W
  q : Q dk
theorem StbAt.next {enc : α → List Value} {k : Nat} {w : World} {blk off : Nat} {d : Array α} {Q Q' : Array α → Prop} {dk d' : Array α} {W W' : World} (h : StbAt enc k w blk off d Q dk W) {a b : Nat} (hb : b ≤ d.size) (hp : PermIn a b dk d') (hw : SW enc k W blk off d' W') (hq : Q' d') : StbAt enc k w blk off d Q' d' W' :=
  ⟨permIn_trans _ _ _ 0 d.size h.perm (permIn_mono _ _ a b 0 d.size (Nat.zero_le _) hb (by rw [h.perm.1]; omega) hp), h.sw.trans hw, hq⟩

set_option maxHeartbeats 8000000 in
set_option maxRecDepth 1000000 in
theorem sort_stable {k : Nat} (L : SLay P k) (F : SFun P) (enc : α → List Value) (hk : ∀ x, (enc x).length = k) (h1 : ∀ x, ∀ v ∈ enc x, v.oneCell' = true) (cf : α → α → Int) (tg : α → Nat) (hO : Stb.COrd cf) (g : Nat) (cb : Array Value)
    (blk off cap : Nat) (d : Array α) (w : World) (hcmp : CmpB P g cb enc cf w blk) (hH : HoldsK enc k w blk off d) (hblk : blk < w.heap.size) (ht : ∀ i, i < d.size → tg d[i]! = i) (hsz : d.size < 4611686018427387904) :
    Calls P 79 #[.slice (some ⟨blk, off, none⟩) d.size cap, .int .i64 d.size, .func (.func g) #[] cb] w (StbPost enc k cf tg w blk off d) := by
  have mixed := L.mixed; have t0 := L.t0; have a0 := L.a0; have z0 := L.z0; have v0 := L.v0; have t3 := L.t3; have a3 := L.a3; have z3 := L.z3; have v3 := L.v3; have t4 := L.t4; have a4 := L.a4; have z4 := L.z4; have v4 := L.v4; have t85 := L.t85; have a85 := L.a85; have z85 := L.z85; have v85 := L.v85; have t43 := L.t43; have a43 := L.a43; have z43 := L.z43; have v43 := L.v43; have t69 := L.t69; have a69 := L.a69; have z69 := L.z69; have v69 := L.v69; have aE := L.aE; have zE := L.zE
  have u43 := run_underlying L.t43
  obtain ⟨n, hn⟩ : ∃ n, d.size = n := ⟨_, rfl⟩
  have HNN := Lib.hid hn
  have hF := F.ft
  have ei := F.ei
  have em := F.em
  have HI := Lib.hid (fun (dk : Array α) (W : World) (a b : Nat) (hs : dk.size = n) (hW : SW enc k w blk off dk W) (hab : a ≤ b) (hb : b ≤ n) =>
    (show Calls P 90 #[.slice (some ⟨blk, off, none⟩) n cap, .int .i64 a, .int .i64 b, .func (.func g) #[] cb] W (InsPost enc k cf W blk off dk a b) from hs ▸ sort_insertion L F.fi enc hk h1 cf g cb blk off cap a b dk W (hcmp.later hW.rest) hW.row hW.lt' hab (by omega) (by omega)))
  have HM := Lib.hid (fun (dk : Array α) (W : World) (a m b : Nat) (hs : dk.size = n) (hW : SW enc k w blk off dk W) (hM : Stb.Mrg cf tg a m b dk) => sort_sym L F enc hk h1 cf tg hO g cb blk off cap n (by omega) w hcmp (b - a) a m b dk W (Nat.le_refl _) hs hW hM)
  have HS0 : Hid (StbAt enc k w blk off d (Stb.Blk0 cf tg 20 0) d w) := Lib.hid ⟨permIn_refl d 0 _, SW.refl hH hblk, Stb.Blk0.start ht⟩
  rw [hn] at hsz ⊢
  clear hcmp hH hblk ht hk h1 hn F
  go_enter hF, Try.ntmps79
  go_wp2
  go_loopw [7, 8] (fun va vb wr => ∃ (A B : Nat) (dk : Array α), va = .int .i64 A ∧ vb = .int .i64 B ∧ A ≤ n ∧ B ≤ A + 20 ∧ A + 20 ≤ B ∧ Hid (∃ r, A = r * 20) ∧ Hid (StbAt enc k w blk off d (Stb.Blk0 cf tg 20 A) dk wr)) (fun va _ _ => n - (intOf va).toNat)
  case atStart => exact ⟨0, 20, d, rfl, rfl, Nat.zero_le _, by omega, by omega, Lib.hid ⟨0, by omega⟩, HS0⟩
  case round =>
    obtain ⟨A, B, dk, rfl, rfl, hA, hB1, hB2, HR, HS⟩ := hrel
    have hds : dk.size = n := by rw [HS.out.perm.1]; exact HNN.out
    have HDS := Lib.hid hds
    clear hds
    by_cases hlt : B ≤ n
    · have hltz : (B : Int) ≤ (n : Int) := by omega
      have hc := HI.out dk _ A B HDS.out HS.out.sw (by omega) hlt
      go_wp2_with (go_at_fn 90; refine hc.mono ?_; rintro e w' ⟨rfl, g1⟩)
      have HN : Hid (StbAt enc k w blk off d (Stb.Blk0 cf tg 20 B) (insertionSort (Stb.lb cf) dk A B) w') := by
        have hs := HS.out
        have hd := HDS.out
        have hnn := HNN.out
        have hi := Stb.insertion_rise (tg := tg) hO dk A B (by omega) (by omega) (hs.q.tags (by omega))
        obtain ⟨r, rfl⟩ := HR.out
        have hB : B = r * 20 + 20 := by omega
        exact Lib.hid (hs.next (by omega) hi.1 g1 (hs.q.next (by omega) (by omega) (by omega) hi.1 hi.2))
      have HR' : Hid (∃ r, B = r * 20) := by
        obtain ⟨r, rfl⟩ := HR.out
        exact Lib.hid ⟨r + 1, by omega⟩
      clear g1 hc
      go_roundw
      case measure => simp [intOf]; omega
      case rel => exact ⟨B, B + 20, _, rfl, by go_num, hlt, Nat.le_refl _, Nat.le_refl _, HR', HN⟩
    · have hltz : ¬ (B : Int) ≤ (n : Int) := by omega
      have hc := HI.out dk _ A n HDS.out HS.out.sw hA (Nat.le_refl _)
      go_wp2_with (go_at_fn 90; refine hc.mono ?_; rintro e w' ⟨rfl, g1⟩)
      have HN : Hid (StbAt enc k w blk off d (Stb.Blk cf tg 20) (insertionSort (Stb.lb cf) dk A n) w') := by
        have hs := HS.out
        have hd := HDS.out
        have hnn := HNN.out
        have hi := Stb.insertion_rise (tg := tg) hO dk A n hA (by omega) (hs.q.tags (by omega))
        obtain ⟨r, rfl⟩ := HR.out
        have hw := hs.q.next (by omega) hA (by omega) hi.1 hi.2
        have he : (insertionSort (Stb.lb cf) dk (r * 20) n).size = n := hi.1.1.trans hd
        have hw' : Stb.Blk0 cf tg 20 (insertionSort (Stb.lb cf) dk (r * 20) n).size (insertionSort (Stb.lb cf) dk (r * 20) n) := by rw [he]; exact hw
        exact Lib.hid (hs.next (by omega) hi.1 g1 hw'.whole)
      generalize insertionSort (Stb.lb cf) dk A n = dj at HN
      clear g1 hc HDS HS HR hlt hltz hB1 hB2 hA
      rename World => wo
      go_loopw [6] (fun vs wr => ∃ (s : Nat) (dk : Array α), vs = .int .i64 s ∧ 20 ≤ s ∧ s < 9223372036854775807 ∧ Hid (StbAt enc k w blk off d (Stb.Blk cf tg s) dk wr)) (fun vs _ => n - (intOf vs).toNat)
      case atStart => exact ⟨20, dj, rfl, Nat.le_refl _, by omega, HN⟩
      case round =>
        obtain ⟨s, dk, rfl, hs1, hs2, HS⟩ := hrel
        by_cases hlt : s < n
        · have hltz : (s : Int) < (n : Int) := by omega
          obtain ⟨t, ht⟩ : ∃ t, 2 * s = t := ⟨_, rfl⟩
          have htz : 2 * (s : Int) = (t : Int) := by omega
          have htz' : (s : Int) * 2 = (t : Int) := by omega
          have htb : (t : Int) ≤ 9223372036854775806 := by omega
          have htp : s < t := by omega
          have HTT := Lib.hid ht
          have HS2 : Hid (StbAt enc k w blk off d (Stb.Blk2 cf tg s 0) dk wr) := by
            have hs := HS.out
            exact Lib.hid ⟨hs.perm, hs.sw, Stb.Blk2.start hs.q⟩
          clear ht
          rename World => w1
          go_wp2
          go_loopw [7, 8] (fun va vb wr => ∃ (A B : Nat) (dk : Array α), va = .int .i64 A ∧ vb = .int .i64 B ∧ A ≤ n ∧ B ≤ A + t ∧ A + t ≤ B ∧ Hid (∃ r, A = r * (2 * s)) ∧ Hid (StbAt enc k w blk off d (Stb.Blk2 cf tg s A) dk wr)) (fun va _ _ => n - (intOf va).toNat)
          case atStart => exact ⟨0, t, dk, rfl, rfl, Nat.zero_le _, by omega, by omega, Lib.hid ⟨0, by omega⟩, HS2⟩
          case round =>
            obtain ⟨A, B, dl, rfl, rfl, hA, hB1, hB2, HR, HL⟩ := hrel
            have hds : dl.size = n := by rw [HL.out.perm.1]; exact HNN.out
            have HDS := Lib.hid hds
            clear hds
            have hAsz : ((A + s : Nat) : Int) = (A : Int) + (s : Int) := by omega
            have HAS := Lib.hid hAsz
            clear hAsz
            by_cases hBn : B ≤ n
            · have hBnz : (B : Int) ≤ (n : Int) := by omega
              have hM : Stb.Mrg cf tg A (A + s) B dl := by
                have hl := HL.out
                have hd := HDS.out
                have ht := HTT.out
                obtain ⟨r, rfl⟩ := HR.out
                exact hl.q.mrg (by omega) (by omega) (by omega) (by omega)
              have hc := HM.out dl _ A (A + s) B HDS.out HL.out.sw hM
              rw [HAS.out] at hc
              clear hM
              go_wp2_with (go_at_fn 91; refine hc.mono ?_; rintro e w' ⟨rfl, dm, g1, g2, g3⟩)
              have HN2 : Hid (StbAt enc k w blk off d (Stb.Blk2 cf tg s B) dm w') := by
                have hl := HL.out
                have hd := HDS.out
                have ht := HTT.out
                have hnn := HNN.out
                obtain ⟨r, rfl⟩ := HR.out
                exact Lib.hid (hl.next (by omega) g1 g3 (hl.q.next (by omega) (by omega) (by omega) (Or.inl (by omega)) g1 g2))
              have HR' : Hid (∃ r, B = r * (2 * s)) := by
                have ht := HTT.out
                obtain ⟨r, rfl⟩ := HR.out
                exact Lib.hid ⟨r + 1, by rw [Nat.succ_mul]; omega⟩
              clear g1 g2 g3 hc
              go_roundw
              case measure => simp [intOf]; omega
              case rel => exact ⟨B, B + t, dm, rfl, by go_num, hBn, Nat.le_refl _, Nat.le_refl _, HR', HN2⟩
            · have hBnz : ¬ (B : Int) ≤ (n : Int) := by omega
              by_cases hm : A + s < n
              · have hmz : (A : Int) + (s : Int) < (n : Int) := by omega
                have hM : Stb.Mrg cf tg A (A + s) n dl := by
                  have hl := HL.out
                  have hd := HDS.out
                  have ht := HTT.out
                  obtain ⟨r, rfl⟩ := HR.out
                  exact hl.q.mrg (by omega) (by omega) (by omega) (by omega)
                have hc := HM.out dl _ A (A + s) n HDS.out HL.out.sw hM
                rw [HAS.out] at hc
                clear hM
                go_wp2_with (go_at_fn 91; refine hc.mono ?_; rintro e w' ⟨rfl, dm, g1, g2, g3⟩)
                have HN2 : Hid (StbAt enc k w blk off d (Stb.Blk cf tg t) dm w') := by
                  have hl := HL.out
                  have hd := HDS.out
                  have ht := HTT.out
                  have hnn := HNN.out
                  obtain ⟨r, rfl⟩ := HR.out
                  have hw := hl.q.next (by omega) hA (by omega) (Or.inr hd.symm) g1 g2
                  rw [← ht]
                  exact Lib.hid (hl.next (by omega) g1 g3 (hw.whole (by rw [g1.1]; omega)))
                clear g1 g2 g3 hc
                go_roundw
                case measure => simp [intOf]; omega
                case rel => exact ⟨t, dm, rfl, by omega, by omega, HN2⟩
              · have hmz : ¬ (A : Int) + (s : Int) < (n : Int) := by omega
                have HN2 : Hid (StbAt enc k w blk off d (Stb.Blk cf tg t) dl wr) := by
                  have hl := HL.out
                  have hd := HDS.out
                  have ht := HTT.out
                  have hnn := HNN.out
                  obtain ⟨r, rfl⟩ := HR.out
                  have hr : Stb.Rise cf tg (r * (2 * s)) n dl := by have := hl.q.short (by omega); rwa [hd] at this
                  have hw := hl.q.next (d' := dl) (by omega) hA (by omega) (Or.inr hd.symm) (permIn_refl dl _ _) hr
                  rw [← ht]
                  exact Lib.hid ⟨hl.perm, hl.sw, hw.whole (by omega)⟩
                go_wp2
                go_roundw
                case measure => simp [intOf]; omega
                case rel => exact ⟨t, dl, rfl, by omega, by omega, HN2⟩
        · have hltz : ¬ (s : Int) < (n : Int) := by omega
          go_wp2
          go_end0
          have hs := HS.out
          have hnn := HNN.out
          have hd : dk.size = n := by rw [hs.perm.1]; exact hnn
          have hr := hs.q.rise (by omega)
          rw [hd] at hr
          exact ⟨rfl, dk, hs.perm, by rw [hnn]; exact hr, hs.sw⟩
end Go.Proofs.Ytckammgnmgkieaa

