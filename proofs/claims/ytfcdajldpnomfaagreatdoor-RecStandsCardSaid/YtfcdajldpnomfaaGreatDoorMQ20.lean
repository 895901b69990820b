/-
  The library's stable sort at a struct: the recursion, and the blocks.
-/
import Derived.Test.YtfcdajldpnomfaaGreatDoorMQ02
import Derived.Test.YtfcdajldpnomfaaGreatDoorMQ42
import Derived.Test.YtfcdajldpnomfaaGreatDoorMQ32
import Derived.Test.YtfcdajldpnomfaaGreatDoorMQ37
import Derived.Test.YtfcdajldpnomfaaGreatDoorMQ21
import Derived.Deep.RegionHeld3
namespace Go.Proofs.YtfcdajldpnomfaaGreatDoor
set_option maxRecDepth 20000
open Go.RowKit Go.Shelf Go.Sort Go.Lib
set_option linter.unusedVariables false
set_option linter.unusedSimpArgs false
set_option linter.unusedSectionVars false
variable {P : Program} {α : Type} [Inhabited α]

/-- The sort's functions, where they are. -/
structure SFun (P : Program) : Prop where
  fs : P.funcs[155]? = some Tryz.f155
  fr : P.funcs[154]? = some Tryz.f154
  fi : P.funcs[147]? = some Tryz.f147
  fm : P.funcs[148]? = some Tryz.f148
  ft : P.funcs[131]? = some Tryz.f131
  es : ∀ args w, (callFunc 155 args).run P w = .ok (.enter 155 args) w
  er : ∀ args w, (callFunc 154 args).run P w = .ok (.enter 154 args) w
  ei : ∀ args w, (callFunc 147 args).run P w = .ok (.enter 147 args) w
  em : ∀ args w, (callFunc 148 args).run P w = .ok (.enter 148 args) w

theorem sort_sym {k : Nat} (L : SLay P k) (F : SFun P) (enc : α → List Value) (hk : ∀ x, (enc x).length = k) (h1 : ∀ x, ∀ v ∈ enc x, v.oneCell' = true) (cf : α → α → Int) (tg : α → Nat) (hO : Stb.COrd cf) (g : Nat) (cb : Array Value)
    (blk off cap N : Nat) (hN : N < 4611686018427387904) (w : World) (hcmp : CmpB P g cb enc cf w blk) : ∀ (n a m b : Nat) (d : Array α) (W : World), b - a ≤ n → d.size = N → SW enc k w blk off d W → Stb.Mrg cf tg a m b d →
    Calls P 148 #[.slice (some ⟨blk, off, none⟩) N cap, .int .i64 a, .int .i64 m, .int .i64 b, .func (.func g) #[] cb] W (SymPost enc k cf tg W blk off d a b)
  | 0, a, m, b, d, W, hn, _, _, hM => by have := hM.am; have := hM.mb; omega
  | n + 1, a, m, b, d, W, hn, hs, hW, hM => by
    subst hs
    have hc := hcmp.later hW.rest
    by_cases hma : m = a + 1
    · exact sort_sym_one L F.fm enc hk h1 cf tg hO g cb blk off cap a m b hma d W hc hW.row hW.lt' hM hN
    by_cases hbm : b = m + 1
    · exact sort_sym_last L F.fm enc hk h1 cf tg hO g cb blk off cap a m b hma hbm d W hc hW.row hW.lt' hM hN
    exact sort_sym_gen L F.fm F.fr F.fs F.es F.er F.em enc hk h1 cf tg hO g cb blk off cap a m b hma hbm d W hc hW.row hW.lt' hM hN
      (fun a' m' b' d' W' hlt hs' hW' hM' => sort_sym L F enc hk h1 cf tg hO g cb blk off cap d.size hN w hcmp n a' m' b' d' W' (by omega) hs' (hW.trans hW') hM')

def StbPost (enc : α → List Value) (k : Nat) (cf : α → α → Int) (tg : α → Nat) (w : World) (blk off : Nat) (d : Array α) (e : Ending) (w' : World) : Prop :=
  e = .returned (.tuple #[]) ∧ ∃ d' : Array α, PermIn 0 d.size d d' ∧ Stb.Rise cf tg 0 d.size d' ∧ SW enc k w blk off d' w'
/-- A state of the sort: of so many, the row's elements among themselves, what Q says of them. -/
structure StbAt (enc : α → List Value) (k : Nat) (w : World) (blk off : Nat) (d : Array α) (Q : Array α → Prop) (dk : Array α) (W : World) : Prop where
  perm : PermIn 0 d.size d dk
  sw : SW enc k w blk off dk W
  q : Q dk
theorem StbAt.next {enc : α → List Value} {k : Nat} {w : World} {blk off : Nat} {d : Array α} {Q Q' : Array α → Prop} {dk d' : Array α} {W W' : World} (h : StbAt enc k w blk off d Q dk W) {a b : Nat} (hb : b ≤ d.size) (hp : PermIn a b dk d') (hw : SW enc k W blk off d' W') (hq : Q' d') : StbAt enc k w blk off d Q' d' W' :=
  ⟨permIn_trans _ _ _ 0 d.size h.perm (permIn_mono _ _ a b 0 d.size (Nat.zero_le _) hb (by rw [h.perm.1]; omega) hp), h.sw.trans hw, hq⟩

set_option maxHeartbeats 8000000 in
set_option maxRecDepth 1000000 in
theorem sort_stable {k : Nat} (L : SLay P k) (F : SFun P) (enc : α → List Value) (hk : ∀ x, (enc x).length = k) (h1 : ∀ x, ∀ v ∈ enc x, v.oneCell' = true) (cf : α → α → Int) (tg : α → Nat) (hO : Stb.COrd cf) (g : Nat) (cb : Array Value)
    (blk off cap : Nat) (d : Array α) (w : World) (hcmp : CmpB P g cb enc cf w blk) (hH : HoldsK enc k w blk off d) (hblk : blk < w.heap.size) (ht : ∀ i, i < d.size → tg d[i]! = i) (hsz : d.size < 4611686018427387904) :
    Calls P 131 #[.slice (some ⟨blk, off, none⟩) d.size cap, .int .i64 d.size, .func (.func g) #[] cb] w (StbPost enc k cf tg w blk off d) := by
  have mixed := L.mixed; have t0 := L.t0; have a0 := L.a0; have z0 := L.z0; have v0 := L.v0; have t3 := L.t3; have a3 := L.a3; have z3 := L.z3; have v3 := L.v3; have t4 := L.t4; have a4 := L.a4; have z4 := L.z4; have v4 := L.v4; have t85 := L.t85; have a85 := L.a85; have z85 := L.z85; have v85 := L.v85; have t43 := L.t43; have a43 := L.a43; have z43 := L.z43; have v43 := L.v43; have t69 := L.t69; have a69 := L.a69; have z69 := L.z69; have v69 := L.v69; have aE := L.aE; have zE := L.zE
  have u43 := run_underlying L.t43
  obtain ⟨n, hn⟩ : ∃ n, d.size = n := ⟨_, rfl⟩
  have HNN := Lib.hid hn
  have hF := F.ft
  have ei := F.ei
  have em := F.em
  have HI := Lib.hid (fun (dk : Array α) (W : World) (a b : Nat) (hs : dk.size = n) (hW : SW enc k w blk off dk W) (hab : a ≤ b) (hb : b ≤ n) =>
    (show Calls P 147 #[.slice (some ⟨blk, off, none⟩) n cap, .int .i64 a, .int .i64 b, .func (.func g) #[] cb] W (InsPost enc k cf W blk off dk a b) from hs ▸ sort_insertion L F.fi enc hk h1 cf g cb blk off cap a b dk W (hcmp.later hW.rest) hW.row hW.lt' hab (by omega) (by omega)))
  have HM := Lib.hid (fun (dk : Array α) (W : World) (a m b : Nat) (hs : dk.size = n) (hW : SW enc k w blk off dk W) (hM : Stb.Mrg cf tg a m b dk) => sort_sym L F enc hk h1 cf tg hO g cb blk off cap n (by omega) w hcmp (b - a) a m b dk W (Nat.le_refl _) hs hW hM)
  have HS0 : Hid (StbAt enc k w blk off d (Stb.Blk0 cf tg 20 0) d w) := Lib.hid ⟨permIn_refl d 0 _, SW.refl hH hblk, Stb.Blk0.start ht⟩
  rw [hn] at hsz ⊢
  clear hcmp hH hblk ht hk h1 hn F
  go_enter hF, Tryz.ntmps131
  go_wp2
  go_loopw [7, 8] (fun va vb wr => ∃ (A B : Nat) (dk : Array α), va = .int .i64 A ∧ vb = .int .i64 B ∧ A ≤ n ∧ B ≤ A + 20 ∧ A + 20 ≤ B ∧ Hid (∃ r, A = r * 20) ∧ Hid (StbAt enc k w blk off d (Stb.Blk0 cf tg 20 A) dk wr)) (fun va _ _ => n - (intOf va).toNat)
  case atStart => exact ⟨0, 20, d, rfl, rfl, Nat.zero_le _, by omega, by omega, Lib.hid ⟨0, by omega⟩, HS0⟩
  case round =>
    obtain ⟨A, B, dk, rfl, rfl, hA, hB1, hB2, HR, HS⟩ := hrel
    have hds : dk.size = n := by rw [HS.out.perm.1]; exact HNN.out
    have HDS := Lib.hid hds
    clear hds
    by_cases hlt : B ≤ n
    · have hltz : (B : Int) ≤ (n : Int) := by omega
      have hc := HI.out dk _ A B HDS.out HS.out.sw (by omega) hlt
      go_wp2_with (go_at_fn 147; refine hc.mono ?_; rintro e w' ⟨rfl, g1⟩)
      have HN : Hid (StbAt enc k w blk off d (Stb.Blk0 cf tg 20 B) (insertionSort (Stb.lb cf) dk A B) w') := by
        have hs := HS.out
        have hd := HDS.out
        have hnn := HNN.out
        have hi := Stb.insertion_rise (tg := tg) hO dk A B (by omega) (by omega) (hs.q.tags (by omega))
        obtain ⟨r, rfl⟩ := HR.out
        have hB : B = r * 20 + 20 := by omega
        exact Lib.hid (hs.next (by omega) hi.1 g1 (hs.q.next (by omega) (by omega) (by omega) hi.1 hi.2))
      have HR' : Hid (∃ r, B = r * 20) := by
        obtain ⟨r, rfl⟩ := HR.out
        exact Lib.hid ⟨r + 1, by omega⟩
      clear g1 hc
      go_roundw
      case measure => simp [intOf]; omega
      case rel => exact ⟨B, B + 20, _, rfl, by go_num, hlt, Nat.le_refl _, Nat.le_refl _, HR', HN⟩
    · have hltz : ¬ (B : Int) ≤ (n : Int) := by omega
      have hc := HI.out dk _ A n HDS.out HS.out.sw hA (Nat.le_refl _)
      go_wp2_with (go_at_fn 147; refine hc.mono ?_; rintro e w' ⟨rfl, g1⟩)
      have HN : Hid (StbAt enc k w blk off d (Stb.Blk cf tg 20) (insertionSort (Stb.lb cf) dk A n) w') := by
        have hs := HS.out
        have hd := HDS.out
        have hnn := HNN.out
        have hi := Stb.insertion_rise (tg := tg) hO dk A n hA (by omega) (hs.q.tags (by omega))
        obtain ⟨r, rfl⟩ := HR.out
        have hw := hs.q.next (by omega) hA (by omega) hi.1 hi.2
        have he : (insertionSort (Stb.lb cf) dk (r * 20) n).size = n := hi.1.1.trans hd
        have hw' : Stb.Blk0 cf tg 20 (insertionSort (Stb.lb cf) dk (r * 20) n).size (insertionSort (Stb.lb cf) dk (r * 20) n) := by rw [he]; exact hw
        exact Lib.hid (hs.next (by omega) hi.1 g1 hw'.whole)
      generalize insertionSort (Stb.lb cf) dk A n = dj at HN
      clear g1 hc HDS HS HR hlt hltz hB1 hB2 hA
      rename World => wo
      go_loopw [6] (fun vs wr => ∃ (s : Nat) (dk : Array α), vs = .int .i64 s ∧ 20 ≤ s ∧ s < 9223372036854775807 ∧ Hid (StbAt enc k w blk off d (Stb.Blk cf tg s) dk wr)) (fun vs _ => n - (intOf vs).toNat)
      case atStart => exact ⟨20, dj, rfl, Nat.le_refl _, by omega, HN⟩
      case round =>
        obtain ⟨s, dk, rfl, hs1, hs2, HS⟩ := hrel
        by_cases hlt : s < n
        · have hltz : (s : Int) < (n : Int) := by omega
          obtain ⟨t, ht⟩ : ∃ t, 2 * s = t := ⟨_, rfl⟩
          have htz : 2 * (s : Int) = (t : Int) := by omega
          have htz' : (s : Int) * 2 = (t : Int) := by omega
          have htb : (t : Int) ≤ 9223372036854775806 := by omega
          have htp : s < t := by omega
          have HTT := Lib.hid ht
          have HS2 : Hid (StbAt enc k w blk off d (Stb.Blk2 cf tg s 0) dk wr) := by
            have hs := HS.out
            exact Lib.hid ⟨hs.perm, hs.sw, Stb.Blk2.start hs.q⟩
          clear ht
          rename World => w1
          go_wp2
          go_loopw [7, 8] (fun va vb wr => ∃ (A B : Nat) (dk : Array α), va = .int .i64 A ∧ vb = .int .i64 B ∧ A ≤ n ∧ B ≤ A + t ∧ A + t ≤ B ∧ Hid (∃ r, A = r * (2 * s)) ∧ Hid (StbAt enc k w blk off d (Stb.Blk2 cf tg s A) dk wr)) (fun va _ _ => n - (intOf va).toNat)
          case atStart => exact ⟨0, t, dk, rfl, rfl, Nat.zero_le _, by omega, by omega, Lib.hid ⟨0, by omega⟩, HS2⟩
          case round =>
            obtain ⟨A, B, dl, rfl, rfl, hA, hB1, hB2, HR, HL⟩ := hrel
            have hds : dl.size = n := by rw [HL.out.perm.1]; exact HNN.out
            have HDS := Lib.hid hds
            clear hds
            have hAsz : ((A + s : Nat) : Int) = (A : Int) + (s : Int) := by omega
            have HAS := Lib.hid hAsz
            clear hAsz
            by_cases hBn : B ≤ n
            · have hBnz : (B : Int) ≤ (n : Int) := by omega
              have hM : Stb.Mrg cf tg A (A + s) B dl := by
                have hl := HL.out
                have hd := HDS.out
                have ht := HTT.out
                obtain ⟨r, rfl⟩ := HR.out
                exact hl.q.mrg (by omega) (by omega) (by omega) (by omega)
              have hc := HM.out dl _ A (A + s) B HDS.out HL.out.sw hM
              rw [HAS.out] at hc
              clear hM
              go_wp2_with (go_at_fn 148; refine hc.mono ?_; rintro e w' ⟨rfl, dm, g1, g2, g3⟩)
              have HN2 : Hid (StbAt enc k w blk off d (Stb.Blk2 cf tg s B) dm w') := by
                have hl := HL.out
                have hd := HDS.out
                have ht := HTT.out
                have hnn := HNN.out
                obtain ⟨r, rfl⟩ := HR.out
                exact Lib.hid (hl.next (by omega) g1 g3 (hl.q.next (by omega) (by omega) (by omega) (Or.inl (by omega)) g1 g2))
              have HR' : Hid (∃ r, B = r * (2 * s)) := by
                have ht := HTT.out
                obtain ⟨r, rfl⟩ := HR.out
                exact Lib.hid ⟨r + 1, by rw [Nat.succ_mul]; omega⟩
              clear g1 g2 g3 hc
              go_roundw
              case measure => simp [intOf]; omega
              case rel => exact ⟨B, B + t, dm, rfl, by go_num, hBn, Nat.le_refl _, Nat.le_refl _, HR', HN2⟩
            · have hBnz : ¬ (B : Int) ≤ (n : Int) := by omega
              by_cases hm : A + s < n
              · have hmz : (A : Int) + (s : Int) < (n : Int) := by omega
                have hM : Stb.Mrg cf tg A (A + s) n dl := by
                  have hl := HL.out
                  have hd := HDS.out
                  have ht := HTT.out
                  obtain ⟨r, rfl⟩ := HR.out
                  exact hl.q.mrg (by omega) (by omega) (by omega) (by omega)
                have hc := HM.out dl _ A (A + s) n HDS.out HL.out.sw hM
                rw [HAS.out] at hc
                clear hM
                go_wp2_with (go_at_fn 148; refine hc.mono ?_; rintro e w' ⟨rfl, dm, g1, g2, g3⟩)
                have HN2 : Hid (StbAt enc k w blk off d (Stb.Blk cf tg t) dm w') := by
                  have hl := HL.out
                  have hd := HDS.out
                  have ht := HTT.out
                  have hnn := HNN.out
                  obtain ⟨r, rfl⟩ := HR.out
                  have hw := hl.q.next (by omega) hA (by omega) (Or.inr hd.symm) g1 g2
                  rw [← ht]
                  exact Lib.hid (hl.next (by omega) g1 g3 (hw.whole (by rw [g1.1]; omega)))
                clear g1 g2 g3 hc
                go_roundw
                case measure => simp [intOf]; omega
                case rel => exact ⟨t, dm, rfl, by omega, by omega, HN2⟩
              · have hmz : ¬ (A : Int) + (s : Int) < (n : Int) := by omega
                have HN2 : Hid (StbAt enc k w blk off d (Stb.Blk cf tg t) dl wr) := by
                  have hl := HL.out
                  have hd := HDS.out
                  have ht := HTT.out
                  have hnn := HNN.out
                  obtain ⟨r, rfl⟩ := HR.out
                  have hr : Stb.Rise cf tg (r * (2 * s)) n dl := by have := hl.q.short (by omega); rwa [hd] at this
                  have hw := hl.q.next (d' := dl) (by omega) hA (by omega) (Or.inr hd.symm) (permIn_refl dl _ _) hr
                  rw [← ht]
                  exact Lib.hid ⟨hl.perm, hl.sw, hw.whole (by omega)⟩
                go_wp2
                go_roundw
                case measure => simp [intOf]; omega
                case rel => exact ⟨t, dl, rfl, by omega, by omega, HN2⟩
        · have hltz : ¬ (s : Int) < (n : Int) := by omega
          go_wp2
          go_end0
          have hs := HS.out
          have hnn := HNN.out
          have hd : dk.size = n := by rw [hs.perm.1]; exact hnn
          have hr := hs.q.rise (by omega)
          rw [hd] at hr
          exact ⟨rfl, dk, hs.perm, by rw [hnn]; exact hr, hs.sw⟩
end Go.Proofs.YtfcdajldpnomfaaGreatDoor

/-
  rec.sorted: a copy of the row, sorted by rec.Compare, the stable way.
-/
namespace Go.Proofs.YtfcdajldpnomfaaGreatDoor
open Go.RowKit Go.Shelf Go.Sort Go.Lib
open Stb (COrd Lx Rise)
set_option maxRecDepth 20000
set_option linter.unusedVariables false
set_option linter.unusedSimpArgs false
set_option linter.unusedSectionVars false

/-- Cells and the records that they read as, one by one. -/
def Rcs (W : World) (css : List (List Value)) (rs : List Rc) : Prop := css.length = rs.length ∧ ∀ i (h1 : i < css.length) (h2 : i < rs.length), RcAt W css[i] rs[i]
theorem Rcs.below {W W' : World} {css : List (List Value)} {rs : List Rc} (h : Rcs W css rs) (hb : Below W.heap.size W W') : Rcs W' css rs := ⟨h.1, fun i h1 h2 => (h.2 i h1 h2).below hb⟩
theorem SlAt.one {W : World} {v : Value} {xs : List Value} (h : SlAt W v xs) : v.oneCell' = true := by obtain ⟨a, c, rfl, _⟩ := h; rfl
theorem RcAt.len {W : World} {cs : List Value} {r : Rc} (h : RcAt W cs r) : cs.length = 7 := by obtain ⟨vo, vn, vu, vt, vr, rfl, _⟩ := h; rfl
theorem RcAt.one {W : World} {cs : List Value} {r : Rc} (h : RcAt W cs r) : ∀ u ∈ cs, u.oneCell' = true := by
  obtain ⟨vo, vn, vu, vt, vr, rfl, h1, h2⟩ := h
  obtain ⟨un, uu, ut, ur, e, ⟨vs, g1, _⟩, g2, g3, g4⟩ := h2
  have e' : #[Value.int .i64 r.data.ty, vn, vu, vt, vr] = #[Value.int .i64 r.data.ty, un, uu, ut, ur] := by injection e
  simp only [Array.mk.injEq, List.cons.injEq, and_true, true_and] at e'
  obtain ⟨rfl, rfl, rfl, rfl⟩ := e'
  intro u hu
  simp only [List.mem_cons, List.not_mem_nil, or_false] at hu
  rcases hu with rfl | rfl | rfl | rfl | rfl | rfl | rfl
  · exact (nmAt_sl.1 h1).one
  · rfl
  · rfl
  · exact g1.one
  · exact g2.one
  · exact (nmAt_sl.1 g3).one
  · exact g4.one
def Rc.none : Rc := ⟨[], 0, Dat.none⟩
theorem rcAt_none (W : World) : RcAt W [.slice none 0 0, .int .u32 0, .int .i64 0, .slice none 0 0, .slice none 0 0, .slice none 0 0, .slice none 0 0] Rc.none :=
  ⟨_, _, _, _, _, rfl, nm_nil W, _, _, _, _, rfl, NmsAt.nil W, SlAt.nil W, nm_nil W, SlAt.nil W⟩
theorem rcOK_none : RcOK Rc.none := ⟨⟨by decide, by simp [Rc.none]⟩, by decide, ⟨by decide, by decide⟩, by decide, by simp [Rc.none, Dat.none], by decide, by simp [Rc.none, Dat.none], ⟨by decide, by simp [Rc.none, Dat.none]⟩, by decide⟩

/-- A record of the row: its cells, what they read as in w0, its place. -/
def RcT (w0 : World) : Type := { x : List Value × Rc × Nat // RcAt w0 x.1 x.2.1 ∧ RcOK x.2.1 }
instance (w0 : World) : Inhabited (RcT w0) := ⟨⟨(_, Rc.none, 0), rcAt_none w0, rcOK_none⟩⟩
def RcT.cells {w0 : World} (x : RcT w0) : List Value := x.1.1
def RcT.rc {w0 : World} (x : RcT w0) : Rc := x.1.2.1
def RcT.tg {w0 : World} (x : RcT w0) : Nat := x.1.2.2

theorem flat_at {α : Type} (enc : α → List Value) (k : Nat) (hk : ∀ x, (enc x).length = k) : ∀ (l : List α) (t : Nat), t < l.length * k → ∃ h : t / k < l.length, (l.flatMap enc)[t]? = (enc l[t / k])[t % k]?
  | [], t, h => by simp at h
  | x :: r, t, h => by
    have k0 : 0 < k := by rcases Nat.eq_zero_or_pos k with h' | h'; · subst h'; simp at h
                          · exact h'
    rw [List.flatMap_cons]
    by_cases ht : t < k
    · have e1 : t / k = 0 := Nat.div_eq_of_lt ht
      have e2 : t % k = t := Nat.mod_eq_of_lt ht
      refine ⟨by rw [e1]; simp, ?_⟩
      rw [List.getElem?_append_left (by rw [hk]; exact ht)]
      simp only [e1, e2, List.getElem_cons_zero]
    · rw [List.length_cons, Nat.succ_mul] at h
      obtain ⟨h1, h2⟩ := flat_at enc k hk r (t - k) (by omega)
      have e1 : t / k = (t - k) / k + 1 := by
        rw [show t = (t - k) + k by omega, Nat.add_div_right _ k0]; congr 2; omega
      have e2 : t % k = (t - k) % k := by rw [show t = (t - k) + k by omega, Nat.add_mod_right]; congr 1; omega
      refine ⟨by rw [e1, List.length_cons]; omega, ?_⟩
      rw [List.getElem?_append_right (by rw [hk]; omega), hk, h2]
      simp only [e1, e2, List.getElem_cons_succ]
theorem flatK_is {α : Type} [Inhabited α] (enc : α → List Value) (k : Nat) (hk : ∀ x, (enc x).length = k) (d : Array α) (t : Nat) (ht : t < d.size * k) : (d.toList.flatMap enc)[t]? = some (flatK enc k d)[t]! := by
  have k0 : 0 < k := by rcases Nat.eq_zero_or_pos k with h' | h'; · subst h'; simp at ht
                        · exact h'
  obtain ⟨h1, h2⟩ := flat_at enc k hk d.toList t (by simpa using ht)
  have hm : t % k < k := Nat.mod_lt _ k0
  have h1' : t / k < d.size := by simpa using h1
  rw [h2, get_flatK enc k d t ht, getElem!_pos d _ h1', Array.getElem_toList, getElem!_pos (enc d[t / k]) _ (by rw [hk]; exact hm)]
  exact List.getElem?_eq_getElem _
/-- A row of the call's own, as the sort sees it. -/
theorem holdsK_of_own {α : Type} [Inhabited α] (enc : α → List Value) (k : Nat) (hk : ∀ x, (enc x).length = k) {T : TypeId} {W : World} {base g n c : Nat} {css : List (List Value)} (h : OwnC k T W base (.slice (some ⟨g, 0, none⟩) n c) css) (d : Array α) (hd : d.toList.map enc = css) : HoldsK enc k W g 0 d := by
  have hck : ∀ cs ∈ css, cs.length = k := fun cs hc => by rw [← hd] at hc; obtain ⟨x, _, rfl⟩ := List.mem_map.1 hc; exact hk x
  have hf : css.flatten = d.toList.flatMap enc := by rw [← hd]; rfl
  have hl : css.length = d.size := by rw [← hd]; simp
  intro j hj
  rw [size_flatK] at hj
  have hfl := flatK_is enc k hk d j hj
  rcases h.2 with ⟨e, _⟩ | ⟨g', cap, cur, e, hb, hg, hc, hm, hsz, htk⟩
  · cases e
  · cases e
    have h3 : cur.toList[j]? = some (flatK enc k d)[j]! := by
      have : (cur.toList.take (css.length * k))[j]? = some (flatK enc k d)[j]! := by rw [htk, flat_id, hf]; exact hfl
      rw [List.getElem?_take, if_pos (by rw [hl]; exact hj)] at this
      exact this
    refine ⟨?_, by simp [World.frozen?, hg]⟩
    simp only [World.cell?, hg, Nat.zero_add]
    simpa using h3
theorem slK_of_holds {α : Type} [Inhabited α] (enc : α → List Value) (k : Nat) (hk : ∀ x, (enc x).length = k) {W : World} {g n c : Nat} (d : Array α) (h : HoldsK enc k W g 0 d) (hn : n = d.size) (hc : n ≤ c) (hg : g < W.heap.size) : SlK W (.slice (some ⟨g, 0, none⟩) n c) (d.toList.map enc) := by
  subst hn
  refine ⟨_, _, by rw [List.length_map, Array.length_toList], by rw [List.length_map, Array.length_toList]; exact hc, (fun e => by cases e), .inr ⟨g, 0, rfl, hg, fun j u hj => ?_⟩⟩
  have hf : (d.toList.map enc).flatten = d.toList.flatMap enc := rfl
  rw [hf] at hj
  have hlt : j < d.size * k := by
    have h1 := (List.getElem?_eq_some_iff.1 hj).1
    have hl : (d.toList.flatMap enc).length = d.size * k := by
      have h := flat_len (k := k) (d.toList.map enc) (fun cs hc => by obtain ⟨x, _, rfl⟩ := List.mem_map.1 hc; exact hk x)
      rw [hf] at h
      rw [h, List.length_map, Array.length_toList]
    rw [hl] at h1
    exact h1
  have h2 := flatK_is enc k hk d j hlt
  rw [hj] at h2
  have h3 := (h j (by rw [size_flatK]; exact hlt)).1
  rw [h3]
  exact h2.symm

theorem tagged (w0 : World) (css : List (List Value)) (rs : List Rc) (h : Rcs w0 css rs) (hOK : ∀ r ∈ rs, RcOK r) : ∃ d : Array (RcT w0), d.toList.map RcT.cells = css ∧ d.toList.map RcT.rc = rs ∧ ∀ i, i < d.size → d[i]!.tg = i := by
  have hl := h.1
  let f : Fin css.length → RcT w0 := fun i => ⟨(css[i], rs[i.1]'(by have := i.2; omega), i.1), h.2 i.1 i.2 (by have := i.2; omega), hOK _ (List.getElem_mem _)⟩
  refine ⟨Array.ofFn f, ?_, ?_, fun i hi => ?_⟩
  · apply List.ext_getElem
    · simp
    · intro i h1 h2
      rw [List.getElem_map, Array.getElem_toList, Array.getElem_ofFn]; rfl
  · apply List.ext_getElem
    · simp; omega
    · intro i h1 h2
      rw [List.getElem_map, Array.getElem_toList, Array.getElem_ofFn]; rfl
  · have hi' : i < css.length := by simpa using hi
    rw [getElem!_pos _ i hi, Array.getElem_ofFn]
    rfl
theorem below_grown {w0 w W : World} {g : Nat} (hb : Below w0.heap.size w0 w) (hg : w.grownBy W (some g)) (hle : w0.heap.size ≤ g) : Below w0.heap.size w0 W :=
  hb.grown hg hb.size (fun k e => by cases e; exact hle)

theorem sfun_here : SFun Tryz.prog where
  fs := Tryz.func155
  fr := Tryz.func154
  fi := Tryz.func147
  fm := Tryz.func148
  ft := Tryz.func131
  es := enters_of Tryz.func155 (by kernel_rfl) rfl
  er := enters_of Tryz.func154 (by kernel_rfl) rfl
  ei := enters_of Tryz.func147 (by kernel_rfl) rfl
  em := enters_of Tryz.func148 (by kernel_rfl) rfl

theorem cmp_here (w0 w : World) (g : Nat) (hb : Below w0.heap.size w0 w) (hle : w0.heap.size ≤ g) : CmpB Tryz.prog 14 #[] (RcT.cells (w0 := w0)) (cfR RcT.rc) w g where
  eg := enters_of Tryz.func14 (by kernel_rfl) rfl
  call := fun W hW x y => by
    have hB := below_grown hb hW hle
    exact rec_Compare _ _ _ _ W (x.2.1.below hB) (y.2.1.below hB) x.2.2 y.2.2

set_option maxHeartbeats 1000000 in
theorem insertion_none (a : Option Addr) (c : Nat) (fv : Value) (w : World) : Calls Tryz.prog 147 #[.slice a 0 c, .int .i64 0, .int .i64 0, fv] w fun e w' => e = .returned (.tuple #[]) ∧ w = w' := by
  go_enter Tryz.func147, Tryz.ntmps147
  go_wp2
  refine wp_loop_rounds 1 ?_
  rw [rounds_succ]
  go_wp2
  go_end0
  exact ⟨rfl, rfl⟩
set_option maxHeartbeats 2000000 in
theorem stable_none (a : Option Addr) (c : Nat) (fv : Value) (w : World) : Calls Tryz.prog 131 #[.slice a 0 c, .int .i64 0, fv] w fun e w' => e = .returned (.tuple #[]) ∧ w = w' := by
  go_enter Tryz.func131, Tryz.ntmps131
  go_wp2
  refine wp_loop_rounds 1 ?_
  rw [rounds_succ]
  go_wp2_with (go_at_call 147; refine (insertion_none _ _ _ _).mono ?_; rintro e w' ⟨rfl, rfl⟩)
  refine wp_loop_rounds 1 ?_
  rw [rounds_succ]
  go_wp2
  go_end0
  exact ⟨rfl, rfl⟩

/-- What sorting leaves of a row of the call's own. -/
def SrtPost (w0 wb : World) (v : Value) (n : Nat) (rs : List Rc) (e : Ending) (w' : World) : Prop := e = .returned (.tuple #[]) ∧ ∃ css', SlK w' v css' ∧ css'.length = n ∧ Rcs w0 css' (sortM rs) ∧ Below wb.heap.size wb w'
set_option maxHeartbeats 2000000 in
theorem stable_recs (w0 wb : World) (hb0 : Below w0.heap.size w0 wb) (v : Value) (css : List (List Value)) (rs : List Rc) (w : World) (hb : Below wb.heap.size wb w) (hR : Rcs w0 css rs) (hOK : ∀ r ∈ rs, RcOK r) (hown : OwnC 7 31 w wb.heap.size v css) (hl : css.length ≤ 1000000000000) :
    Calls Tryz.prog 131 #[v, .int .i64 css.length, .func (.func 14) #[] #[]] w (SrtPost w0 wb v css.length rs) := by
  have hck : ∀ cs ∈ css, cs.length = 7 := fun cs hc => by
    obtain ⟨i, hi, rfl⟩ := List.mem_iff_getElem.1 hc
    exact (hR.2 i hi (by have := hR.1; omega)).len
  by_cases h0 : css = []
  · subst h0
    have hr0 : rs = [] := List.eq_nil_of_length_eq_zero hR.1.symm
    subst hr0
    obtain ⟨a, c, rfl⟩ := hown.shape
    refine (stable_none a c _ w).mono ?_
    rintro e w' ⟨rfl, rfl⟩
    exact ⟨rfl, [], SlK.of_own hown hck, rfl, ⟨rfl, fun i h1 => absurd h1 (Nat.not_lt_zero _)⟩, hb⟩
  · obtain ⟨d, hd1, hd2, hd3⟩ := tagged w0 css rs hR hOK
    have hn : css.length = d.size := by rw [← hd1]; simp
    rcases id hown.2 with ⟨e, h00⟩ | ⟨g, cap, cur, rfl, hbg, hg, hcap, hm, hsz, htk⟩
    · exact absurd (List.eq_nil_of_length_eq_zero h00) h0
    have hH : HoldsK RcT.cells 7 w g 0 d := holdsK_of_own RcT.cells 7 (fun x => x.2.1.len) hown d hd1
    have hlt : g < w.heap.size := (Array.getElem?_eq_some_iff.1 hg).1
    have hc := sort_stable slay_here sfun_here RcT.cells (fun x => x.2.1.len) (fun x => x.2.1.one) (cfR RcT.rc) RcT.tg (cord_cfR _) 14 #[] g 0 cap d w (cmp_here w0 w g (hb0.trans (hb.mono hb0.size)) (Nat.le_trans hb0.size hbg)) hH hlt hd3 (by omega)
    rw [← hn] at hc
    refine hc.mono ?_
    rintro e w' ⟨rfl, d', hp, hr, hs⟩
    have hsz' : d'.size = d.size := hp.1
    refine ⟨rfl, d'.toList.map RcT.cells, slK_of_holds RcT.cells 7 (fun x => x.2.1.len) d' hs.row (by omega) hcap hs.lt', by simp; omega, ?_, below_grown hb hs.rest hbg⟩
    have hsrt := sorted_is RcT.rc RcT.tg hd3 hp hr
    rw [hd2] at hsrt
    rw [← hsrt]
    refine ⟨by simp, fun i h1 h2 => ?_⟩
    simp only [List.getElem_map]
    exact (d'.toList[i]'(by simpa using h1)).2.1

set_option maxHeartbeats 2000000 in
theorem sort_func (w0 wb : World) (hb0 : Below w0.heap.size w0 wb) (v : Value) (css : List (List Value)) (rs : List Rc) (w : World) (hb : Below wb.heap.size wb w) (hR : Rcs w0 css rs) (hOK : ∀ r ∈ rs, RcOK r) (hown : OwnC 7 31 w wb.heap.size v css) (hl : css.length ≤ 1000000000000) :
    Calls Tryz.prog 98 #[v, .func (.func 14) #[] #[]] w (SrtPost w0 wb v css.length rs) := by
  have hc := stable_recs w0 wb hb0 v css rs w hb hR hOK hown hl
  obtain ⟨a, c, rfl⟩ := hown.shape
  clear hR hOK hown hb hb0
  obtain ⟨n, hn⟩ : ∃ n, css.length = n := ⟨_, rfl⟩
  rw [hn] at hc hl ⊢
  clear hn
  go_enter Tryz.func98, Tryz.ntmps98
  go_wp2_with fail
  refine hc.mono ?_
  rintro e w' ⟨rfl, css', h⟩
  go_wp2
  go_end0
  exact ⟨rfl, css', h⟩

def SortedPost (w0 w : World) (rs : List Rc) (e : Ending) (w' : World) : Prop := ∃ v' css', e = .returned v' ∧ SlK w' v' css' ∧ Rcs w0 css' (sortM rs) ∧ (∀ b, v'.ownBlock = some b → w.heap.size ≤ b) ∧ Below w.heap.size w w'
set_option maxHeartbeats 2000000 in
theorem rec_sorted (w0 : World) (v : Value) (css : List (List Value)) (rs : List Rc) (w : World) (hb0 : Below w0.heap.size w0 w) (hA : SlK w v css) (hR : Rcs w0 css rs) (hOK : ∀ r ∈ rs, RcOK r) (hl : css.length ≤ 1000000000000) :
    Calls Tryz.prog 46 #[v, .func (.func 14) #[] #[]] w (SortedPost w0 w rs) := by
  have hck : ∀ cs ∈ css, cs.length = 7 ∧ ∀ u ∈ cs, u.oneCell' = true := fun cs hc => by
    obtain ⟨i, hi, rfl⟩ := List.mem_iff_getElem.1 hc
    have := hR.2 i hi (by have := hR.1; omega)
    exact ⟨this.len, this.one⟩
  have hc := clone_rec v css w hA (fun cs h => (hck cs h).1) (fun cs h => (hck cs h).2) hl
  have HS := Lib.hid (fun v' W (hown : OwnC 7 31 W w.heap.size v' css) (hb : Below w.heap.size w W) => sort_func w0 w hb0 v' css rs W hb hR hOK hown hl)
  clear hA hR hOK hck hb0
  obtain ⟨n, hn⟩ : ∃ n, css.length = n := ⟨_, rfl⟩
  go_enter Tryz.func46, Tryz.ntmps46
  go_wp2_with fail
  refine hc.mono ?_
  rintro e w1 ⟨v', rfl, hown, hb1⟩
  have hs := HS.out v' w1 hown hb1
  have HBL := Lib.hid hown.base_le
  obtain ⟨a', c', rfl⟩ := hown.shape
  rw [hn] at hs HBL ⊢
  clear hown hb1 hc hn
  go_wp2_with fail
  refine hs.mono ?_
  rintro e w2 ⟨rfl, css', h1, h2, h3, h4⟩
  have H := Lib.hid (And.intro h1 (And.intro h3 h4))
  clear h1 h2 h3 h4 hs
  go_wp2
  go_ret
  exact ⟨_, css', rfl, H.out.1, H.out.2.1, HBL.out, H.out.2.2⟩
end Go.Proofs.YtfcdajldpnomfaaGreatDoor

/-
  rec.least: the least TTL of a row of records.
-/
namespace Go.Proofs.YtfcdajldpnomfaaGreatDoor
open Go.RowKit Go.Shelf
set_option maxRecDepth 20000
set_option linter.unusedVariables false
set_option linter.unusedSimpArgs false

/-- The seven cells of an element. -/
theorem SlK.elem {W : World} {a : Option Addr} {n c : Nat} {css : List (List Value)} (h : SlK W (.slice a n c) css) (hk : ∀ cs ∈ css, cs.length = 7) (h0 : 0 < css.length) : ∃ b off, a = some ⟨b, off, none⟩ ∧ b < W.heap.size ∧
    ∀ k (hlt : k < css.length) (u0 u1 u2 u3 u4 u5 u6 : Value), css[k] = [u0, u1, u2, u3, u4, u5, u6] → ∀ W', Below W.heap.size W W' →
      W'.cell? ⟨b, off + k * 7, none⟩ = some u0 ∧ W'.cell? ⟨b, off + k * 7 + 1, none⟩ = some u1 ∧ W'.cell? ⟨b, off + k * 7 + 2, none⟩ = some u2 ∧ W'.cell? ⟨b, off + k * 7 + 3, none⟩ = some u3 ∧ W'.cell? ⟨b, off + k * 7 + 4, none⟩ = some u4 ∧ W'.cell? ⟨b, off + k * 7 + 5, none⟩ = some u5 ∧ W'.cell? ⟨b, off + k * 7 + 6, none⟩ = some u6 := by
  obtain ⟨a', c', e, _, _, h3⟩ := h
  cases e
  rcases h3 with h3 | ⟨b, off, rfl, hb, hc⟩
  · subst h3; simp at h0
  · refine ⟨b, off, rfl, hb, fun k hlt u0 u1 u2 u3 u4 u5 u6 he W' hB => ?_⟩
    have key : ∀ j u, j < 7 → [u0, u1, u2, u3, u4, u5, u6][j]? = some u → W'.cell? ⟨b, off + k * 7 + j, none⟩ = some u := fun j u hj hu => by
      rw [hB.cell (p := ⟨b, off + k * 7 + j, none⟩) hb, Nat.add_assoc]
      refine hc (k * 7 + j) u ?_
      have hl : ∀ (l : List (List Value)) (k : Nat) (hlt : k < l.length), (∀ cs ∈ l, cs.length = 7) → l[k] = [u0, u1, u2, u3, u4, u5, u6] → l.flatten[k * 7 + j]? = some u := by
        intro l
        induction l with
        | nil => intro k hlt; simp at hlt
        | cons x r ih =>
          intro k hlt hk he
          rw [List.flatten_cons]
          cases k with
          | zero =>
            rw [List.getElem_cons_zero] at he
            rw [he, List.getElem?_append_left (by simp; omega)]
            simpa using hu
          | succ k =>
            rw [List.getElem_cons_succ] at he
            have hx : x.length = 7 := hk x (by simp)
            rw [List.getElem?_append_right (by rw [hx]; omega), hx, show (k + 1) * 7 + j - 7 = k * 7 + j by omega]
            exact ih k (by simpa using hlt) (fun cs hc => hk cs (by simp [hc])) he
      exact hl css k hlt hk he
    exact ⟨key 0 u0 (by omega) rfl, key 1 u1 (by omega) rfl, key 2 u2 (by omega) rfl, key 3 u3 (by omega) rfl, key 4 u4 (by omega) rfl, key 5 u5 (by omega) rfl, key 6 u6 (by omega) rfl⟩
theorem Rcs.ck {W : World} {css : List (List Value)} {rs : List Rc} (h : Rcs W css rs) : ∀ cs ∈ css, cs.length = 7 := fun cs hc => by
  obtain ⟨i, hi, rfl⟩ := List.mem_iff_getElem.1 hc
  exact (h.2 i hi (by have := h.1; omega)).len

theorem RcAt.shape {W : World} {cs : List Value} {r : Rc} (h : RcAt W cs r) : ∃ x0 x3 x4 x5 x6 : Option Addr × Nat × Nat, cs = [.slice x0.1 x0.2.1 x0.2.2, .int .u32 (r.ttl : Int), .int .i64 r.data.ty, .slice x3.1 x3.2.1 x3.2.2, .slice x4.1 x4.2.1 x4.2.2, .slice x5.1 x5.2.1 x5.2.2, .slice x6.1 x6.2.1 x6.2.2] := by
  obtain ⟨vo, vn, vu, vt, vr, rfl, h1, h2⟩ := h
  obtain ⟨un, uu, ut, ur, e, ⟨vs, g1, _⟩, g2, g3, g4⟩ := h2
  have e' : #[Value.int .i64 r.data.ty, vn, vu, vt, vr] = #[Value.int .i64 r.data.ty, un, uu, ut, ur] := by injection e
  simp only [Array.mk.injEq, List.cons.injEq, and_true, true_and] at e'
  obtain ⟨rfl, rfl, rfl, rfl⟩ := e'
  obtain ⟨a0, c0, rfl, _⟩ := nmAt_sl.1 h1
  obtain ⟨a3, c3, rfl, _⟩ := g1
  obtain ⟨a4, c4, rfl, _⟩ := g2
  obtain ⟨a5, c5, rfl, _⟩ := nmAt_sl.1 g3
  obtain ⟨a6, c6, rfl, _⟩ := g4
  exact ⟨(a0, _, c0), (a3, _, c3), (a4, _, c4), (a5, _, c5), (a6, _, c6), rfl⟩

set_option maxHeartbeats 2000000 in
theorem canon_ttl (u0 u2 u3 u4 u5 u6 : Value) (t : Int) (w : World) :
    Calls Tryz.prog 49 #[.agg #[u0, .int .u32 t, u2, u3, u4, u5, u6]] w fun e w' => e = .returned (.int .u32 t) ∧ Below w.heap.size w w' := by
  go_enter Tryz.func49, Tryz.ntmps49
  go_wp2
  go_ret
  exact ⟨rfl, (Below.refl _ w).alloc (Nat.le_refl _) _⟩

theorem minT_min (a b : Nat) : minT a b = min a b := by unfold minT; split <;> omega
theorem leastM_take (t : Nat) (l : List Rc) (k : Nat) (hk : k < l.length) : leastM t (l.take (k + 1)) = minT (leastM t (l.take k)) l[k].ttl := by
  rw [List.take_succ_eq_append_getElem hk, leastM_snoc]
theorem leastM_le (t : Nat) : ∀ l : List Rc, leastM t l ≤ t := fun l => by
  unfold leastM
  induction l generalizing t with
  | nil => exact Nat.le_refl _
  | cons x l ih => exact Nat.le_trans (ih (minT t x.ttl)) (minT_le t x.ttl).1
theorem leastM_first (y : Rc) (l : List Rc) : leastM y.ttl (y :: l) = leastM y.ttl l := by
  show l.foldl _ (minT y.ttl y.ttl) = _
  have : minT y.ttl y.ttl = y.ttl := by unfold minT; split <;> rfl
  rw [this]; rfl

set_option maxRecDepth 100000 in
set_option maxHeartbeats 8000000 in
theorem rec_least (v : Value) (css : List (List Value)) (y : Rc) (rs : List Rc) (w : World) (hA : SlK w v css) (hR : Rcs w css (y :: rs)) (hOK : ∀ r ∈ y :: rs, RcOK r) (hl : css.length ≤ 1000000000000) :
    Calls Tryz.prog 48 #[v, .func (.func 49) #[] #[]] w fun e w' => e = .returned (.int .u32 (leastM y.ttl rs : Nat)) ∧ Below w.heap.size w w' := by
  rw [← leastM_first]
  have hlen := hR.1
  obtain ⟨a, c, rfl, hc1, hc2, hx⟩ := id hA
  obtain ⟨b, off, rfl, hb, hcell⟩ := hA.elem hR.ck (by rw [hlen]; simp)
  obtain ⟨n, hn⟩ : ∃ n, css.length = n := ⟨_, rfl⟩
  have HROW := Lib.hid hR.2
  have HCELL := Lib.hid hcell
  have HL := Lib.hid hlen
  have HOK := Lib.hid hOK
  have hnc : n ≤ c := by omega
  have hn0 : 0 < n := by rw [← hn, hlen]; simp
  rw [hn]
  have HN := Lib.hid hn
  have hy0 : ((y :: rs)[0]'(by simp)) = y := rfl
  have h0 := HROW.out 0 (by omega) (by simp)
  rw [hy0] at h0
  obtain ⟨⟨p0, q0, r0⟩, ⟨p3, q3, r3⟩, ⟨p4, q4, r4⟩, ⟨p5, q5, r5⟩, ⟨p6, q6, r6⟩, e0⟩ := h0.shape
  clear h0
  simp only at e0
  obtain ⟨c0, c1, c2, c3, c4, c5, c6⟩ := HCELL.out 0 (by rw [HN.out]; exact hn0) _ _ _ _ _ _ _ e0 w (Below.refl _ _)
  rw [Nat.zero_mul, Nat.add_zero] at c0 c1 c2 c3 c4 c5 c6
  have hci := canon_ttl (.slice p0 q0 r0) (.int .i64 y.data.ty) (.slice p3 q3 r3) (.slice p4 q4 r4) (.slice p5 q5 r5) (.slice p6 q6 r6) (y.ttl : Int)
  have hyt : y.ttl < 2 ^ 32 := (HOK.out y (by simp)).2.1
  have HY : Hid (y.ttl < 2 ^ 32) := Lib.hid hyt
  clear hA hR hc1 hc2 hx hcell hlen hOK hn hy0 e0 hyt
  go_enter Tryz.func48, Tryz.ntmps48
  go_wp2_with fail
  refine (hci _).mono ?_
  rintro e w1 ⟨rfl, hb1⟩
  have HB1 := Lib.hid hb1
  clear hb1 hci c0 c1 c2 c3 c4 c5 c6
  go_wp2
  go_loopw [5, 15] (fun vt vi wr => ∃ (k t : Nat), vi = .int .i64 k ∧ vt = .int .u32 t ∧ k ≤ n ∧ Hid (t = leastM y.ttl ((y :: rs).take k)) ∧ Hid (Below w.heap.size w wr)) (fun _ vi _ => n - (intOf vi).toNat)
  case atStart => exact ⟨0, y.ttl, rfl, rfl, Nat.zero_le _, Lib.hid rfl, HB1⟩
  case round =>
    obtain ⟨k, t, rfl, rfl, hk, HT, HB⟩ := hrel
    by_cases hlt : k < n
    · have hltz : (k : Int) < (n : Int) := by omega
      have hk1 : k < css.length := by have := HN.out; omega
      have hk2 : k < (y :: rs).length := by have := HL.out; omega
      have h0 := HROW.out k hk1 hk2
      obtain ⟨r, hr⟩ : ∃ r, (y :: rs)[k] = r := ⟨_, rfl⟩
      rw [hr] at h0
      have HRR := Lib.hid hr
      obtain ⟨⟨p0, q0, r0⟩, ⟨p3, q3, r3⟩, ⟨p4, q4, r4⟩, ⟨p5, q5, r5⟩, ⟨p6, q6, r6⟩, e0⟩ := h0.shape
      clear h0
      simp only at e0
      obtain ⟨c0, c1, c2, c3, c4, c5, c6⟩ := HCELL.out k hk1 _ _ _ _ _ _ _ e0 wr HB.out
      have hci := canon_ttl (.slice p0 q0 r0) (.int .i64 r.data.ty) (.slice p3 q3 r3) (.slice p4 q4 r4) (.slice p5 q5 r5) (.slice p6 q6 r6) (r.ttl : Int)
      have HK12 := Lib.hid (And.intro hk1 hk2)
      clear e0 hr
      obtain ⟨m, hm⟩ : ∃ m, minT t r.ttl = m := ⟨_, rfl⟩
      have hmz : min (t : Int) (r.ttl : Int) = (m : Int) := by rw [← hm, minT_min]; omega
      have HMM := Lib.hid hm
      clear hm
      go_wp2_with fail
      refine (hci _).mono ?_
      rintro e w2 ⟨rfl, hb2⟩
      have HB2 := Lib.hid hb2
      clear hb2 hci c0 c1 c2 c3 c4 c5 c6
      go_wp2
      go_roundw
      case measure => simp [intOf]; omega
      case rel =>
        refine ⟨k + 1, m, by go_num, rfl, by omega, Lib.hid ?_, Lib.hid ?_⟩
        · rw [leastM_take y.ttl (y :: rs) k HK12.out.2, HRR.out, ← HT.out, HMM.out]
        · have h1 := (HB.out.alloc (o := Obj.cells #[.slice p0 q0 r0, .int .u32 (r.ttl : Int), .int .i64 r.data.ty, .slice p3 q3 r3, .slice p4 q4 r4, .slice p5 q5 r5, .slice p6 q6 r6] 31) HB.out.size)
          exact h1.trans (HB2.out.mono h1.size)
    · obtain rfl : k = n := by omega
      go_wp2
      go_ret
      have e := HT.out
      rw [List.take_of_length_le (by have := HL.out; have := HN.out; omega)] at e
      exact ⟨by rw [e]; rfl, HB.out⟩
end Go.Proofs.YtfcdajldpnomfaaGreatDoor

/-
  rec.fresh: a record anew, in memory of its own.
-/
namespace Go.Proofs.YtfcdajldpnomfaaGreatDoor
open Go.RowKit Go.Shelf
set_option maxRecDepth 20000
set_option linter.unusedVariables false
set_option linter.unusedSimpArgs false

theorem ownG_of_C {α : Type} {T : TypeId} {enc : α → Value} {W : World} {base : Nat} {v : Value} {xs : List α} (h : OwnC 1 T W base v (xs.map fun x => [enc x])) : OwnG T enc W base v xs := by
  unfold OwnG
  have e : (xs.map fun x => [enc x]).flatMap (fun cs => cs) = xs.map enc := by
    have : ∀ xs : List α, (xs.map fun x => [enc x]).flatMap (fun cs => cs) = xs.map enc := fun xs => by
      induction xs with
      | nil => rfl
      | cons x r ih => rw [List.map_cons, List.flatMap_cons, ih]; rfl
    exact this xs
  unfold OwnC OwnK at h
  rw [e, List.length_map] at h
  exact h
theorem results_rec {fn : Func} {t : Tmp} (h : fn.results = #[.cell t 31]) (tmps : Array Value) (W : World) {a : Nat} {x0 x1 x2 x3 x4 x5 x6 : Value}
    (ht : tmps.getD t undef = .pointer (some ⟨a, 0, none⟩)) (hb : W.heap[a]? = some (.cells #[x0, x1, x2, x3, x4, x5, x6] 31)) : (results fn tmps).run Tryz.prog W = .ok (.agg #[x0, x1, x2, x3, x4, x5, x6]) W := by
  have ht' : tmps[t]?.getD undef = .pointer (some ⟨a, 0, none⟩) := by rw [← ht]; simp
  have hu : ∀ w, Sem.run Tryz.prog (underlying 31) w = .ok _ w := run_underlying Tryz.underlying31
  have y0 := kcell hb 0 _ rfl; have y1 := kcell hb 1 _ rfl; have y2 := kcell hb 2 _ rfl; have y3 := kcell hb 3 _ rfl; have y4 := kcell hb 4 _ rfl; have y5 := kcell hb 5 _ rfl; have y6 := kcell hb 6 _ rfl
  simp [results, h, ht', loadVar, asAddr, go_sem, hu, y0, y1, y2, y3, y4, y5, y6, isAgg]
theorem OwnNms.snoc {W w' : World} {base : Nat} {v v' : Value} {vs : List SlV} {ns : List Nm} {x : SlV} {l : Nm} (h1 : OwnG 23 slEnc W base v vs) (h2 : vs.length = ns.length) (h3 : ∀ j (h1 : j < vs.length) (h2 : j < ns.length), OwnG 9 strV W base (slEnc vs[j]) ns[j])
    (hx : OwnG 9 strV W base (slEnc x) l) (hn : OwnG 23 slEnc w' base v' (vs ++ [x])) (hg : W.grownBy w' v.ownBlock) : OwnNms w' base v' (ns ++ [l]) := by
  refine ⟨vs ++ [x], hn, by simp; omega, fun j a b => ?_⟩
  by_cases hj : j < vs.length
  · rw [List.getElem_append_left hj, List.getElem_append_left (by omega)]
    exact (h3 j hj (by omega)).kept2 h1 (by decide) hg
  · obtain rfl : j = vs.length := by simp at a; omega
    have e1 : (vs ++ [x])[vs.length]'a = x := by simp
    have e2 : (ns ++ [l])[vs.length]'b = l := by simp [h2]
    rw [e1, e2]
    exact hx.kept2 h1 (by decide) hg

theorem DRow.keepB {W : World} {base : Nat} {vn vu vt vr : Value} {d : Dat} (h : DRow W base vn vu vt vr d) {B : Nat} {cs : Array Value} (hB : W.heap[B]? = some (.cells cs 31)) (j : Nat) (u : Value) : DRow (W.setCell ⟨B, j, none⟩ u) base vn vu vt vr d := by
  obtain ⟨⟨vs, h1, h2, h3⟩, i1, i2, i3⟩ := h
  exact ⟨⟨vs, h1.keptB hB (by decide) j u, h2, fun i a b => (h3 i a b).keptB hB (by decide) j u⟩, i1.keptB hB (by decide) j u, i2.keptB hB (by decide) j u, i3.keptB hB (by decide) j u⟩
/-- A record whose rows are all its own. -/
def FrAt (W : World) (base : Nat) (cs : List Value) (r : Rc) : Prop :=
  ∃ vo vn vu vt vr, cs = [vo, .int .u32 (r.ttl : Int), .int .i64 r.data.ty, vn, vu, vt, vr] ∧ OwnG 9 strV W base vo r.owner ∧ DRow W base vn vu vt vr r.data
theorem FrAt.rcAt {W : World} {base : Nat} {cs : List Value} {r : Rc} (h : FrAt W base cs r) : RcAt W cs r := by
  obtain ⟨vo, vn, vu, vt, vr, e, h1, h2⟩ := h
  exact ⟨vo, vn, vu, vt, vr, e, h1.nmAt, h2.datAt⟩
theorem FrAt.below {W W' : World} {base : Nat} {cs : List Value} {r : Rc} (h : FrAt W base cs r) (hb : Below W.heap.size W W') : FrAt W' base cs r := by
  obtain ⟨vo, vn, vu, vt, vr, e, h1, h2⟩ := h
  exact ⟨vo, vn, vu, vt, vr, e, h1.below hb, h2.below hb⟩
theorem FrAt.keepB {W : World} {base : Nat} {cs : List Value} {r : Rc} (h : FrAt W base cs r) {B : Nat} {xs : Array Value} (hB : W.heap[B]? = some (.cells xs 31)) (j : Nat) (u : Value) : FrAt (W.setCell ⟨B, j, none⟩ u) base cs r := by
  obtain ⟨vo, vn, vu, vt, vr, e, h1, h2⟩ := h
  exact ⟨vo, vn, vu, vt, vr, e, h1.keptB hB (by decide) j u, h2.keepB hB j u⟩
/-- .. under what a row of records of its own does to its block. -/
theorem OwnC.ne_block {k : Nat} {T : TypeId} {W : World} {base : Nat} {v : Value} {xss : List (List Value)} (h : OwnC k T W base v xss) {B : Nat} {cs : Array Value} {t : TypeId} (hB : W.heap[B]? = some (.cells cs t)) (ht : t ≠ T) : some B ≠ v.ownBlock := by
  intro e
  rcases h.2 with ⟨rfl, _⟩ | ⟨g, cap, cur, rfl, _, hg, _⟩
  · cases e
  · simp only [Value.ownBlock] at e
    cases e
    rw [hg] at hB
    injection hB with hB
    injection hB with h1 h2
    exact ht h2.symm
theorem OwnG.kept_c {α : Type} {T T' : TypeId} {enc : α → Value} {W W' : World} {base base' k : Nat} {v v' : Value} {xs : List α} {yss : List (List Value)} (h : OwnG T enc W base v xs) (h' : OwnC k T' W base' v' yss) (hT : T ≠ T') (hg : W.grownBy W' v'.ownBlock) : OwnG T enc W' base v xs := by
  refine h.kept hg ?_
  rcases h.2 with ⟨rfl, _⟩ | ⟨g, cap, cur, rfl, _, hh, _⟩
  · left; rfl
  · right
    intro e
    exact h'.ne_block hh hT e
theorem FrAt.grown {W W' : World} {base base' : Nat} {cs : List Value} {r : Rc} {v' : Value} {yss : List (List Value)} (h : FrAt W base cs r) (h' : OwnC 7 31 W base' v' yss) (hg : W.grownBy W' v'.ownBlock) : FrAt W' base cs r := by
  obtain ⟨vo, vn, vu, vt, vr, e, h1, ⟨⟨vs, k1, k2, k3⟩, i1, i2, i3⟩⟩ := h
  exact ⟨vo, vn, vu, vt, vr, e, h1.kept_c h' (by decide) hg, ⟨⟨vs, k1.kept_c h' (by decide) hg, k2, fun i a b => (k3 i a b).kept_c h' (by decide) hg⟩, i1.kept_c h' (by decide) hg, i2.kept_c h' (by decide) hg, i3.kept_c h' (by decide) hg⟩⟩
theorem FrAt.weaken {W : World} {base b2 : Nat} {cs : List Value} {r : Rc} (h : FrAt W base cs r) (hb : b2 ≤ base) : FrAt W b2 cs r := by
  obtain ⟨vo, vn, vu, vt, vr, e, h1, ⟨⟨vs, k1, k2, k3⟩, i1, i2, i3⟩⟩ := h
  exact ⟨vo, vn, vu, vt, vr, e, h1.weaken hb, ⟨⟨vs, k1.weaken hb, k2, fun i a b => (k3 i a b).weaken hb⟩, i1.weaken hb, i2.weaken hb, i3.weaken hb⟩⟩
def FreshPost (w : World) (r : Rc) (e : Ending) (w' : World) : Prop := ∃ cs, e = .returned (.agg cs.toArray) ∧ FrAt w' w.heap.size cs r ∧ Below w.heap.size w w'
/-- The three boxes. -/
structure FrB (w : World) (vo : Value) (t x : Int) (vn vu vt vr un uu ut ur : Value) (W : World) : Prop where
  p : W.heap[w.heap.size]? = some (.cells #[vo, .int .u32 t, .int .i64 x, vn, vu, vt, vr] 31)
  q : W.heap[w.heap.size + 1]? = some (.cells #[.slice none 0 0, .int .u32 0, .int .i64 0, .slice none 0 0, .slice none 0 0, .slice none 0 0, .slice none 0 0] 31)
  d : W.heap[w.heap.size + 1 + 1]? = some (.cells #[.int .i64 x, un, uu, ut, ur] 29)
theorem FrB.below {w W W' : World} {vo : Value} {t x : Int} {vn vu vt vr un uu ut ur : Value} (h : FrB w vo t x vn vu vt vr un uu ut ur W) (hb : Below W.heap.size W W') : FrB w vo t x vn vu vt vr un uu ut ur W' :=
  ⟨(hb.block _ (kblock_lt h.p)).trans h.p, (hb.block _ (kblock_lt h.q)).trans h.q, (hb.block _ (kblock_lt h.d)).trans h.d⟩
theorem FrB.grown {w W W' : World} {vo : Value} {t x : Int} {vn vu vt vr un uu ut ur : Value} (h : FrB w vo t x vn vu vt vr un uu ut ur W) {α : Type} {T : TypeId} {enc : α → Value} {base : Nat} {v : Value} {xs : List α} (ho : OwnG T enc W base v xs) (h1 : 31 ≠ T) (h2 : 29 ≠ T) (hg : W.grownBy W' v.ownBlock) : FrB w vo t x vn vu vt vr un uu ut ur W' :=
  ⟨(hg.block _ (kblock_lt h.p) (ho.ne_block h.p h1)).trans h.p, (hg.block _ (kblock_lt h.q) (ho.ne_block h.q h1)).trans h.q, (hg.block _ (kblock_lt h.d) (ho.ne_block h.d h2)).trans h.d⟩
theorem FrB.put {w W : World} {vo : Value} {t x : Int} {vn vu vt vr un uu ut ur : Value} (h : FrB w vo t x vn vu vt vr un uu ut ur W) (j : Nat) (u : Value) {un' uu' ut' ur' : Value} (hj : #[Value.int .i64 x, un, uu, ut, ur].setIfInBounds j u = #[.int .i64 x, un', uu', ut', ur']) :
    FrB w vo t x vn vu vt vr un' uu' ut' ur' (W.setCell ⟨w.heap.size + 1 + 1, j, none⟩ u) := by
  refine ⟨((grownBy_set W _ j u).block _ (kblock_lt h.p) (by simp; omega)).trans h.p, ((grownBy_set W _ j u).block _ (kblock_lt h.q) (by simp)).trans h.q, ?_⟩
  have := block_set h.d j u
  rw [hj] at this
  exact this
/-- The rows so far. -/
structure FrR (w : World) (r : Rc) (un : Value) (W : World) : Prop where
  names : OwnNms W w.heap.size un r.data.names
  below : Below w.heap.size w W
theorem FrR.next {w W W' : World} {r : Rc} {un : Value} (h : FrR w r un W) (hb : Below W.heap.size W W') : FrR w r un W' := ⟨h.names.below hb, h.below.trans (hb.mono h.below.size)⟩
theorem FrR.put {w W : World} {r : Rc} {un : Value} (h : FrR w r un W) {cs : Array Value} (hB : W.heap[w.heap.size + 1 + 1]? = some (.cells cs 29)) (j : Nat) (u : Value) : FrR w r un (W.setCell ⟨w.heap.size + 1 + 1, j, none⟩ u) :=
  ⟨h.names.keptB hB j u, h.below.setCell (p := ⟨w.heap.size + 1 + 1, j, none⟩) (by simp; omega) u⟩

/-- What the last region keeps. -/
structure SF (w : World) (r : Rc) (vo : Value) (t x : Int) (vn vu vt vr un uu ut ur : Value) (W : World) : Prop where
  p : W.heap[w.heap.size]? = some (.cells #[vo, .int .u32 t, .int .i64 x, vn, vu, vt, vr] 31)
  d : W.heap[w.heap.size + 1 + 1]? = some (.cells #[.int .i64 x, un, uu, ut, ur] 29)
  q : ∃ cs, W.heap[w.heap.size + 1]? = some (.cells cs 31) ∧ cs.size = 7
  row : DRow W w.heap.size un uu ut ur r.data
  below : Below w.heap.size w W
theorem SF.keep {w W W' : World} {r : Rc} {vo : Value} {t x : Int} {vn vu vt vr un uu ut ur : Value} (h : SF w r vo t x vn vu vt vr un uu ut ur W) (hb : Below W.heap.size W W') : SF w r vo t x vn vu vt vr un uu ut ur W' := by
  obtain ⟨cs, hq, hs⟩ := h.q
  exact ⟨(hb.block _ (kblock_lt h.p)).trans h.p, (hb.block _ (kblock_lt h.d)).trans h.d, ⟨cs, (hb.block _ (kblock_lt hq)).trans hq, hs⟩, h.row.below hb, h.below.trans (hb.mono h.below.size)⟩
theorem SF.put {w W : World} {r : Rc} {vo : Value} {t x : Int} {vn vu vt vr un uu ut ur : Value} (h : SF w r vo t x vn vu vt vr un uu ut ur W) (j : Nat) (u : Value) : SF w r vo t x vn vu vt vr un uu ut ur (W.setCell ⟨w.heap.size + 1, j, none⟩ u) := by
  obtain ⟨cs, hq, hs⟩ := h.q
  exact ⟨((grownBy_set W _ j u).block _ (kblock_lt h.p) (by simp)).trans h.p, ((grownBy_set W _ j u).block _ (kblock_lt h.d) (by simp)).trans h.d, ⟨_, block_set hq j u, by simp [hs]⟩, h.row.keepB hq j u, h.below.setCell (p := ⟨w.heap.size + 1, j, none⟩) (by simp) u⟩
theorem arr7 {cs : Array Value} (h : cs.size = 7) : ∃ q0 q1 q2 q3 q4 q5 q6, cs = #[q0, q1, q2, q3, q4, q5, q6] := by
  obtain ⟨l⟩ := cs
  match l, h with
  | [q0, q1, q2, q3, q4, q5, q6], _ => exact ⟨q0, q1, q2, q3, q4, q5, q6, rfl⟩
/-- The region's S. -/
def SS (w : World) (r : Rc) (vo : Value) (t x : Int) (vn vu vt vr un uu ut ur : Value) (W : World) : Prop :=
  W.cell? ⟨w.heap.size, 0, none⟩ = some vo ∧ W.cell? ⟨w.heap.size, 1, none⟩ = some (.int .u32 t) ∧ W.cell? ⟨w.heap.size + 1 + 1, 0, none⟩ = some (.int .i64 x) ∧ W.cell? ⟨w.heap.size + 1 + 1, 1, none⟩ = some un ∧ W.cell? ⟨w.heap.size + 1 + 1, 2, none⟩ = some uu ∧ W.cell? ⟨w.heap.size + 1 + 1, 3, none⟩ = some ut ∧ W.cell? ⟨w.heap.size + 1 + 1, 4, none⟩ = some ur ∧ SF w r vo t x vn vu vt vr un uu ut ur W
theorem SF.ss {w W : World} {r : Rc} {vo : Value} {t x : Int} {vn vu vt vr un uu ut ur : Value} (h : SF w r vo t x vn vu vt vr un uu ut ur W) : SS w r vo t x vn vu vt vr un uu ut ur W :=
  ⟨kcell h.p 0 _ rfl, kcell h.p 1 _ rfl, kcell h.d 0 _ rfl, kcell h.d 1 _ rfl, kcell h.d 2 _ rfl, kcell h.d 3 _ rfl, kcell h.d 4 _ rfl, h⟩
theorem SS.sf {w W : World} {r : Rc} {vo : Value} {t x : Int} {vn vu vt vr un uu ut ur : Value} (h : SS w r vo t x vn vu vt vr un uu ut ur W) : SF w r vo t x vn vu vt vr un uu ut ur W := h.2.2.2.2.2.2.2

set_option maxRecDepth 100000 in
set_option maxHeartbeats 16000000 in
theorem rec_fresh (cs : List Value) (r : Rc) (w : World) (hA : RcAt w cs r) (hk : RcOK r) :
    Calls Tryz.prog 47 #[.agg cs.toArray] w (FreshPost w r) := by
  obtain ⟨vo, vn, vu, vt, vr, rfl, a1, a2⟩ := hA
  obtain ⟨un, uu, ut, ur, e, n1, n2, n3, n4⟩ := a2
  have e' : #[Value.int .i64 r.data.ty, vn, vu, vt, vr] = #[Value.int .i64 r.data.ty, un, uu, ut, ur] := by injection e
  simp only [Array.mk.injEq, List.cons.injEq, and_true, true_and] at e'
  obtain ⟨rfl, rfl, rfl, rfl⟩ := e'
  clear e
  have HA := Lib.hid a1
  have HU := Lib.hid n2
  have HTX := Lib.hid n3
  have HRW := Lib.hid n4
  have HNMS := Lib.hid n1
  obtain ⟨vs, s1, sl, s2⟩ := n1
  obtain ⟨an, cn, rfl, x1⟩ := id s1
  obtain ⟨ao, co, rfl, -⟩ := nmAt_sl.1 a1
  obtain ⟨au, cu, rfl, -⟩ := n2
  obtain ⟨ax, cx, rfl, -⟩ := nmAt_sl.1 n3
  obtain ⟨ar, cr, rfl, -⟩ := n4
  obtain ⟨no, hno⟩ : ∃ m, (List.map strV r.owner).length = m := ⟨_, rfl⟩
  obtain ⟨nu, hnu⟩ : ∃ m, (List.map u32V r.data.nums).length = m := ⟨_, rfl⟩
  obtain ⟨nx, hnx⟩ : ∃ m, (List.map strV r.data.texts).length = m := ⟨_, rfl⟩
  obtain ⟨nr, hnr⟩ : ∃ m, (List.map bv r.data.raw).length = m := ⟨_, rfl⟩
  obtain ⟨n, hn⟩ : ∃ n, vs.length = n := ⟨_, rfl⟩
  obtain ⟨x, hx⟩ : ∃ x, r.data.ty = x := ⟨_, rfl⟩
  obtain ⟨t, ht⟩ : ∃ t, (r.ttl : Int) = t := ⟨_, rfl⟩
  have hnb : n ≤ 1048576 := by have := hk.2.2.2.1; omega
  have hcl : ∀ W, Below w.heap.size w W → ∀ j (hj : j < vs.length), ∃ b off, an = some ⟨b, off, none⟩ ∧ b < w.heap.size ∧ W.cell? ⟨b, off + j, none⟩ = some vs[j] := fun W hb j hj => s1.cell hb j hj
  have s2' : ∀ j (h1 : j < vs.length) (h2 : j < r.data.names.length), NmAt w vs[j] r.data.names[j] := fun j h1 _ => s2 j h1
  have HS2 := Lib.hid s2'
  have HK := Lib.hid hk; have HN := Lib.hid hn; have HX := Lib.hid hx; have HT := Lib.hid ht; have HSL := Lib.hid sl
  rw [hno] at HA ⊢
  rw [hnu] at HU ⊢
  rw [hnx] at HTX ⊢
  rw [hnr] at HRW ⊢
  rw [hn] at HNMS s1 ⊢
  rw [hx, ht]
  have hncn : n ≤ cn := by omega
  have HCL := Lib.hid hcl
  clear a1 s2 s2' hk hn hx ht hno hnu hnx hnr sl x1 hcl s1
  obtain ⟨W3, hW3⟩ : ∃ W3, ((w.alloc (.cells #[.slice ao no co, .int .u32 t, .int .i64 x, .slice an n cn, .slice au nu cu, .slice ax nx cx, .slice ar nr cr] 31)).alloc (.cells #[.slice none 0 0, .int .u32 0, .int .i64 0, .slice none 0 0, .slice none 0 0, .slice none 0 0, .slice none 0 0] 31)).alloc (.cells #[.int .i64 x, .slice an n cn, .slice au nu cu, .slice ax nx cx, .slice ar nr cr] 29) = W3 := ⟨_, rfl⟩
  have HF0 : Hid (FrB w (.slice ao no co) t x (.slice an n cn) (.slice au nu cu) (.slice ax nx cx) (.slice ar nr cr) (.slice an n cn) (.slice au nu cu) (.slice ax nx cx) (.slice ar nr cr) W3) := by
    rw [← hW3]
    refine Lib.hid ⟨?_, ?_, ?_⟩
    · exact (Below.heap_alloc _ _ _ (by simp; omega)).trans ((Below.heap_alloc _ _ _ (by simp)).trans (knew w _))
    · have := knew (w.alloc (.cells #[.slice ao no co, .int .u32 t, .int .i64 x, .slice an n cn, .slice au nu cu, .slice ax nx cx, .slice ar nr cr] 31)) (.cells #[.slice none 0 0, .int .u32 0, .int .i64 0, .slice none 0 0, .slice none 0 0, .slice none 0 0, .slice none 0 0] 31)
      rw [World.size_alloc] at this
      exact (Below.heap_alloc _ _ _ (by simp)).trans this
    · have := knew ((w.alloc (.cells #[.slice ao no co, .int .u32 t, .int .i64 x, .slice an n cn, .slice au nu cu, .slice ax nx cx, .slice ar nr cr] 31)).alloc (.cells #[.slice none 0 0, .int .u32 0, .int .i64 0, .slice none 0 0, .slice none 0 0, .slice none 0 0, .slice none 0 0] 31)) (.cells #[.int .i64 x, .slice an n cn, .slice au nu cu, .slice ax nx cx, .slice ar nr cr] 29)
      rw [World.size_alloc, World.size_alloc] at this
      exact this
  have HB0 : Hid (Below w.heap.size w W3) := by rw [← hW3]; exact Lib.hid ((((Below.refl _ w).alloc (Nat.le_refl _) _).alloc (by simp) _).alloc (by simp; omega) _)
  have HW3 := Lib.hid hW3
  clear hW3
  go_enter Tryz.func47, Tryz.ntmps47
  go_wp2
  rw [HW3.out]
  go_loopw [4, 12] (fun v4 vi wr => ∃ (k : Nat) (ga : Option Addr) (gc : Nat), v4 = .slice ga k gc ∧ vi = .int .i64 k ∧ k ≤ n ∧ Hid (OwnNms wr w.heap.size (.slice ga k gc) (r.data.names.take k)) ∧ Hid (FrB w (.slice ao no co) t x (.slice an n cn) (.slice au nu cu) (.slice ax nx cx) (.slice ar nr cr) (.slice an n cn) (.slice au nu cu) (.slice ax nx cx) (.slice ar nr cr) wr) ∧ Hid (Below w.heap.size w wr)) (fun _ vi _ => n - (intOf vi).toNat)
  case atStart => exact ⟨0, none, 0, rfl, rfl, Nat.zero_le _, Lib.hid (OwnNms.nil _ _), HF0, HB0⟩
  case round =>
    obtain ⟨k, ga, gc, rfl, rfl, hk, HO, HF, HB⟩ := hrel
    by_cases hlt : k < n
    · have hltz : (k : Int) < (n : Int) := by omega
      have hk1 : k < vs.length := by have := HN.out; omega
      have hk2 : k < r.data.names.length := by have := HSL.out; omega
      obtain ⟨b, off, rfl, hb, hcell⟩ := HCL.out wr HB.out k hk1
      have hnm := HS2.out k hk1 hk2
      have hnmr := hnm.below (W' := wr) HB.out
      have hok : NmOK r.data.names[k] := HK.out.2.2.2.2.1 _ (List.getElem_mem hk2)
      obtain ⟨av, cv, ev, -⟩ := nmAt_sl.1 hnm
      rw [ev] at hcell hnmr
      obtain ⟨m, hm⟩ : ∃ m, (List.map strV r.data.names[k]).length = m := ⟨_, rfl⟩
      rw [hm] at hcell hnmr
      have hcl := fun W (hb : Below wr.heap.size wr W) => clone_Name (.slice av m cv) r.data.names[k] W (hnmr.below hb).1 (hnmr.below hb).2 (by have := hok.1; omega)
      have hc0 := hcl wr (Below.refl _ _)
      have HK2 := Lib.hid hk2
      have HTK := Lib.hid (show r.data.names.take (k + 1) = r.data.names.take k ++ [r.data.names[k]] from List.take_succ_eq_append_getElem hk2)
      generalize r.data.names[k] = nm at hc0 HTK
      clear hcl hnm hnmr hok ev hm hk1 hk2
      go_wp2_with fail
      refine hc0.mono ?_
      rintro e w2 ⟨v', rfl, hown, hb2⟩
      have HF2 := Lib.hid (HF.out.below hb2)
      have HB2 := Lib.hid (HB.out.trans (hb2.mono HB.out.size))
      obtain ⟨a2, c2, rfl⟩ := hown.shape
      obtain ⟨m2, hm2⟩ : ∃ m, nm.length = m := ⟨_, rfl⟩
      obtain ⟨vs', hv1, hv2, hv3⟩ := HO.out.below hb2
      have hvk : vs'.length = k := by rw [hv2, List.length_take]; have := HK2.out; omega
      have hown' : OwnG 9 strV w2 w.heap.size (slEnc (a2, m2, c2)) nm := by rw [← hm2]; exact hown.weaken HB.out.size
      have HV := Lib.hid (And.intro hv2 hv3)
      have HOWN := Lib.hid hown'
      have HC := Lib.hid (show [Value.slice a2 m2 c2] = [((a2, m2, c2) : SlV)].map slEnc from rfl)
      have hz2 := HB2.out.size
      have HVK := Lib.hid hvk
      rw [hm2]
      clear hv2 hv3 hown hown' hm2 hb2 hc0 hcell hvk
      go_wp2_with (at_builtin; refine wpl_append_g w2 rfl (.tmp 16) (.tmp 19) elemNames rfl slEnc_one w.heap.size (.slice ga k gc) vs' rfl hv1 [.slice a2 m2 c2] [((a2, m2, c2) : SlV)] HC.out 1 1 rfl rfl hz2 (by have := HVK.out; unfold maxLen; simp; omega) (by have := HVK.out; simp; omega) ?_; intro v3 w3 hown3 hg3)
      have HO3 : Hid (OwnNms w3 w.heap.size v3 (r.data.names.take (k + 1))) := by
        rw [HTK.out]
        exact Lib.hid (OwnNms.snoc hv1 HV.out.1 HV.out.2 HOWN.out hown3 hg3)
      have HF3 := Lib.hid (HF2.out.grown hv1 (by decide) (by decide) hg3)
      have HB3 := Lib.hid (HB2.out.grown hg3 hz2 hv1.base_le)
      obtain ⟨a3, c3, rfl⟩ := hown3.shape
      have hl3 : (vs' ++ [((a2, m2, c2) : SlV)]).length = k + 1 := by rw [List.length_append, HVK.out]; rfl
      rw [hl3] at HO3
      clear hown3 hg3 hv1
      go_roundw
      case measure => simp [intOf]; omega
      case rel => exact ⟨k + 1, a3, c3, by rw [hl3], by go_num, by omega, HO3, HF3, HB3⟩
    · obtain rfl : k = n := by omega
      have HO1 : Hid (OwnNms wr w.heap.size (.slice ga k gc) r.data.names) := by
        have h := HO.out
        rw [List.take_of_length_le (by have := HN.out; have := HSL.out; omega)] at h
        exact Lib.hid h
      have HFR1 : Hid (FrR w r (.slice ga k gc) (wr.setCell ⟨w.heap.size + 1 + 1, 1, none⟩ (.slice ga k gc))) := Lib.hid (FrR.put ⟨HO1.out, HB.out⟩ HF.out.d 1 _)
      have HF1 : Hid (FrB w (.slice ao no co) t x (.slice an k cn) (.slice au nu cu) (.slice ax nx cx) (.slice ar nr cr) (.slice ga k gc) (.slice au nu cu) (.slice ax nx cx) (.slice ar nr cr) (wr.setCell ⟨w.heap.size + 1 + 1, 1, none⟩ (.slice ga k gc))) := Lib.hid (HF.out.put 1 _ rfl)
      have d1 := kcell HF.out.d 1 _ rfl
      have f1 := kfrozen HF.out.d 1
      have d2 := kcell HF.out.d 2 _ rfl
      have d2' := kcell HF1.out.d 2 _ rfl
      have hcu := clone_u32 (.slice au nu cu) ((r.data.nums.map u32V).map fun x => [x]) (wr.setCell ⟨w.heap.size + 1 + 1, 1, none⟩ (.slice ga k gc)) (slK_one (HU.out.below HFR1.out.below)) (by simp) (by simp [u32V]; try (intros; rfl)) (by simp; have := HK.out.2.2.2.2.2.1; omega)
      clear HO HO1 HB HCL HS2
      go_wp2_with fail
      refine hcu.mono ?_
      rintro e w4 ⟨v4, rfl, ho4, hb4⟩
      obtain ⟨m4, hm4⟩ : ∃ m, r.data.nums.length = m := ⟨_, rfl⟩
      have ho4' : OwnG 24 u32V w4 w.heap.size v4 r.data.nums := by
        rw [List.map_map] at ho4
        exact (ownG_of_C ho4).weaken HFR1.out.below.size
      obtain ⟨a4, c4, rfl⟩ := ho4'.shape
      have hf4 := HF1.out.below hb4
      have HFRA := Lib.hid ((HFR1.out.next hb4).put hf4.d 2 (.slice a4 r.data.nums.length c4))
      have HFA := Lib.hid (hf4.put 2 (.slice a4 r.data.nums.length c4) rfl)
      have HNA := Lib.hid (ho4'.keptB hf4.d (by decide) 2 (.slice a4 r.data.nums.length c4))
      have d3 := kcell hf4.d 2 _ rfl
      have f3 := kfrozen hf4.d 2
      have d4 := kcell HFA.out.d 3 _ rfl
      have hcx := clone_str (.slice ax nx cx) ((r.data.texts.map strV).map fun x => [x]) _ (slK_one (nmAt_sl.1 (HTX.out.below HFRA.out.below))) (by simp) (by simp [strV]; try (intros; rfl)) (by simp; have := HK.out.2.2.2.2.2.2.2.1.1; omega)
      rw [hm4] at HFRA HFA HNA hcx d4 ⊢
      clear ho4 ho4' hf4 hb4 d1 f1 d2 d2' HFR1 HF1 HF hcu
      go_wp2_with fail
      refine hcx.mono ?_
      rintro e w5 ⟨v5, rfl, ho5, hb5⟩
      obtain ⟨m5, hm5⟩ : ∃ m, r.data.texts.length = m := ⟨_, rfl⟩
      have ho5' : OwnG 9 strV w5 w.heap.size v5 r.data.texts := by
        rw [List.map_map] at ho5
        exact (ownG_of_C ho5).weaken HFRA.out.below.size
      obtain ⟨a5, c5, rfl⟩ := ho5'.shape
      have hf5 := HFA.out.below hb5
      have HFRB := Lib.hid ((HFRA.out.next hb5).put hf5.d 3 (.slice a5 r.data.texts.length c5))
      have HFB := Lib.hid (hf5.put 3 (.slice a5 r.data.texts.length c5) rfl)
      have HNB := Lib.hid ((HNA.out.below hb5).keptB hf5.d (by decide) 3 (.slice a5 r.data.texts.length c5))
      have HXB := Lib.hid (ho5'.keptB hf5.d (by decide) 3 (.slice a5 r.data.texts.length c5))
      have d5 := kcell hf5.d 3 _ rfl
      have f5 := kfrozen hf5.d 3
      have d6 := kcell HFB.out.d 4 _ rfl
      have hcr := clone_byte (.slice ar nr cr) ((r.data.raw.map bv).map fun x => [x]) _ (slK_one (HRW.out.below HFRB.out.below)) (by simp) (by simp [bv]; try (intros; rfl)) (by simp; have := HK.out.2.2.2.2.2.2.2.2; omega)
      rw [hm5] at HFRB HFB HNB HXB hcr d6 ⊢
      clear ho5 ho5' hf5 hb5 d3 f3 d4 HFRA HFA HNA hcx
      go_wp2_with fail
      refine hcr.mono ?_
      rintro e w6 ⟨v6, rfl, ho6, hb6⟩
      obtain ⟨m6, hm6⟩ : ∃ m, r.data.raw.length = m := ⟨_, rfl⟩
      have ho6' : OwnG 5 bv w6 w.heap.size v6 r.data.raw := by
        rw [List.map_map] at ho6
        exact (ownG_of_C ho6).weaken HFRB.out.below.size
      obtain ⟨a6, c6, rfl⟩ := ho6'.shape
      have hf6 := HFB.out.below hb6
      have HFRC := Lib.hid ((HFRB.out.next hb6).put hf6.d 4 (.slice a6 r.data.raw.length c6))
      have HFC := Lib.hid (hf6.put 4 (.slice a6 r.data.raw.length c6) rfl)
      have HNC := Lib.hid ((HNB.out.below hb6).keptB hf6.d (by decide) 4 (.slice a6 r.data.raw.length c6))
      have HXC := Lib.hid ((HXB.out.below hb6).keptB hf6.d (by decide) 4 (.slice a6 r.data.raw.length c6))
      have HRC := Lib.hid (ho6'.keptB hf6.d (by decide) 4 (.slice a6 r.data.raw.length c6))
      have d7 := kcell hf6.d 4 _ rfl
      have f7 := kfrozen hf6.d 4
      rw [hm6] at HFRC HFC HNC HXC HRC ⊢
      clear ho6 ho6' hf6 hb6 d5 f5 d6 HFRB HFB HNB HXB hcr
      go_wp2_with fail
      have hSF0 : SF w r (.slice ao no co) t x (.slice an k cn) (.slice au nu cu) (.slice ax nx cx) (.slice ar nr cr) (.slice ga k gc) (.slice a4 m4 c4) (.slice a5 m5 c5) (.slice a6 m6 c6) (w6.setCell ⟨w.heap.size + 1 + 1, 4, none⟩ (.slice a6 m6 c6)) :=
        ⟨HFC.out.p, HFC.out.d, ⟨_, HFC.out.q, rfl⟩, ⟨HFRC.out.names, HNC.out, HXC.out, HRC.out⟩, HFRC.out.below⟩
      generalize w6.setCell ⟨w.heap.size + 1 + 1, 4, none⟩ (.slice a6 m6 c6) = wB at hSF0 ⊢
      have hS0 := hSF0.ss
      have HCN := Lib.hid (fun (W : World) (h : SS w r (.slice ao no co) t x (.slice an k cn) (.slice au nu cu) (.slice ax nx cx) (.slice ar nr cr) (.slice ga k gc) (.slice a4 m4 c4) (.slice a5 m5 c5) (.slice a6 m6 c6) W) => clone_Name (.slice ao no co) r.owner W (HA.out.below h.sf.below).1 (HA.out.below h.sf.below).2 (by have := HK.out.1.1; omega))
      have KS := Lib.hid (fun (W W' : World) (h : SS w r (.slice ao no co) t x (.slice an k cn) (.slice au nu cu) (.slice ax nx cx) (.slice ar nr cr) (.slice ga k gc) (.slice a4 m4 c4) (.slice a5 m5 c5) (.slice a6 m6 c6) W) (hb : Below W.heap.size W W') => (h.sf.keep hb).ss)
      have KP := Lib.hid (fun (W : World) (y0 y1 y2 y3 y4 y5 y6 : Value) (h : SS w r (.slice ao no co) t x (.slice an k cn) (.slice au nu cu) (.slice ax nx cx) (.slice ar nr cr) (.slice ga k gc) (.slice a4 m4 c4) (.slice a5 m5 c5) (.slice a6 m6 c6) W) => (((((((h.sf.put 0 y0).put 1 y1).put 2 y2).put 3 y3).put 4 y4).put 5 y5).put 6 y6).ss)
      have KD := Lib.hid (fun (W : World) (h : SS w r (.slice ao no co) t x (.slice an k cn) (.slice au nu cu) (.slice ax nx cx) (.slice ar nr cr) (.slice ga k gc) (.slice a4 m4 c4) (.slice a5 m5 c5) (.slice a6 m6 c6) W) => KS.out W W.drew h (below_drewQ (Below.refl _ _) 1))
      unfold SS at hS0 HCN KS KP KD
      clear hSF0 d7 f7 HFRC HFC HNC HXC HRC HU HTX HRW HNMS
      go_region_held3 (fun W => W.cell? ⟨w.heap.size, 0, none⟩ = some (.slice ao no co) ∧ W.cell? ⟨w.heap.size, 1, none⟩ = some (.int .u32 t) ∧ W.cell? ⟨w.heap.size + 1 + 1, 0, none⟩ = some (.int .i64 x) ∧ W.cell? ⟨w.heap.size + 1 + 1, 1, none⟩ = some (.slice ga k gc) ∧ W.cell? ⟨w.heap.size + 1 + 1, 2, none⟩ = some (.slice a4 m4 c4) ∧ W.cell? ⟨w.heap.size + 1 + 1, 3, none⟩ = some (.slice a5 m5 c5) ∧ W.cell? ⟨w.heap.size + 1 + 1, 4, none⟩ = some (.slice a6 m6 c6) ∧ SF w r (.slice ao no co) t x (.slice an k cn) (.slice au nu cu) (.slice ax nx cx) (.slice ar nr cr) (.slice ga k gc) (.slice a4 m4 c4) (.slice a5 m5 c5) (.slice a6 m6 c6) W)
        (first | with_reducible assumption | (with_reducible exact KD.out _ (by with_reducible assumption)) | (with_reducible exact KP.out _ _ _ _ _ _ _ _ (by with_reducible assumption)))
        (first | ((with_reducible refine (HCN.out _ (by with_reducible assumption)).mono ?_); rintro e w7 ⟨v7, rfl, ho7, hb7⟩; obtain ⟨a7, c7, rfl⟩ := ho7.shape; have hS2 := KS.out _ _ (by assumption) hb7; have hq7 := hS2.2.2.2.2.2.2.2.q; obtain ⟨cs7, hq7, hs7⟩ := hq7; obtain ⟨q0, q1, q2, q3, q4, q5, q6, rfl⟩ := arr7 hs7; have fz0 := kfrozen hq7 0; have cl0 := kcell hq7 0 _ rfl; have fz1 := kfrozen hq7 1; have cl1 := kcell hq7 1 _ rfl; have fz2 := kfrozen hq7 2; have cl2 := kcell hq7 2 _ rfl; have fz3 := kfrozen hq7 3; have cl3 := kcell hq7 3 _ rfl; have fz4 := kfrozen hq7 4; have cl4 := kcell hq7 4 _ rfl; have fz5 := kfrozen hq7 5; have cl5 := kcell hq7 5 _ rfl; have fz6 := kfrozen hq7 6; have cl6 := kcell hq7 6 _ rfl))
      go_wp2_with fail
      have HS7 := hS2.2.2.2.2.2.2.2
      have hsz : w.heap.size ≤ wB.heap.size := hS0.2.2.2.2.2.2.2.below.size
      have hown7 : OwnG 9 strV w7 w.heap.size (.slice a7 r.owner.length c7) r.owner := ho7.weaken hsz
      clear ho7
      have hb_0 := block_set hq7 0 (.slice a7 r.owner.length c7)
      have ho_0 := hown7.keptB hq7 (by decide) 0 (.slice a7 r.owner.length c7)
      have hb_1 := block_set hb_0 1 (.int .u32 t)
      have ho_1 := ho_0.keptB hb_0 (by decide) 1 (.int .u32 t)
      have hb_2 := block_set hb_1 2 (.int .i64 x)
      have ho_2 := ho_1.keptB hb_1 (by decide) 2 (.int .i64 x)
      have hb_3 := block_set hb_2 3 (.slice ga k gc)
      have ho_3 := ho_2.keptB hb_2 (by decide) 3 (.slice ga k gc)
      have hb_4 := block_set hb_3 4 (.slice a4 m4 c4)
      have ho_4 := ho_3.keptB hb_3 (by decide) 4 (.slice a4 m4 c4)
      have hb_5 := block_set hb_4 5 (.slice a5 m5 c5)
      have ho_5 := ho_4.keptB hb_4 (by decide) 5 (.slice a5 m5 c5)
      have hb_6 := block_set hb_5 6 (.slice a6 m6 c6)
      have ho_6 := ho_5.keptB hb_5 (by decide) 6 (.slice a6 m6 c6)
      have hsN := (((((((HS7.put 0 (.slice a7 r.owner.length c7)).put 1 (.int .u32 t)).put 2 (.int .i64 x)).put 3 (.slice ga k gc)).put 4 (.slice a4 m4 c4)).put 5 (.slice a5 m5 c5)).put 6 (.slice a6 m6 c6))
      have hqN : (_ : World).heap[w.heap.size + 1]? = some (.cells #[.slice a7 r.owner.length c7, .int .u32 t, .int .i64 x, .slice ga k gc, .slice a4 m4 c4, .slice a5 m5 c5, .slice a6 m6 c6] 31) := hb_6
      refine bodyPost_ret (results_rec rfl _ _ rfl hqN) rfl ?_
      exact ⟨[.slice a7 r.owner.length c7, .int .u32 t, .int .i64 x, .slice ga k gc, .slice a4 m4 c4, .slice a5 m5 c5, .slice a6 m6 c6], rfl, ⟨_, _, _, _, _, by rw [HT.out, HX.out], ho_6, hsN.row⟩, hsN.below⟩
end Go.Proofs.YtfcdajldpnomfaaGreatDoor

