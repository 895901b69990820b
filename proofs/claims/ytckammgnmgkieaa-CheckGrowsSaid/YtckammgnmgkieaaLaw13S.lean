/-
  law13.CheckStands: true for any zone.
-/
import Derived.Test.YtckammgnmgkieaaLaw13K
namespace Go.Proofs.Ytckammgnmgkieaa
open Go.RowKit Go.Shelf
set_option maxRecDepth 20000
set_option linter.unusedVariables false
set_option linter.unusedSimpArgs false
theorem word_ne (k : Int) (h1 : 1 ≤ k) (h2 : k ≤ 9) : (wordF k).toList.isEmpty = false := by
  have : k = 1 ∨ k = 2 ∨ k = 3 ∨ k = 4 ∨ k = 5 ∨ k = 6 ∨ k = 7 ∨ k = 8 ∨ k = 9 := by omega
  rcases this with rfl | rfl | rfl | rfl | rfl | rfl | rfl | rfl | rfl <;> decide +kernel
theorem allF_len (o : Nm) (c : List Rc) : (allF o c).length ≤ 2 + c.length * 6 := by
  unfold allF flawsM
  rw [List.length_append]
  have h1 := (at0_apart o c).2.2.1
  have h2 := flatMap_len6 (fun s => (kindsM o c (setsM c) s).map fun k => (⟨k, s.owner, s.ty⟩ : Fl)) (fun s => by rw [List.length_map]; exact kinds_few _ _ _ _ _) (setsM c)
  have h3 := sets_leL _ c (Nat.le_refl _)
  omega
/-- What check.Zone tells of a good zone. -/
structure FZone (W : World) (b off n : Nat) (fs all : List Fl) (o : Nm) : Prop where
  perm : fs.Perm all
  up : fs.Pairwise fun a b => compareF a b < 0
  kind : ∀ f ∈ fs, 1 ≤ f.kind ∧ f.kind ≤ 9
  few : fs.length ≤ 400
set_option maxRecDepth 100000 in
set_option maxHeartbeats 16000000 in
theorem law13_CheckStands {w : World} (vo vl : Value) (o : Nm) (l : List Rc) (hO : NmArg w vo o) (hL : RowArg w vl l) :
    Calls Try.prog 4 #[vo, vl] w fun e w' => e = .returned (.bool true) ∧ Below w.heap.size w w' := by
  have hkn := law13_known w
  have HG1 := Lib.hid (fun (W : World) (hb : Below w.heap.size w W) => law12_Good vo vl o l w W hO hL hb)
  have HNO := Lib.hid hO.1
  have HLR := Lib.hid hL.row
  have HLOK := Lib.hid hL.ok
  clear hO hL
  go_enter Try.func4, Try.ntmps4
  go_wp2_with fail
  refine hkn.mono ?_
  rintro e w1 ⟨rfl, hb1⟩
  have HB1 := Lib.hid hb1
  have hc := HG1.out w1 hb1
  clear hkn hb1 HG1
  go_wp2_with fail
  refine hc.mono ?_
  rintro e w2 ⟨rfl, hb2⟩
  have HB2 := Lib.hid (HB1.out.trans (hb2.mono HB1.out.size))
  clear hb2 hc HB1
  obtain ⟨g1, hg1⟩ : ∃ g, (goodN o && goodRs l) = g := ⟨_, rfl⟩
  have HGG1 := Lib.hid hg1
  rw [hg1]
  clear hg1
  cases g1
  · go_wp2
    go_ret
    exact ⟨rfl, HB2.out⟩
  have hg := HGG1.out
  simp only [Bool.and_eq_true] at hg
  have hko : NmOK o := fewN_ok (by have := hg.1; unfold goodN at this; simp only [Bool.and_eq_true] at this; exact this.1)
  have hfr : fewRs l = true := by
    have := hg.2
    unfold goodRs at this; simp only [Bool.and_eq_true] at this; exact this.1
  obtain ⟨hl60, hokl⟩ := HLOK.out hfr
  have HKO := Lib.hid hko; have HOKL := Lib.hid hokl; have HL60 := Lib.hid hl60
  have hc := zone_New vo vl o l (HNO.out.below HB2.out) HKO.out (HLR.out.below HB2.out) HOKL.out (by omega)
  clear hg hko hfr hl60 hokl HGG1 HLOK
  go_wp2_with fail
  refine hc.mono ?_
  rintro e w3 ⟨za, zn, zc, v1, m, c, rfl, hZ, hb3⟩
  have HB3 := Lib.hid (HB2.out.trans (hb3.mono HB2.out.size))
  have hc3 := check_Zone hZ (canonM_again l)
  clear hc hZ hb3 HB2
  go_wp2_with fail
  refine hc3.mono ?_
  rintro e w4 ⟨v, css, fs, rfl, hs4, hf4, hp4, ho4, hb4⟩
  have hup := flaws_stand hp4 (allF_apart o (canonM_can l).up) ho4
  have hkd : ∀ f ∈ fs, 1 ≤ f.kind ∧ f.kind ≤ 9 := fun f hf => allF_kind f (hp4.subset hf)
  have hokf : ∀ f ∈ fs, NmOK f.owner := fun f hf => by
    have h := hp4.subset hf
    unfold allF flawsM at h
    rcases List.mem_append.1 h with h | h
    · rw [(at0_apart o (canonM l)).2.2.2 f h]; exact HKO.out
    · obtain ⟨s, hs, h⟩ := List.mem_flatMap.1 h
      obtain ⟨k, _, rfl⟩ := List.mem_map.1 h
      exact (sets_ok HOKL.out hs).1
  have hfew : fs.length ≤ 400 := by
    rw [hp4.length_eq]
    have h1 := allF_len o (canonM l)
    have h2 := canonM_length l
    have h3 := HL60.out
    omega
  obtain ⟨a4, c4, rfl⟩ : ∃ a c, v = .slice a fs.length c := by
    obtain ⟨a, c, e, _⟩ := id hs4
    exact ⟨a, c, by rw [e, hf4.1]⟩
  have hel : ∀ k (hk : k < fs.length), ∃ b off, a4 = some ⟨b, off, none⟩ ∧ ∀ j (hj : j < fs.length), ∃ x : Option Addr × Nat × Nat, NmAt w4 (slV x) fs[j].owner ∧ ∀ W', Below w4.heap.size w4 W' → W'.cell? ⟨b, off + j * 3, none⟩ = some (.int .i64 fs[j].kind) ∧ W'.cell? ⟨b, off + j * 3 + 1, none⟩ = some (slV x) ∧ W'.cell? ⟨b, off + j * 3 + 2, none⟩ = some (.int .i64 fs[j].ty) := fun k hk => by
    obtain ⟨b, off, e, _, _, h⟩ := fls_elem hs4 hf4 (by omega)
    exact ⟨b, off, e, h⟩
  have HEL := Lib.hid hel; have HUP := Lib.hid hup; have HKD := Lib.hid hkd; have HOKF := Lib.hid hokf
  have HB4 := Lib.hid (HB3.out.trans (hb4.mono HB3.out.size))
  obtain ⟨q, hq⟩ : ∃ q, fs.length = q := ⟨_, rfl⟩
  rw [hq] at hfew ⊢
  have HQ := Lib.hid hq
  clear hc3 hs4 hf4 hp4 ho4 hb4 hup hkd hokf hel hq HB3
  go_wp2
  go_loopw [6] (fun vi wr => ∃ k : Nat, vi = .int .i64 k ∧ k ≤ q ∧ Hid (Below w4.heap.size w4 wr)) (fun vi _ => q - (intOf vi).toNat)
  case atStart => exact ⟨0, rfl, Nat.zero_le _, Lib.hid (Below.refl _ _)⟩
  case round =>
    obtain ⟨k, rfl, hk, HB⟩ := hrel
    by_cases hlt : k < q
    · have hltz : (k : Int) < (q : Int) := by omega
      have hk2 : k < fs.length := by have := HQ.out; omega
      obtain ⟨b, off, rfl, hcs⟩ := HEL.out k hk2
      obtain ⟨⟨y0, y1, y2⟩, hny, hcy⟩ := hcs k hk2
      have hkk := HKD.out _ (List.getElem_mem hk2)
      have hoy := HOKF.out _ (List.getElem_mem hk2)
      have hC := fun p : WIn (fun W => Below wr.heap.size wr W) => hcy p.w (HB.out.trans (p.ok.mono HB.out.size))
      have hqw : ∀ p : WIn (fun W => Below wr.heap.size wr W), Calls Try.prog 11 #[.int .i64 fs[k].kind] p.w fun e w' => e = .returned (.string (wordF fs[k].kind)) ∧ ∃ q : WIn (fun W => Below wr.heap.size wr W), w' = q.w := fun p =>
        Calls.cls (C := fun W => Below wr.heap.size wr W) ((check_Word fs[k].kind p.w).mono fun _ _ ⟨hq, hb⟩ => ⟨hq, hb ▸ p.ok⟩)
      have hwn := word_ne _ hkk.1 hkk.2
      have hne : Nonempty (WIn (fun W => Below wr.heap.size wr W)) := ⟨⟨wr, Below.refl _ _⟩⟩
      have hcl : Below wr.heap.size wr wr.drew := ⟨rfl, rfl, rfl, Nat.le_refl _, fun _ _ => rfl⟩
      rcases Nat.eq_zero_or_pos k with h0 | h0
      · subst h0
        have g0 := fun p => (hC p).1
        simp only [Nat.zero_mul, Nat.add_zero] at g0
        obtain ⟨kd, hkd⟩ : ∃ kd, fs[0].kind = kd := ⟨_, rfl⟩
        rw [hkd] at hqw hwn
        simp only [hkd] at g0
        obtain ⟨wd, hwd⟩ : ∃ wd, wordF kd = wd := ⟨_, rfl⟩
        rw [hwd] at hqw hwn
        clear hC hcs hny hcy hkk hoy hkd hwd hk2
        go_wp2_with fail
        refine wp_region_cls (fun W => Below wr.heap.size wr W) follows_mixed (by kernel_rfl) hcl ?_
        repeat (go_big_quiet_step (first | with_reducible exact hqw _))
        refine wpQuiet_nil ?_
        rintro W9 ⟨p9, hp9⟩
        have hok := p9.ok
        rw [← hp9] at hok
        have HF := Lib.hid (HB.out.trans (hok.mono HB.out.size))
        clear hp9 p9 hok g0 hqw hne hcl
        go_wp2
        go_roundw
        case measure => simp [intOf]; omega
        case rel => exact ⟨1, by go_num, by omega, HF⟩
      · obtain ⟨j, hjk⟩ : ∃ j, k = j + 1 := ⟨k - 1, by omega⟩
        have hj2 : j < fs.length := by omega
        obtain ⟨⟨x0, x1, x2⟩, hnx, hcx⟩ := hcs j hj2
        have hox := HOKF.out _ (List.getElem_mem hj2)
        have hlo : compareF fs[j] fs[k] < 0 := List.pairwise_iff_getElem.1 HUP.out j k hj2 hk2 (by omega)
        have hD := fun p : WIn (fun W => Below wr.heap.size wr W) => hcx p.w (HB.out.trans (p.ok.mono HB.out.size))
        have hqc : ∀ p : WIn (fun W => Below wr.heap.size wr W), Calls Try.prog 10 #[.agg #[.int .i64 fs[j].kind, .slice x0 x1 x2, .int .i64 fs[j].ty], .agg #[.int .i64 fs[k].kind, .slice y0 y1 y2, .int .i64 fs[k].ty]] p.w fun e w' => e = .returned (.int .i64 (compareF fs[j] fs[k])) ∧ ∃ q : WIn (fun W => Below wr.heap.size wr W), w' = q.w := fun p =>
          Calls.cls (C := fun W => Below wr.heap.size wr W) ((check_Compare [.int .i64 fs[j].kind, .slice x0 x1 x2, .int .i64 fs[j].ty] [.int .i64 fs[k].kind, .slice y0 y1 y2, .int .i64 fs[k].ty] fs[j] fs[k] p.w ⟨_, rfl, hnx.below (HB.out.trans (p.ok.mono HB.out.size))⟩ ⟨_, rfl, hny.below (HB.out.trans (p.ok.mono HB.out.size))⟩ hox hoy).mono fun _ _ ⟨hq, hb⟩ => ⟨hq, p.ok.trans (hb.mono p.ok.size)⟩)
        have g0 := fun p => (hC p).1; have g1 := fun p => (hC p).2.1; have g2 := fun p => (hC p).2.2
        have i0 := fun p => (hD p).1; have i1 := fun p => (hD p).2.1; have i2 := fun p => (hD p).2.2
        simp only [slV] at g1 i1
        obtain ⟨kd, hkd⟩ : ∃ kd, fs[k].kind = kd := ⟨_, rfl⟩
        obtain ⟨kt, hkt⟩ : ∃ kd, fs[k].ty = kd := ⟨_, rfl⟩
        obtain ⟨jd, hjd⟩ : ∃ kd, fs[j].kind = kd := ⟨_, rfl⟩
        obtain ⟨jt, hjt⟩ : ∃ kd, fs[j].ty = kd := ⟨_, rfl⟩
        obtain ⟨cf, hcf⟩ : ∃ cf, compareF fs[j] fs[k] = cf := ⟨_, rfl⟩
        rw [hcf] at hqc hlo
        rw [hkd, hkt, hjd, hjt] at hqc
        rw [hkd] at hqw hwn
        simp only [hkd] at g0
        simp only [hkt] at g2
        simp only [hjd] at i0
        simp only [hjt] at i2
        obtain ⟨wd, hwd⟩ : ∃ wd, wordF kd = wd := ⟨_, rfl⟩
        rw [hwd] at hqw hwn
        have hge : decide ((0 : Int) ≤ cf) = false := decide_eq_false (by omega)
        have hjz : (k : Int) - 1 = (j : Int) := by omega
        have hjp : (0 : Int) < (k : Int) := by omega
        have hjw : IntKind.i64.wrap (j : Int) = (j : Int) := IntWalk.i64_in _ (by omega)
        have hjl : (j : Int) < (q : Int) := by omega
        have HJK := Lib.hid hjk
        clear hjk
        clear hC hD hcs hny hcy hnx hcx hkk hoy hox hkd hkt hjd hjt hcf hwd hk2 hj2 hlo
        go_wp2_with fail
        refine wp_region_cls (fun W => Below wr.heap.size wr W) follows_mixed (by kernel_rfl) hcl ?_
        repeat (go_big_quiet_step (first | with_reducible exact hqc _ | with_reducible exact hqw _))
        refine wpQuiet_nil ?_
        rintro W9 ⟨p9, hp9⟩
        have hok := p9.ok
        rw [← hp9] at hok
        have HF := Lib.hid (HB.out.trans (hok.mono HB.out.size))
        clear hp9 p9 hok g0 g1 g2 i0 i1 i2 hqw hqc hne hcl
        go_wp2
        go_roundw
        case measure => simp [intOf]; omega
        case rel => exact ⟨k + 1, by go_num, by omega, HF⟩
    · go_wp2
      go_ret
      exact ⟨rfl, HB4.out.trans (HB.out.mono HB4.out.size)⟩
end Go.Proofs.Ytckammgnmgkieaa
