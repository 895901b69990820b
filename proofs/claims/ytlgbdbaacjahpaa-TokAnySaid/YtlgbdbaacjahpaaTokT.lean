/-
  The program's scan: tok.scan's endWord, openAt, shut.
-/
import Derived.Test.YtlgbdbaacjahpaaTokS
import Derived.Deep.RegionLaw
namespace Go.Proofs.Ytlgbdbaacjahpaa
open Go.RowKit Go.Shelf
set_option maxRecDepth 20000

theorem elemW : ElemK 2 37 30 24 := ⟨Try.underlying30, _, _, rfl, rfl, rfl, rfl, rfl⟩
theorem encW_one (t : TW) : ∀ u ∈ encW t, u.oneCell' = true := by intro u hu; simp [encW] at hu; rcases hu with rfl | rfl <;> rfl
theorem flat_encB (l : List UInt8) : l.flatMap encB = l.map bv := by
  induction l with
  | nil => rfl
  | cons c l ih => rw [List.flatMap_cons, ih]; rfl
theorem OwnK.string {W : World} {base : Nat} {v : Value} {xs : List UInt8} (h : OwnK 1 5 encB W base v xs) : (convert 45 9 v).run Try.prog W = .ok (.string ⟨xs.toArray⟩) W := by
  refine OwnU8.string (base := base) ?_
  unfold OwnK at h
  rw [flat_encB] at h
  exact h
/-- The word's end: the row is cut to nothing. -/
theorem scan_reset {W : World} {B base : Nat} {vd ve vo : Value} {a : Option Addr} {m cp : Nat} {y : KS} (hb : W.heap[B]? = some (.cells (sCells vd ve vo (.slice a m cp) y) 47)) (hr : SRow W base vd ve vo (.slice a m cp) y) :
    SBox (((W.setCell ⟨B, 9, none⟩ (.slice a 0 cp)).setCell ⟨B, 10, none⟩ (.bool false)).setCell ⟨B, 11, none⟩ (.bool false)) B base { y with word := [], inW := false, quoted := false } := by
  have h9 := kset hb 9 (.slice a 0 cp)
  have h10 := kset h9 10 (.bool false)
  have hr' : SRow W base vd ve vo (.slice a 0 cp) { y with word := [], inW := false, quoted := false } := ⟨hr.1, hr.2.1, hr.2.2.1, by have := OwnK.cut hr.2.2.2 0 (Nat.zero_le _) (fun _ => rfl); rw [List.take_zero] at this; exact this⟩
  exact ⟨vd, ve, vo, .slice a 0 cp, kset h10 11 _, ((hr'.set hb 9 _).set h9 10 _).set h10 11 _⟩
theorem scan_resetB {w W : World} {B base : Nat} {u v x : Value} (h : Fr base w W) (hBB : RBox base w B) : Fr base w (((W.setCell ⟨B, 9, none⟩ u).setCell ⟨B, 10, none⟩ v).setCell ⟨B, 11, none⟩ x) :=
  ((h.setCell (p := ⟨B, 9, none⟩) hBB _).setCell (p := ⟨B, 10, none⟩) hBB _).setCell (p := ⟨B, 11, none⟩) hBB _
theorem OwnEs.appended {W W' : World} {base : Nat} {v ve v' : Value} {l : List Ent} {xs : List TW} {gg : Nat} (h : OwnEs W base v ve l) (hW : OwnK 2 37 encW W base ve xs) (hg : W.grownBy W' ve.ownBlock) (hat : ve.ownBlock = some gg ∨ W.heap.size ≤ gg) (hv : v'.ownBlock = some gg) : OwnEs W' base v v' l := by
  obtain ⟨ds, g1, g2, g3⟩ := h
  refine ⟨ds, g1.kept2 hW (by decide) hg, g2, fun j a b => ?_⟩
  obtain ⟨k1, k2, k3, k4⟩ := g3 j a b
  refine ⟨k1, k2, OwnK.kept k3 hg k4, ?_⟩
  rw [hv]
  rcases k4 with h4 | h4
  · exact .inl h4
  · right
    rcases hat with e | e
    · rw [← e]; exact h4
    · intro e2
      have := OwnK.lt k3 gg e2
      omega
theorem endWord_fin {w w1 : World} {B base : Nat} {x : KS} {vd vo : Value} {ae a : Option Addr} {n ce m cp gg cap : Nat} (hin : x.inW = true) (hn : x.ewords.length = n) (hB : w.heap[B]? = some (.cells (sCells vd (.slice ae n ce) vo (.slice a m cp) x) 47)) (hR : SRow w base vd (.slice ae n ce) vo (.slice a m cp) x) (hbase : base ≤ w.heap.size) (hBb : base ≤ B)
    (hown : w1.ownsRow base 37 2 (.slice (some ⟨gg, 0, none⟩) (n + 1) cap) (n + 1) (x.ewords.flatMap encW ++ [.string ⟨x.word.toArray⟩, .bool x.quoted])) (hg : w.grownBy w1 (Value.slice ae n ce).ownBlock) (hat : (Value.slice ae n ce).ownBlock = some gg ∨ gg = w.heap.size + 1) :
    ScanPost B base (kEndWord x) w (.returned (.tuple #[])) ((((w1.setCell ⟨B, 3, none⟩ (.slice (some ⟨gg, 0, none⟩) (n + 1) cap)).setCell ⟨B, 9, none⟩ (.slice a 0 cp)).setCell ⟨B, 10, none⟩ (.bool false)).setCell ⟨B, 11, none⟩ (.bool false)) := by
  have hW : OwnK 2 37 encW w base (.slice ae n ce) x.ewords := hR.2.1
  have hBB : RBox base w B := ⟨hBb, _, hB⟩
  have hb1 := (hg.block B (kblock_lt hB) (hW.ne_block hB (by decide))).trans hB
  have e : kEndWord x = { ({ x with ewords := x.ewords ++ [(x.word, x.quoted)] } : KS) with word := [], inW := false, quoted := false } := by
    unfold kEndWord; rw [hin]; rfl
  have hown' : OwnK 2 37 encW w1 base (.slice (some ⟨gg, 0, none⟩) (n + 1) cap) (x.ewords ++ [(x.word, x.quoted)]) := by
    unfold OwnK
    rw [List.length_append, hn, List.flatMap_append]
    exact hown
  have hr1 : SRow w1 base vd (.slice (some ⟨gg, 0, none⟩) (n + 1) cap) vo (.slice a m cp) { x with ewords := x.ewords ++ [(x.word, x.quoted)] } :=
    ⟨hR.1.appended (gg := gg) hW hg (by rcases hat with h | h; exact .inl h; exact .inr (by omega)) rfl, hown', OwnK.kept2 hR.2.2.1 hW (by decide) hg, OwnK.kept2 hR.2.2.2 hW (by decide) hg⟩
  rw [e]
  exact ⟨rfl, scan_reset (kset hb1 3 _) (hr1.set hb1 3 _), scan_resetB (((Fr.refl base w).grown hg hbase (hW.far (by decide))).setCell (p := ⟨B, 3, none⟩) hBB _) hBB⟩
set_option maxRecDepth 100000 in
set_option maxHeartbeats 4000000 in
theorem scan_endWord (B base : Nat) (x : KS) (w : World) (hS : SBox w B base x) (hbase : base ≤ w.heap.size) (hBb : base ≤ B) (hl : x.ewords.length ≤ 1048576) (hlw : x.word.length ≤ 1048576) :
    Calls Try.prog 21 #[.pointer (some ⟨B, 0, none⟩)] w (ScanPost B base (kEndWord x) w) := by
  have hBB := hS.rbox hBb
  obtain ⟨vd, ve, vo, vw, hbx, hrow⟩ := hS
  obtain ⟨m, hm⟩ : ∃ m, x.word.length = m := ⟨_, rfl⟩
  obtain ⟨n, hn⟩ : ∃ n, x.ewords.length = n := ⟨_, rfl⟩
  obtain ⟨a, cp, rfl⟩ := hrow.2.2.2.shape
  obtain ⟨ae, ce, rfl⟩ := hrow.2.1.shape
  rw [hm, hn] at hbx hrow
  have hc10 := kcell hbx 10 (.bool x.inW) rfl
  have hc11 := kcell hbx 11 (.bool x.quoted) rfl
  have hc9 := kcell hbx 9 (.slice a m cp) rfl
  have hc3 := kcell hbx 3 (.slice ae n ce) rfl
  have hf3 := kfrozen hbx 3
  have hf9 := kfrozen hbx 9
  have hf10 := kfrozen hbx 10
  have hf11 := kfrozen hbx 11
  have HB := Lib.hid hbx; have HR := Lib.hid hrow; have HM := Lib.hid hm; have HN := Lib.hid hn
  have HL := Lib.hid hl; have HLW := Lib.hid hlw
  clear hbx hrow hm hn hl hlw
  have hcv := OwnK.string HR.out.2.2.2
  have hW : OwnWs w base (.slice ae n ce) x.ewords := HR.out.2.1
  unfold OwnWs at hW
  cases hin : x.inW
  · rw [hin] at hc10
    have HI := Lib.hid hin
    clear hin
    go_enter Try.func21, Try.ntmps21
    go_wp2_with fail
    go_end0
    have e : kEndWord x = { x with word := [], inW := false, quoted := false } := by
      unfold kEndWord; rw [HI.out]; rfl
    rw [e]
    exact ⟨rfl, scan_reset HB.out HR.out, scan_resetB (Fr.refl base w) hBB⟩
  · rw [hin] at hc10
    have HI := Lib.hid hin
    have HC := Lib.hid (show [Value.string ⟨x.word.toArray⟩, .bool x.quoted] = [((x.word, x.quoted) : TW)].flatMap encW from rfl)
    have hnb : n ≤ 1048576 := by have := HL.out; have := HN.out; omega
    clear hin
    go_enter Try.func21, Try.ntmps21
    have HBw := Lib.hid (hW.ne_block HB.out (by decide))
    have HOW := Lib.hid (show w.ownsRow base 37 2 (.slice ae n ce) n (x.ewords.flatMap encW) by have h := hW; unfold OwnK at h; rw [HN.out] at h; exact h)
    have HCV := Lib.hid (show (convert 45 9 (.slice a m cp)).run Try.prog w.drew = .ok (.string ⟨x.word.toArray⟩) w.drew from OwnK.string (OwnK.below HR.out.2.2.2 (kdrew (Below.refl _ w))))
    have hcv2 := HCV.out
    have hB3 := kblock_lt HB.out
    obtain ⟨i0, z0, hi0, hz0, hz1, hz2, hz3⟩ := elemW.info
    clear hf9 hf10 hf11 hcv
    go_wp2_with fail
    go_region_law ((refine step_append_lies _ (by rfl) _ _ _ (by rfl) base 37 i0 z0 2 24 elemW.ht hi0 hz0 hz1 hz2 hz3 (by decide) (.slice ae n ce) n (x.ewords.flatMap encW) (by rfl) ((World.ownsRow.alloc HOW.out _).drew) ⟨w.heap.size, 0, none⟩ 1 1 [.string ⟨x.word.toArray⟩, .bool x.quoted] (by rfl) (by rfl) (World.news_of_block (cs := #[.string ⟨x.word.toArray⟩, .bool x.quoted]) (t := 37) (fr := (0, 0)) (heap_alloc_new w _)) (by simp [Value.oneCell']) (by omega) (by unfold maxLen; omega) (by omega) (by simp; omega) (w.heap.size + 1) (by simp) ?_; intro gg cap w1 hown1 hgrow hat hlt; have hgw := kg_trans (kg_trans (kg_alloc w _ _) (kg_drew _ _)) hgrow; have hbk1 := Lib.hid ((hgw.block B hB3 HBw.out).trans HB.out); have hc31 := kcell hbk1.out 3 (.slice ae n ce) rfl; have hf31 := kfrozen hbk1.out 3))
    all_goals
      have hc91 := kcell hbk1.out 9 (.slice a m cp) rfl
      have hc101 := kcell hbk1.out 10 (.bool x.inW) rfl
      have hc111 := kcell hbk1.out 11 (.bool x.quoted) rfl
      have hf91 := kfrozen hbk1.out 9
      have hf101 := kfrozen hbk1.out 10
      have hf111 := kfrozen hbk1.out 11
      have HO1 := Lib.hid hown1; have HG1 := Lib.hid hgw; have HT1 := Lib.hid hat
      clear hc9 hc10 hc11 hc3 hf3 hown1 hgw hat hgrow hlt hcv2 hW hz0 hz1 hz2 hz3 hi0 hc31 hf31
      go_wp2_with fail
      go_end0
      exact endWord_fin HI.out HN.out HB.out HR.out hbase hBb HO1.out HG1.out HT1.out
end Go.Proofs.Ytlgbdbaacjahpaa
