/-
  The document's Lexer in memory: end.
-/
import Derived.Test.YtlgbdbaacjahpaaTokL
import Derived.Deep.RegionLaw
namespace Go.Proofs.Ytlgbdbaacjahpaa
open Go.RowKit Go.Shelf
set_option maxRecDepth 20000

theorem elemRE : ElemK 3 35 27 40 := ⟨Try.underlying27, _, _, rfl, rfl, rfl, rfl, rfl⟩
theorem REs.push {W W' : World} {base : Nat} {v v' : Value} {l : List Ent} {ws : List TW} {ds : List EntV} {ln : Nat} {bl : Bool} {s : Option Addr × Nat × Nat} (hds : OwnK 3 35 encE W base v ds) (hl : ds.length = l.length)
    (hall : ∀ j (h1 : j < ds.length) (h2 : j < l.length), ds[j].1 = l[j].line ∧ ds[j].2.1 = l[j].blank ∧ RWs W base (slE ds[j].2.2) l[j].words)
    (hw : RWs W base (slE s) ws) (hg : W.grownBy W' v.ownBlock) (hown : OwnK 3 35 encE W' base v' (ds ++ [(ln, bl, s)])) : REs W' base v' (l ++ [⟨ln, bl, ws⟩]) := by
  refine ⟨ds ++ [(ln, bl, s)], hown, by simp [hl], fun j h1 h2 => ?_⟩
  by_cases hj : j < ds.length
  · obtain ⟨k1, k2, k3⟩ := hall j hj (by omega)
    rw [List.getElem_append_left hj, List.getElem_append_left (by omega)]
    exact ⟨k1, k2, OwnK.kept2 k3 hds (by decide) hg⟩
  · have hjl : j = ds.length := by simp at h1; omega
    subst hjl
    have e1 : (ds ++ [((ln, bl, s) : EntV)])[ds.length]'h1 = (ln, bl, s) := by simp
    have e2 : (l ++ [(⟨ln, bl, ws⟩ : Ent)])[ds.length]'h2 = ⟨ln, bl, ws⟩ := by simp [hl]
    rw [e1, e2]
    exact ⟨rfl, rfl, OwnK.kept2 hw hds (by decide) hg⟩
theorem REs.keptB {W : World} {B base : Nat} {cs : Array Value} {v : Value} {l : List Ent} (h : REs W base v l) (hB : W.heap[B]? = some (.cells cs 54)) (j : Nat) (u : Value) : REs (W.setCell ⟨B, j, none⟩ u) base v l := by
  refine h.kept (kgrown_set W B j u) ?_ ?_
  · obtain ⟨ds, g1, _⟩ := h
    exact .inr (fun e => g1.ne_block hB (by decide) e.symm)
  · rintro v ⟨xs, hv⟩
    exact .inr (fun e => OwnK.ne_block hv hB (by decide) e.symm)
theorem lrest_box {W : World} {B base : Nat} {vo ve : Value} {z : LS} (hb : W.heap[B]? = some (.cells (lCells vo ve z) 54)) (h1 : REs W base vo z.out) :
    LBox ((((W.setCell ⟨B, 1, none⟩ (.int .i64 0)).setCell ⟨B, 2, none⟩ (.bool false)).setCell ⟨B, 3, none⟩ (.slice none 0 0)).setCell ⟨B, 4, none⟩ (.bool false)) B base { z with eline := 0, eblank := false, ewords := [], on := false } := by
  have g1 := kset hb 1 (.int .i64 0)
  have g2 := kset g1 2 (.bool false)
  have g3 := kset g2 3 (.slice none 0 0)
  have hr : LRow W base vo (.slice none 0 0) { z with eline := 0, eblank := false, ewords := [], on := false } := ⟨h1, OwnK.nil _ _⟩
  exact ⟨vo, .slice none 0 0, kset g3 4 _, (((hr.set hb 1 _).set g1 2 _).set g2 3 _).set g3 4 _⟩
theorem lrest_boxB {w W : World} {B base : Nat} {u v x y : Value} (h : Below base w W) (hBb : base ≤ B) : Below base w ((((W.setCell ⟨B, 1, none⟩ u).setCell ⟨B, 2, none⟩ v).setCell ⟨B, 3, none⟩ x).setCell ⟨B, 4, none⟩ y) :=
  (((h.setCell (p := ⟨B, 1, none⟩) hBb _).setCell (p := ⟨B, 2, none⟩) hBb _).setCell (p := ⟨B, 3, none⟩) hBb _).setCell (p := ⟨B, 4, none⟩) hBb _
theorem lend_fin {w wz w1 : World} {B base : Nat} {z : LS} {ds : List EntV} {ad ae : Option Addr} {nd cd n ce gg cap : Nat} (ho : ¬ 0 < z.opn) (he : z.ewords ≠ []) (hnd : ds.length = nd)
    (hB : wz.heap[B]? = some (.cells (lCells (.slice ad nd cd) (.slice ae n ce) z) 54)) (hd : OwnK 3 35 encE wz base (.slice ad nd cd) ds) (hl : ds.length = z.out.length)
    (hall : ∀ j (h1 : j < ds.length) (h2 : j < z.out.length), ds[j].1 = z.out[j].line ∧ ds[j].2.1 = z.out[j].blank ∧ RWs wz base (slE ds[j].2.2) z.out[j].words)
    (hw : RWs wz base (.slice ae n ce) z.ewords) (hbase : base ≤ wz.heap.size) (hBb : base ≤ B) (hb : Below base w wz)
    (hown : w1.ownsRow base 35 3 (.slice (some ⟨gg, 0, none⟩) (nd + 1) cap) (nd + 1) (ds.flatMap encE ++ [.int .i64 (z.eline : Int), .bool z.eblank, .slice ae n ce])) (hg : wz.grownBy w1 (Value.slice ad nd cd).ownBlock) :
    LexPost B base (lEnd z) w (.returned (.tuple #[])) (((((w1.setCell ⟨B, 0, none⟩ (.slice (some ⟨gg, 0, none⟩) (nd + 1) cap)).setCell ⟨B, 1, none⟩ (.int .i64 0)).setCell ⟨B, 2, none⟩ (.bool false)).setCell ⟨B, 3, none⟩ (.slice none 0 0)).setCell ⟨B, 4, none⟩ (.bool false)) := by
  have hb1 := (hg.block B (kblock_lt hB) (hd.ne_block hB (by decide))).trans hB
  have e : lEnd z = { ({ z with out := z.out ++ [⟨z.eline, z.eblank, z.ewords⟩] } : LS) with eline := 0, eblank := false, ewords := [], on := false } := by
    unfold lEnd; rw [if_neg ho, if_neg he]
  have hown' : OwnK 3 35 encE w1 base (.slice (some ⟨gg, 0, none⟩) (nd + 1) cap) (ds ++ [(z.eline, z.eblank, (ae, n, ce))]) := by
    unfold OwnK
    rw [List.length_append, hnd, List.flatMap_append]
    exact hown
  have hes : REs w1 base (.slice (some ⟨gg, 0, none⟩) (nd + 1) cap) (z.out ++ [⟨z.eline, z.eblank, z.ewords⟩]) := REs.push (s := (ae, n, ce)) hd hl hall hw hg hown'
  rw [e]
  exact ⟨rfl, lrest_box (W := w1.setCell ⟨B, 0, none⟩ (.slice (some ⟨gg, 0, none⟩) (nd + 1) cap)) (z := { z with out := z.out ++ [⟨z.eline, z.eblank, z.ewords⟩] }) (kset hb1 0 _) (hes.keptB hb1 0 _),
    lrest_boxB ((hb.grown hg hbase hd.base_le).setCell (p := ⟨B, 0, none⟩) hBb _) hBb⟩
set_option maxRecDepth 100000 in
set_option maxHeartbeats 8000000 in
theorem lex_end (B base : Nat) (y : LS) (wz : World) (hS : LBox wz B base y) (hzz : base ≤ wz.heap.size) (hBb : base ≤ B) (hld : y.out.length ≤ 1000000) :
    Calls Try.prog 20 #[.pointer (some ⟨B, 0, none⟩)] wz (LexPost B base (lEnd y) wz) := by
  obtain ⟨vd, ve, hbx, hrow⟩ := hS
  obtain ⟨ae, ce, rfl⟩ := hrow.2.shape
  have HB := Lib.hid hbx; have HR := Lib.hid hrow
  have hc5 := kcell hbx 5 (.int .i64 (y.opn : Int)) rfl
  have hc3 := kcell hbx 3 (.slice ae y.ewords.length ce) rfl
  have hc1 := kcell hbx 1 (.int .i64 (y.eline : Int)) rfl
  have hc2 := kcell hbx 2 (.bool y.eblank) rfl
  have hc4 := kcell hbx 4 (.bool y.on) rfl
  have hf1 := kfrozen hbx 1
  have hf2 := kfrozen hbx 2
  have hf3 := kfrozen hbx 3
  have hf4 := kfrozen hbx 4
  have HLD := Lib.hid hld
  clear hbx hrow hld
  by_cases hop : 0 < y.opn
  · have hz : (0 : Int) < (y.opn : Int) := by omega
    have e : lEnd y = y := by unfold lEnd; rw [if_pos hop]
    rw [e]
    clear e hop
    go_enter Try.func20, Try.ntmps20
    go_wp2_with fail
    refine bodyPost_ret (results_none rfl _ _ _) rfl ?_
    exact ⟨rfl, ⟨vd, _, HB.out, HR.out⟩, Below.refl base wz⟩
  · have hz0 : y.opn = 0 := by omega
    rw [hz0] at hc5
    have HOP := Lib.hid hop
    clear hop hz0
    by_cases hew : y.ewords = []
    · rw [hew] at hc3
      simp only [List.length_nil] at hc3
      have HEW := Lib.hid hew
      clear hew
      go_enter Try.func20, Try.ntmps20
      go_wp2_with fail
      go_end0
      have e : lEnd y = { y with eline := 0, eblank := false, ewords := [], on := false } := by
        unfold lEnd; rw [if_neg HOP.out, if_pos HEW.out]
      rw [e]
      exact ⟨rfl, lrest_box HB.out HR.out.1, lrest_boxB (Below.refl base wz) hBb⟩
    · obtain ⟨k, hk⟩ : ∃ k, y.ewords.length = k + 1 := ⟨y.ewords.length - 1, by have := List.length_pos_iff.2 hew; omega⟩
      rw [hk] at hc3
      have HEW := Lib.hid hew
      have hz : (0 < ((k : Int) + 1)) := by omega
      have HKK := Lib.hid hk
      clear hew hk
      obtain ⟨⟨ds, d1, d2, d3⟩, r2⟩ := HR.out
      obtain ⟨nd, hnd⟩ : ∃ nd, ds.length = nd := ⟨_, rfl⟩
      obtain ⟨ad, cd, rfl⟩ := d1.shape
      have HZ := Lib.hid (show wz.heap[B]? = some (.cells (lCells (.slice ad nd cd) (.slice ae (k + 1) ce) y) 54) by rw [← hnd, ← HKK.out]; exact HB.out)
      have HD1 := Lib.hid (show OwnK 3 35 encE wz base (.slice ad nd cd) ds by rw [← hnd]; exact d1)
      have HOW := Lib.hid (show wz.ownsRow base 35 3 (.slice ad nd cd) nd (ds.flatMap encE) by have h := d1; unfold OwnK at h; rw [hnd] at h; exact h)
      have HW := Lib.hid (show RWs wz base (.slice ae (k + 1) ce) y.ewords by rw [← HKK.out]; exact r2)
      have HREST := Lib.hid (And.intro hnd (And.intro d2 d3))
      have HBw := Lib.hid (HD1.out.ne_block HZ.out (by decide))
      have hB3 := kblock_lt HZ.out
      have hndb : nd ≤ 1000000 := by have := HLD.out; omega
      have hc0 := kcell HZ.out 0 (.slice ad nd cd) rfl
      obtain ⟨i0, z0, hi0, hz0, hz1, hz2', hz3⟩ := elemRE.info
      clear d1 d2 d3 r2 hnd HR HB
      go_enter Try.func20, Try.ntmps20
      go_wp2_with fail
      clear hc4 hc5 hf1 hf2 hf3 hf4 hz
      go_region_law ((refine step_append_lies _ (by rfl) _ _ _ (by rfl) base 35 i0 z0 3 40 elemRE.ht hi0 hz0 hz1 hz2' hz3 (by decide) (.slice ad nd cd) nd (ds.flatMap encE) (by rfl) ((World.ownsRow.alloc HOW.out _).drew) ⟨wz.heap.size, 0, none⟩ 1 1 [.int .i64 (y.eline : Int), .bool y.eblank, .slice ae (k + 1) ce] (by rfl) (by rfl) (World.news_of_block (cs := #[.int .i64 (y.eline : Int), .bool y.eblank, .slice ae (k + 1) ce]) (t := 35) (fr := (0, 0)) (heap_alloc_new wz _)) (by simp [Value.oneCell']) (by omega) (by unfold maxLen; omega) (by omega) (by simp; omega) (wz.heap.size + 1) (by simp) ?_; intro gg cap w1 hown1 hgrow hat hlt; have hgw := kg_trans (kg_trans (kg_alloc wz _ _) (kg_drew _ _)) hgrow; have hbk1 := Lib.hid ((hgw.block B hB3 HBw.out).trans HZ.out); have hc01 := kcell hbk1.out 0 (.slice ad nd cd) rfl; have hf01 := kfrozen hbk1.out 0))
      all_goals
        have hc11 := kcell hbk1.out 1 (.int .i64 (y.eline : Int)) rfl
        have hc21 := kcell hbk1.out 2 (.bool y.eblank) rfl
        have hc31 := kcell hbk1.out 3 (.slice ae (k + 1) ce) rfl
        have hc41 := kcell hbk1.out 4 (.bool y.on) rfl
        have hf11 := kfrozen hbk1.out 1
        have hf21 := kfrozen hbk1.out 2
        have hf31 := kfrozen hbk1.out 3
        have hf41 := kfrozen hbk1.out 4
        have HO1 := Lib.hid hown1; have HG1 := Lib.hid hgw
        clear hown1 hgw hat hgrow hlt hz0 hz1 hz2' hz3 hi0 hc01 hf01 hc0 hc1 hc2 hc3
        go_wp2_with fail
        go_end0
        obtain ⟨hnd, d2, d3⟩ := HREST.out
        exact lend_fin HOP.out HEW.out hnd HZ.out HD1.out d2 d3 HW.out hzz hBb (Below.refl base wz) HO1.out HG1.out
end Go.Proofs.Ytlgbdbaacjahpaa
