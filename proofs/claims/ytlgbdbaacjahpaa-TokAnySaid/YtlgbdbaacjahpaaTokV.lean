/-
  The program's scan: tok.scan's endLine.
-/
import Derived.Test.YtlgbdbaacjahpaaTokT
import Derived.Test.YtlgbdbaacjahpaaTokU
namespace Go.Proofs.Ytlgbdbaacjahpaa
open Go.RowKit Go.Shelf
set_option maxRecDepth 20000

theorem elemE : ElemK 3 32 23 40 := ⟨Try.underlying23, _, _, rfl, rfl, rfl, rfl, rfl⟩
theorem OwnEs.toNil {W : World} {base : Nat} {v ve : Value} {l : List Ent} (h : OwnEs W base v ve l) : OwnEs W base v (.slice none 0 0) l := by
  obtain ⟨ds, g1, g2, g3⟩ := h
  refine ⟨ds, g1, g2, fun j a b => ?_⟩
  obtain ⟨k1, k2, k3, k4⟩ := g3 j a b
  refine ⟨k1, k2, k3, ?_⟩
  show (slE ds[j].2.2).ownBlock = none ∨ (slE ds[j].2.2).ownBlock ≠ none
  cases (slE ds[j].2.2).ownBlock <;> simp
/-- An entry more. -/
theorem OwnEs.push {W W' : World} {base : Nat} {v v' ve : Value} {l : List Ent} {ws : List TW} {ds : List EntV} {ln : Nat} {bl : Bool} {s : Option Addr × Nat × Nat} (hds : OwnK 3 32 encE W base v ds) (hl : ds.length = l.length)
    (hall : ∀ j (h1 : j < ds.length) (h2 : j < l.length), ds[j].1 = l[j].line ∧ ds[j].2.1 = l[j].blank ∧ OwnWs W base (slE ds[j].2.2) l[j].words ∧ ((slE ds[j].2.2).ownBlock = none ∨ (slE ds[j].2.2).ownBlock ≠ ve.ownBlock))
    (hw : OwnWs W base (slE s) ws) (hg : W.grownBy W' v.ownBlock) (hown : OwnK 3 32 encE W' base v' (ds ++ [(ln, bl, s)])) : OwnEs W' base v' (.slice none 0 0) (l ++ [⟨ln, bl, ws⟩]) := by
  refine ⟨ds ++ [(ln, bl, s)], hown, by simp [hl], fun j h1 h2 => ?_⟩
  have hno : ∀ u : Value, u.ownBlock = none ∨ u.ownBlock ≠ (Value.slice none 0 0).ownBlock := by
    intro u
    show u.ownBlock = none ∨ u.ownBlock ≠ none
    cases u.ownBlock <;> simp
  by_cases hj : j < ds.length
  · obtain ⟨k1, k2, k3, _⟩ := hall j hj (by omega)
    rw [List.getElem_append_left hj, List.getElem_append_left (by omega)]
    exact ⟨k1, k2, OwnK.kept2 k3 hds (by decide) hg, hno _⟩
  · have hjl : j = ds.length := by simp at h1; omega
    subst hjl
    have e1 : (ds ++ [((ln, bl, s) : EntV)])[ds.length]'h1 = (ln, bl, s) := by simp
    have e2 : (l ++ [(⟨ln, bl, ws⟩ : Ent)])[ds.length]'h2 = ⟨ln, bl, ws⟩ := by simp [hl]
    rw [e1, e2]
    exact ⟨rfl, rfl, OwnK.kept2 hw hds (by decide) hg, hno _⟩
/-- The entry is put away. -/
theorem rest_box {W : World} {B base : Nat} {vd ve vo vw : Value} {z : KS} (hb : W.heap[B]? = some (.cells (sCells vd ve vo vw z) 47)) (h1 : OwnEs W base vd (.slice none 0 0) z.done) (h3 : OwnK 1 3 encI W base vo z.opn) (h4 : OwnK 1 5 encB W base vw z.word) :
    SBox ((((W.setCell ⟨B, 1, none⟩ (.int .i64 0)).setCell ⟨B, 2, none⟩ (.bool false)).setCell ⟨B, 3, none⟩ (.slice none 0 0)).setCell ⟨B, 4, none⟩ (.bool false)) B base { z with eline := 0, eblank := false, ewords := [], begun := false } := by
  have g1 := kset hb 1 (.int .i64 0)
  have g2 := kset g1 2 (.bool false)
  have g3 := kset g2 3 (.slice none 0 0)
  have hr : SRow W base vd (.slice none 0 0) vo vw { z with eline := 0, eblank := false, ewords := [], begun := false } := ⟨h1, OwnK.nil _ _, h3, h4⟩
  exact ⟨vd, .slice none 0 0, vo, vw, kset g3 4 _, (((hr.set hb 1 _).set g1 2 _).set g2 3 _).set g3 4 _⟩
theorem rest_boxB {w W : World} {B base : Nat} {u v x y : Value} (h : Fr base w W) (hBB : RBox base w B) : Fr base w ((((W.setCell ⟨B, 1, none⟩ u).setCell ⟨B, 2, none⟩ v).setCell ⟨B, 3, none⟩ x).setCell ⟨B, 4, none⟩ y) :=
  (((h.setCell (p := ⟨B, 1, none⟩) hBB _).setCell (p := ⟨B, 2, none⟩) hBB _).setCell (p := ⟨B, 3, none⟩) hBB _).setCell (p := ⟨B, 4, none⟩) hBB _
theorem OwnEs.keptB {W : World} {B base : Nat} {cs : Array Value} {v ve : Value} {l : List Ent} (h : OwnEs W base v ve l) (hB : W.heap[B]? = some (.cells cs 47)) (j : Nat) (u : Value) : OwnEs (W.setCell ⟨B, j, none⟩ u) base v ve l := by
  refine h.kept (kgrown_set W B j u) ?_ ?_
  · obtain ⟨ds, g1, _⟩ := h
    exact .inr (fun e => g1.ne_block hB (by decide) e.symm)
  · rintro v ⟨xs, hv⟩ _
    exact .inr (fun e => hv.ne_block hB (by decide) e.symm)
theorem endLine_fin {w wz w1 : World} {B base : Nat} {z : KS} {vo vw ve' : Value} {ds : List EntV} {ad ae : Option Addr} {nd cd n ce gg cap : Nat} (ho : z.opn = []) (he : z.ewords ≠ []) (hnd : ds.length = nd) (_ : z.ewords.length = n)
    (hB : wz.heap[B]? = some (.cells (sCells (.slice ad nd cd) (.slice ae n ce) vo vw z) 47)) (hd : OwnK 3 32 encE wz base (.slice ad nd cd) ds) (hl : ds.length = z.done.length)
    (hall : ∀ j (h1 : j < ds.length) (h2 : j < z.done.length), ds[j].1 = z.done[j].line ∧ ds[j].2.1 = z.done[j].blank ∧ OwnWs wz base (slE ds[j].2.2) z.done[j].words ∧ ((slE ds[j].2.2).ownBlock = none ∨ (slE ds[j].2.2).ownBlock ≠ ve'.ownBlock))
    (hw : OwnWs wz base (.slice ae n ce) z.ewords) (h3 : OwnK 1 3 encI wz base vo z.opn) (h4 : OwnK 1 5 encB wz base vw z.word) (hbase : base ≤ wz.heap.size) (hBB : RBox base w B) (hb : Fr base w wz)
    (hown : w1.ownsRow base 32 3 (.slice (some ⟨gg, 0, none⟩) (nd + 1) cap) (nd + 1) (ds.flatMap encE ++ [.int .i64 (z.eline : Int), .bool z.eblank, .slice ae n ce])) (hg : wz.grownBy w1 (Value.slice ad nd cd).ownBlock) :
    ScanPostE B base (kRest z, 0) w (.returned (.int .i64 0)) (((((w1.setCell ⟨B, 0, none⟩ (.slice (some ⟨gg, 0, none⟩) (nd + 1) cap)).setCell ⟨B, 1, none⟩ (.int .i64 0)).setCell ⟨B, 2, none⟩ (.bool false)).setCell ⟨B, 3, none⟩ (.slice none 0 0)).setCell ⟨B, 4, none⟩ (.bool false)) := by
  have hb1 := (hg.block B (kblock_lt hB) (hd.ne_block hB (by decide))).trans hB
  have e : kRest z = { ({ z with done := z.done ++ [⟨z.eline, z.eblank, z.ewords⟩] } : KS) with eline := 0, eblank := false, ewords := [], begun := false } := by
    unfold kRest; rw [if_neg (by rw [ho]; simp), if_neg he]
  have hown' : OwnK 3 32 encE w1 base (.slice (some ⟨gg, 0, none⟩) (nd + 1) cap) (ds ++ [(z.eline, z.eblank, (ae, n, ce))]) := by
    unfold OwnK
    rw [List.length_append, hnd, List.flatMap_append]
    exact hown
  have hes : OwnEs w1 base (.slice (some ⟨gg, 0, none⟩) (nd + 1) cap) (.slice none 0 0) (z.done ++ [⟨z.eline, z.eblank, z.ewords⟩]) := OwnEs.push (s := (ae, n, ce)) hd hl hall hw hg hown'
  rw [e]
  exact ⟨rfl, rest_box (W := w1.setCell ⟨B, 0, none⟩ (.slice (some ⟨gg, 0, none⟩) (nd + 1) cap)) (z := { z with done := z.done ++ [⟨z.eline, z.eblank, z.ewords⟩] }) (kset hb1 0 _) (hes.keptB hb1 0 _) ((OwnK.kept2 h3 hd (by decide) hg).keptB hb1 (by decide) 0 _) ((OwnK.kept2 h4 hd (by decide) hg).keptB hb1 (by decide) 0 _),
    rest_boxB ((hb.grown hg hbase (hd.far (by decide))).setCell (p := ⟨B, 0, none⟩) hBB _) hBB⟩
set_option maxRecDepth 100000 in
set_option maxHeartbeats 8000000 in
theorem scan_endLine (B base : Nat) (x : KS) (w : World) (hS : SBox w B base x) (hbase : base ≤ w.heap.size) (hBb : base ≤ B) (hl : x.ewords.length ≤ 1048576) (hlw : x.word.length ≤ 1048576) (hld : x.done.length ≤ 1048576) (hlo : x.opn.length ≤ 8) :
    Calls Try.prog 14 #[.pointer (some ⟨B, 0, none⟩)] w (ScanPostE B base (kEnd x) w) := by
  have hBB := hS.rbox hBb
  have hP := scan_endWord B base x w hS hbase hBb hl hlw
  obtain ⟨vd0, ve0, vo0, vw0, hbx0, hrow0⟩ := id hS
  have HS := Lib.hid hS
  have hc12 := kcell hbx0 12 (.bool x.taken) rfl
  have hc11 := kcell hbx0 11 (.bool x.quoted) rfl
  clear hbx0 hrow0 hS
  by_cases ht : x.taken = true
  · have e : kEnd x = (x, 2) := by unfold kEnd; rw [if_pos (.inl ht)]
    rw [e]
    rw [ht] at hc12
    clear e hP ht
    go_enter Try.func14, Try.ntmps14
    go_wp2_with fail
    go_ret
    exact ⟨rfl, HS.out, Fr.refl base w⟩
  by_cases hq : x.quoted = true
  · have e : kEnd x = (x, 2) := by unfold kEnd; rw [if_pos (.inr hq)]
    rw [e]
    rw [hq] at hc11
    rw [Bool.not_eq_true _ |>.mp ht] at hc12
    clear e hP ht hq
    go_enter Try.func14, Try.ntmps14
    go_wp2_with fail
    go_ret
    exact ⟨rfl, HS.out, Fr.refl base w⟩
  have e : kEnd x = (kRest { kEndWord x with fresh := true, remark := false }, 0) := by unfold kEnd; rw [if_neg (by simp [ht, hq])]
  rw [e]
  have hd : (kEndWord x).done = x.done := rfl
  have ho : (kEndWord x).opn = x.opn := rfl
  have hwl : (kEndWord x).ewords.length ≤ 1048577 := by
    unfold kEndWord
    simp only
    split
    · rw [List.length_append, List.length_singleton]; omega
    · omega
  generalize kEndWord x = y at hP hd ho hwl ⊢
  rw [Bool.not_eq_true _ |>.mp ht] at hc12
  rw [Bool.not_eq_true _ |>.mp hq] at hc11
  rw [← hd] at hld; rw [← ho] at hlo
  have HLD := Lib.hid hld; have HLO := Lib.hid hlo; have HWL := Lib.hid hwl
  clear e ht hq hd ho hwl hld hlo hl hlw
  go_enter Try.func14, Try.ntmps14
  go_wp2_with fail
  refine hP.mono ?_
  rintro e w2 ⟨rfl, hS2, hb2⟩
  clear hP hc11 hc12
  obtain ⟨vd, ve, vo, vw, hbx, hrow⟩ := hS2
  have hf6 := kfrozen hbx 6
  have hf8 := kfrozen hbx 8
  have hc6 := kcell hbx 6 (.bool y.fresh) rfl
  have hc8 := kcell hbx 8 (.bool y.remark) rfl
  obtain ⟨ao, co, rfl⟩ := hrow.2.2.1.shape
  obtain ⟨ae, ce, rfl⟩ := hrow.2.1.shape
  have hc5 := kcell hbx 5 (.slice ao y.opn.length co) rfl
  have hc3 := kcell hbx 3 (.slice ae y.ewords.length ce) rfl
  have HB := Lib.hid hbx; have HR := Lib.hid hrow; have HB2 := Lib.hid hb2
  have hz2 := Nat.le_trans hbase hb2.size
  clear hbx hrow hb2
  have hx1 := Lib.hid (kset HB.out 6 (.bool true))
  have hx2 := Lib.hid (kset hx1.out 8 (.bool false))
  have HR3 := Lib.hid (show SRow ((w2.setCell ⟨B, 6, none⟩ (.bool true)).setCell ⟨B, 8, none⟩ (.bool false)) base vd (.slice ae y.ewords.length ce) (.slice ao y.opn.length co) vw { y with fresh := true, remark := false } from SRow.set (SRow.set (x := { y with fresh := true, remark := false }) HR.out HB.out 6 _) hx1.out 8 _)
  have HB3 := Lib.hid ((HB2.out.setCell (p := ⟨B, 6, none⟩) hBB (.bool true)).setCell (p := ⟨B, 8, none⟩) hBB (.bool false))
  by_cases hop : y.opn = []
  · rw [hop] at hc5
    simp only [List.length_nil] at hc5
    have HOP := Lib.hid hop
    have hc1 := kcell HB.out 1 (.int .i64 (y.eline : Int)) rfl
    have hc2 := kcell HB.out 2 (.bool y.eblank) rfl
    have hc4 := kcell HB.out 4 (.bool y.begun) rfl
    have hf1 := kfrozen HB.out 1
    have hf2 := kfrozen HB.out 2
    have hf3 := kfrozen HB.out 3
    have hf4 := kfrozen HB.out 4
    clear hop
    by_cases hew : y.ewords = []
    · rw [hew] at hc3
      simp only [List.length_nil] at hc3
      have HEW := Lib.hid hew
      clear hew
      go_wp2_with fail
      go_ret
      have e : kRest { y with fresh := true, remark := false } = { y with fresh := true, remark := false, eline := 0, eblank := false, ewords := [], begun := false } := by
        unfold kRest; rw [if_neg (by rw [HOP.out]; simp), if_pos HEW.out]
      rw [e]
      have hr := HR3.out
      exact ⟨rfl, rest_box (z := { y with fresh := true, remark := false }) hx2.out hr.1.toNil hr.2.2.1 hr.2.2.2, rest_boxB HB3.out hBB⟩
    · obtain ⟨k, hk⟩ : ∃ k, y.ewords.length = k + 1 := ⟨y.ewords.length - 1, by have := List.length_pos_iff.2 hew; omega⟩
      rw [hk] at hc3
      have HEW := Lib.hid hew
      have hz : (0 < ((k : Int) + 1)) := by omega
      have HKK := Lib.hid hk
      clear hew hk
      go_wp2_with fail
      clear hc1 hc2 hc3 hc4 hc5 hc6 hc8 hf1 hf2 hf3 hf4 hf6 hf8 hz hx1
      have hzz : base ≤ ((w2.setCell ⟨B, 6, none⟩ (.bool true)).setCell ⟨B, 8, none⟩ (.bool false)).heap.size := Nat.le_trans hbase HB3.out.size
      generalize (w2.setCell ⟨B, 6, none⟩ (.bool true)).setCell ⟨B, 8, none⟩ (.bool false) = wz at *
      obtain ⟨⟨ds, d1, d2, d3⟩, r2, r3, r4⟩ := HR3.out
      obtain ⟨nd, hnd⟩ : ∃ nd, ds.length = nd := ⟨_, rfl⟩
      obtain ⟨ad, cd, rfl⟩ := d1.shape
      have HZ := Lib.hid (show wz.heap[B]? = some (.cells (sCells (.slice ad nd cd) (.slice ae (k + 1) ce) (.slice ao y.opn.length co) vw { y with fresh := true, remark := false }) 47) by rw [← hnd, ← HKK.out]; exact hx2.out)
      have HD1 := Lib.hid (show OwnK 3 32 encE wz base (.slice ad nd cd) ds by rw [← hnd]; exact d1)
      have HOW := Lib.hid (show wz.ownsRow base 32 3 (.slice ad nd cd) nd (ds.flatMap encE) by have h := d1; unfold OwnK at h; rw [hnd] at h; exact h)
      have HW := Lib.hid (show OwnWs wz base (.slice ae (k + 1) ce) y.ewords by rw [← HKK.out]; exact r2)
      have HREST := Lib.hid (And.intro hnd (And.intro d2 (And.intro d3 (And.intro r3 r4))))
      have HBw := Lib.hid (HD1.out.ne_block HZ.out (by decide))
      have hB3 := kblock_lt HZ.out
      have hndb : nd ≤ 1048576 := by have := HLD.out; simp only at d2; omega
      have hc0 : wz.cell? ⟨B, 0, none⟩ = some (.slice ad nd cd) := kcell HZ.out 0 _ rfl
      have hc1 : wz.cell? ⟨B, 1, none⟩ = some (.int .i64 (y.eline : Int)) := kcell HZ.out 1 _ rfl
      have hc2 : wz.cell? ⟨B, 2, none⟩ = some (.bool y.eblank) := kcell HZ.out 2 _ rfl
      have hc3 : wz.cell? ⟨B, 3, none⟩ = some (.slice ae (k + 1) ce) := kcell HZ.out 3 _ rfl
      obtain ⟨i0, z0, hi0, hz0, hz1, hz2', hz3⟩ := elemE.info
      clear d1 d2 d3 r2 r3 r4 hnd hx2 HR3 HR HB hz2
      go_region_law ((refine step_append_lies _ (by rfl) _ _ _ (by rfl) base 32 i0 z0 3 40 elemE.ht hi0 hz0 hz1 hz2' hz3 (by decide) (.slice ad nd cd) nd (ds.flatMap encE) (by rfl) ((World.ownsRow.alloc HOW.out _).drew) ⟨wz.heap.size, 0, none⟩ 1 1 [.int .i64 (y.eline : Int), .bool y.eblank, .slice ae (k + 1) ce] (by rfl) (by rfl) (World.news_of_block (cs := #[.int .i64 (y.eline : Int), .bool y.eblank, .slice ae (k + 1) ce]) (t := 32) (fr := (0, 0)) (heap_alloc_new wz _)) (by simp [Value.oneCell']) (by omega) (by unfold maxLen; omega) (by omega) (by simp; omega) (wz.heap.size + 1) (by simp) ?_; intro gg cap w1 hown1 hgrow hat hlt; have hgw := kg_trans (kg_trans (kg_alloc wz _ _) (kg_drew _ _)) hgrow; have hbk1 := Lib.hid ((hgw.block B hB3 HBw.out).trans HZ.out); have hc01 := kcell hbk1.out 0 (.slice ad nd cd) rfl; have hf01 := kfrozen hbk1.out 0))
      all_goals
        have hc11 := kcell hbk1.out 1 (.int .i64 (y.eline : Int)) rfl
        have hc21 := kcell hbk1.out 2 (.bool y.eblank) rfl
        have hc31 := kcell hbk1.out 3 (.slice ae (k + 1) ce) rfl
        have hc41 := kcell hbk1.out 4 (.bool y.begun) rfl
        have hf11 := kfrozen hbk1.out 1
        have hf21 := kfrozen hbk1.out 2
        have hf31 := kfrozen hbk1.out 3
        have hf41 := kfrozen hbk1.out 4
        have HO1 := Lib.hid hown1; have HG1 := Lib.hid hgw
        clear hown1 hgw hat hgrow hlt hz0 hz1 hz2' hz3 hi0 hc01 hf01 hc0 hc1 hc2 hc3
        go_wp2_with fail
        go_ret
        obtain ⟨hnd, d2, d3, r3, r4⟩ := HREST.out
        exact endLine_fin (z := { y with fresh := true, remark := false }) HOP.out HEW.out hnd HKK.out HZ.out HD1.out d2 d3 HW.out r3 r4 hzz hBB HB3.out HO1.out HG1.out
  · obtain ⟨m, hm⟩ : ∃ m, y.opn.length = m + 1 := ⟨y.opn.length - 1, by have := List.length_pos_iff.2 hop; omega⟩
    rw [hm] at hc5
    have hz : (0 < ((m : Int) + 1)) := by omega
    have HOP := Lib.hid hop
    clear hm hop
    go_wp2_with fail
    go_ret
    have e : kRest { y with fresh := true, remark := false } = { y with fresh := true, remark := false } := by unfold kRest; rw [if_pos HOP.out]
    rw [e]
    exact ⟨rfl, ⟨vd, _, _, vw, hx2.out, HR3.out⟩, HB3.out⟩
end Go.Proofs.Ytlgbdbaacjahpaa
