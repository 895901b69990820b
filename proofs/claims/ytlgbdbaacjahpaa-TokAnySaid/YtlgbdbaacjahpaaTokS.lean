/-
  The program's scan in memory: tok.scan's start, begin, add.
-/
import Derived.Test.YtlgbdbaacjahpaaTokR
import Derived.Test.YtlgbdbaacjahpaaTokO
namespace Go.Proofs.Ytlgbdbaacjahpaa
open Go.RowKit Go.Shelf
set_option maxRecDepth 20000

abbrev EntV := Nat × Bool × (Option Addr × Nat × Nat)
def slE (x : Option Addr × Nat × Nat) : Value := .slice x.1 x.2.1 x.2.2
def encW (t : TW) : List Value := [strV t.1, .bool t.2]
def encE (e : EntV) : List Value := [.int .i64 (e.1 : Int), .bool e.2.1, slE e.2.2]
def encI (n : Nat) : List Value := [.int .i64 (n : Int)]
def encB (c : UInt8) : List Value := [bv c]
def OwnWs (W : World) (base : Nat) (v : Value) (l : List TW) : Prop := OwnK 2 37 encW W base v l
/-- The entries that are done, each with words of its own, none of them in the row that grows. -/
def OwnEs (W : World) (base : Nat) (v ve : Value) (l : List Ent) : Prop := ∃ ds : List EntV, OwnK 3 32 encE W base v ds ∧ ds.length = l.length ∧
  ∀ j (h1 : j < ds.length) (h2 : j < l.length), ds[j].1 = l[j].line ∧ ds[j].2.1 = l[j].blank ∧ OwnWs W base (slE ds[j].2.2) l[j].words ∧ ((slE ds[j].2.2).ownBlock = none ∨ (slE ds[j].2.2).ownBlock ≠ ve.ownBlock)
def SRow (W : World) (base : Nat) (vd ve vo vw : Value) (x : KS) : Prop := OwnEs W base vd ve x.done ∧ OwnWs W base ve x.ewords ∧ OwnK 1 3 encI W base vo x.opn ∧ OwnK 1 5 encB W base vw x.word
def sCells (vd ve vo vw : Value) (x : KS) : Array Value := #[vd, .int .i64 (x.eline : Int), .bool x.eblank, ve, .bool x.begun, vo, .bool x.fresh, .bool x.blank, .bool x.remark, vw, .bool x.inW, .bool x.quoted, .bool x.taken]
def SBox (W : World) (B base : Nat) (x : KS) : Prop := ∃ vd ve vo vw, W.heap[B]? = some (.cells (sCells vd ve vo vw x) 47) ∧ SRow W base vd ve vo vw x
theorem OwnEs.kept {W W' : World} {row : Option Nat} {base : Nat} {v ve : Value} {l : List Ent} (h : OwnEs W base v ve l) (hg : W.grownBy W' row) (h1 : v.ownBlock = none ∨ v.ownBlock ≠ row) (h2 : ∀ u : Value, (∃ xs, OwnWs W base u xs) → (u.ownBlock = none ∨ u.ownBlock ≠ ve.ownBlock) → (u.ownBlock = none ∨ u.ownBlock ≠ row)) : OwnEs W' base v ve l := by
  obtain ⟨ds, g1, g2, g3⟩ := h
  refine ⟨ds, g1.kept hg h1, g2, fun j a b => ?_⟩
  obtain ⟨k1, k2, k3, k4⟩ := g3 j a b
  exact ⟨k1, k2, k3.kept hg (h2 _ ⟨_, k3⟩ k4), k4⟩
/-- Behind a store into the box. -/
theorem SRow.set {W : World} {B base : Nat} {cs : Array Value} {vd ve vo vw : Value} {x : KS} (h : SRow W base vd ve vo vw x) (hB : W.heap[B]? = some (.cells cs 47)) (j : Nat) (u : Value) : SRow (W.setCell ⟨B, j, none⟩ u) base vd ve vo vw x := by
  obtain ⟨h1, h2, h3, h4⟩ := h
  refine ⟨h1.kept (kgrown_set W B j u) ?_ ?_, h2.keptB hB (by decide) j u, h3.keptB hB (by decide) j u, h4.keptB hB (by decide) j u⟩
  · obtain ⟨ds, g1, _⟩ := h1
    exact .inr (fun e => g1.ne_block hB (by decide) e.symm)
  · rintro v ⟨xs, hv⟩ _
    exact .inr (fun e => hv.ne_block hB (by decide) e.symm)
theorem SBox.below {W W' : World} {B base : Nat} {x : KS} (h : SBox W B base x) (hb : Below W.heap.size W W') : SBox W' B base x := by
  obtain ⟨vd, ve, vo, vw, h1, h2, h3, h4, h5⟩ := h
  refine ⟨vd, ve, vo, vw, (hb.block B (kblock_lt h1)).trans h1, ?_, h3.below hb, h4.below hb, h5.below hb⟩
  obtain ⟨ds, g1, g2, g3⟩ := h2
  refine ⟨ds, g1.below hb, g2, fun j a b => ?_⟩
  obtain ⟨k1, k2, k3, k4⟩ := g3 j a b
  exact ⟨k1, k2, k3.below hb, k4⟩
theorem SBox.rbox {W : World} {B base : Nat} {x : KS} (h : SBox W B base x) (hb : base ≤ B) : RBox base W B := by
  obtain ⟨vd, ve, vo, vw, h1, _⟩ := h
  exact ⟨hb, _, h1⟩
def ScanPost (B base : Nat) (x : KS) (w : World) (e : Ending) (w' : World) : Prop := e = .returned (.tuple #[]) ∧ SBox w' B base x ∧ Fr base w w'

set_option maxRecDepth 100000 in
set_option maxHeartbeats 4000000 in
theorem scan_start (B base : Nat) (x : KS) (w : World) (hS : SBox w B base x) (_ : base ≤ w.heap.size) (hBb : base ≤ B) :
    Calls Try.prog 25 #[.pointer (some ⟨B, 0, none⟩)] w (ScanPost B base (kStart x) w) := by
  have hBB := hS.rbox hBb
  obtain ⟨vd, ve, vo, vw, hbx, hrow⟩ := hS
  have HB := Lib.hid hbx; have HR := Lib.hid hrow
  have hc4 := kcell hbx 4 (.bool x.begun) rfl
  have hc7 := kcell hbx 7 (.bool x.blank) rfl
  have hc2 := kcell hbx 2 (.bool x.eblank) rfl
  have hf4 := kfrozen hbx 4
  have hf2 := kfrozen hbx 2
  clear hbx hrow
  go_enter Try.func25, Try.ntmps25
  cases hbg : x.begun
  · rw [hbg] at hc4
    go_wp2_with fail
    go_end0
    have h1 := kset HB.out 4 (.bool true)
    refine ⟨rfl, ⟨vd, ve, vo, vw, ?_, ?_⟩, ?_⟩
    · have h2 := kset h1 2 (.bool x.blank)
      have e : kStart x = { x with begun := true, eblank := x.blank } := by unfold kStart; rw [hbg]; rfl
      rw [e]; exact h2
    · have e : SRow w base vd ve vo vw (kStart x) := by
        unfold kStart; rw [hbg]; exact HR.out
      exact (e.set HB.out 4 _).set h1 2 _
    · exact ((Fr.refl base w).setCell (p := ⟨B, 4, none⟩) hBB _).setCell (p := ⟨B, 2, none⟩) hBB _
  · rw [hbg] at hc4
    go_wp2_with fail
    go_end0
    have e : kStart x = x := by unfold kStart; rw [hbg]; rfl
    rw [e]
    exact ⟨rfl, ⟨vd, ve, vo, vw, HB.out, HR.out⟩, Fr.refl base w⟩

theorem start_inW (x : KS) : kStart { x with inW := true } = { kStart x with inW := true } := by
  unfold kStart; cases h : x.begun <;> simp [h]
theorem start_ewords (x : KS) : (kStart x).ewords = x.ewords := by
  unfold kStart; split <;> rfl
set_option maxRecDepth 100000 in
set_option maxHeartbeats 4000000 in
theorem scan_begin (B base : Nat) (x : KS) (n : Nat) (w : World) (hS : SBox w B base x) (hbase : base ≤ w.heap.size) (hBb : base ≤ B) :
    Calls Try.prog 22 #[.pointer (some ⟨B, 0, none⟩), .int .i64 (n : Int)] w (ScanPost B base (kBegin n x) w) := by
  have hBB := hS.rbox hBb
  obtain ⟨vd, ve, vo, vw, hbx, hrow⟩ := id hS
  have HS := Lib.hid hS
  have hc := kcell hbx 10 (.bool x.inW) rfl
  have hf := kfrozen hbx 10
  cases hin : x.inW
  · rw [hin] at hc
    have hS1 : SBox (w.setCell ⟨B, 10, none⟩ (.bool true)) B base { x with inW := true } := ⟨vd, ve, vo, vw, kset hbx 10 _, hrow.set hbx 10 _⟩
    have hb1 : Fr base w (w.setCell ⟨B, 10, none⟩ (.bool true)) := (Fr.refl base w).setCell (p := ⟨B, 10, none⟩) hBB _
    have hP := scan_start B base { x with inW := true } _ hS1 (Nat.le_trans hbase hb1.size) hBb
    have HIN := Lib.hid hin; have HB1 := Lib.hid hb1
    clear hS1 hb1 hbx hrow hS hin
    go_enter Try.func22, Try.ntmps22
    go_wp2_with fail
    refine hP.mono ?_
    rintro e w2 ⟨rfl, hS2, hb2⟩
    rw [start_inW] at hS2
    clear hP
    obtain ⟨vd2, ve2, vo2, vw2, hbx2, hrow2⟩ := hS2
    have hbw := Lib.hid (HB1.out.trans hb2)
    clear hb2
    obtain ⟨a2, c2, rfl⟩ := hrow2.2.1.shape
    have hc3 := kcell hbx2 3 (.slice a2 x.ewords.length c2) (by have := start_ewords x; show some (Value.slice a2 (kStart x).ewords.length c2) = _; rw [this])
    have hc1 := kcell hbx2 1 (.int .i64 ((kStart x).eline : Int)) rfl
    have hf1 := kfrozen hbx2 1
    have HB2 := Lib.hid hbx2; have HR2 := Lib.hid hrow2
    clear hbx2 hrow2
    by_cases hn : x.ewords.length = 0
    · rw [hn] at hc3
      go_wp2_with fail
      go_end0
      have e : kBegin n x = { kStart x with inW := true, eline := n } := by
        unfold kBegin; rw [HIN.out, if_neg (by simp), if_pos (List.eq_nil_of_length_eq_zero hn)]
      rw [e]
      exact ⟨rfl, ⟨vd2, _, vo2, vw2, kset HB2.out 1 _, SRow.set HR2.out HB2.out 1 _⟩, hbw.out.setCell (p := ⟨B, 1, none⟩) hBB _⟩
    · have hz : (((x.ewords.length : Nat) : Int) == 0) = false := by simpa using hn
      go_wp2_with fail
      go_end0
      have e : kBegin n x = { kStart x with inW := true } := by
        unfold kBegin; rw [HIN.out, if_neg (by simp), if_neg (by rintro h; exact hn (by rw [h]; rfl))]
      rw [e]
      exact ⟨rfl, ⟨vd2, _, vo2, vw2, HB2.out, HR2.out⟩, hbw.out⟩
  · rw [hin] at hc
    have HIN := Lib.hid hin
    clear hbx hrow hS hin
    go_enter Try.func22, Try.ntmps22
    go_wp2_with fail
    refine bodyPost_ret (results_none rfl _ _ _) rfl ?_
    have e : kBegin n x = x := by unfold kBegin; rw [HIN.out, if_pos rfl]
    rw [e]
    exact ⟨rfl, HS.out, Fr.refl base w⟩

theorem elemB : ElemK 1 5 45 1 := ⟨Try.underlying45, _, _, rfl, rfl, rfl, rfl, rfl⟩
theorem encB_one (c : UInt8) : ∀ u ∈ encB c, u.oneCell' = true := by intro u hu; simp [encB] at hu; subst hu; rfl
/-- Behind an append to another row. -/
theorem OwnEs.grown {α : Type} {k : Nat} {T : TypeId} {enc : α → List Value} {W W' : World} {base : Nat} {v ve u : Value} {l : List Ent} {xs : List α} (h : OwnEs W base v ve l) (hu : OwnK k T enc W base u xs) (h1 : 32 ≠ T) (h2 : 37 ≠ T) (hg : W.grownBy W' u.ownBlock) : OwnEs W' base v ve l := by
  refine h.kept hg ?_ ?_
  · obtain ⟨ds, g1, _⟩ := h; exact g1.apart hu h1
  · rintro v ⟨ys, hv⟩ _; exact hv.apart hu h2
set_option maxRecDepth 100000 in
set_option maxHeartbeats 4000000 in
theorem scan_add (B base : Nat) (x : KS) (n : Nat) (c : UInt8) (w : World) (hS : SBox w B base x) (hbase : base ≤ w.heap.size) (hBb : base ≤ B) (hl : (kBegin n x).word.length ≤ 1048576) :
    Calls Try.prog 15 #[.pointer (some ⟨B, 0, none⟩), .int .i64 (n : Int), bv c] w (ScanPost B base (kAdd n c x) w) := by
  have hBB := hS.rbox hBb
  have hP := scan_begin B base x n w hS hbase hBb
  have e : kAdd n c x = { kBegin n x with word := (kBegin n x).word ++ [c] } := rfl
  rw [e]
  generalize kBegin n x = y at hP hl ⊢
  clear e
  have HL := Lib.hid hl
  unfold bv
  clear hS hl
  go_enter Try.func15, Try.ntmps15
  go_wp2_with fail
  refine hP.mono ?_
  rintro e w2 ⟨rfl, hS2, hb2⟩
  clear hP
  obtain ⟨vd, ve, vo, vw, hbx, hrow⟩ := hS2
  obtain ⟨m, hm⟩ : ∃ m, y.word.length = m := ⟨_, rfl⟩
  obtain ⟨a, cp, rfl⟩ := hrow.2.2.2.shape
  have hc := kcell hbx 9 (.slice a m cp) (by rw [← hm]; rfl)
  have hf := kfrozen hbx 9
  have hW : OwnK 1 5 encB w2 base (.slice a m cp) y.word := by rw [← hm]; exact hrow.2.2.2
  have hz := Nat.le_trans hbase hb2.size
  have hmb : m ≤ 1048576 := by have := HL.out; omega
  have HC := Lib.hid (show [Value.int .u8 c.toNat] = [c].flatMap encB from rfl)
  have HB := Lib.hid hbx; have HR := Lib.hid hrow; have HM := Lib.hid hm
  clear hbx hrow hm
  go_wp2_with (at_builtin; refine wpl_append_k w2 rfl (.tmp 13) (.tmp 15) elemB (by decide) rfl encB_one base (.slice a m cp) y.word rfl hW [Value.int .u8 c.toNat] [c] HC.out rfl 1 1 rfl rfl hz (by have := HM.out; unfold maxLen; simp; omega) (by have := HM.out; simp; omega) ?_; intro v3 w3 hown3 hg3 _; have hbx3 := Lib.hid ((hg3.block B (kblock_lt HB.out) (hW.ne_block HB.out (by decide))).trans HB.out); have hc3 := kcell hbx3.out 9 (.slice a m cp) (by rw [← HM.out]; rfl); have hf3 := kfrozen hbx3.out 9; obtain ⟨a3, c3, rfl⟩ := hown3.shape; generalize (y.word ++ [c]).length = n3 at hown3 ⊢)
  go_end0
  have hr := HR.out
  have hrow3 : SRow w3 base vd ve vo (.slice a3 n3 c3) { y with word := y.word ++ [c] } := ⟨hr.1.grown hW (by decide) (by decide) hg3, OwnK.kept2 hr.2.1 hW (by decide) hg3, OwnK.kept2 hr.2.2.1 hW (by decide) hg3, hown3⟩
  exact ⟨rfl, ⟨vd, ve, vo, .slice a3 n3 c3, kset hbx3.out 9 _, hrow3.set hbx3.out 9 _⟩, (hb2.grown hg3 hz (hW.far (by decide))).setCell (p := ⟨B, 9, none⟩) hBB _⟩
end Go.Proofs.Ytlgbdbaacjahpaa
