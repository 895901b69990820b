/-
  The program's scan: tok.scan's openAt, shut.
-/
import Derived.Test.YtlgbdbaacjahpaaTokS
namespace Go.Proofs.Ytlgbdbaacjahpaa
open Go.RowKit Go.Shelf
set_option maxRecDepth 20000

theorem OwnK.cap {α : Type} {k : Nat} {T : TypeId} {enc : α → List Value} {W : World} {base : Nat} {a : Option Addr} {n c : Nat} {xs : List α} (h : OwnK k T enc W base (.slice a n c) xs) : n ≤ c := by
  rcases h.2 with ⟨e, h0⟩ | ⟨g, cap, cur, e, hb, hg, hc, _⟩
  · cases e; omega
  · cases e; exact hc
def ScanPostE (B base : Nat) (p : KS × Int) (w : World) (e : Ending) (w' : World) : Prop := e = .returned (.int .i64 p.2) ∧ SBox w' B base p.1 ∧ Fr base w w'
theorem elemI : ElemK 1 3 44 8 := ⟨Try.underlying44, _, _, rfl, rfl, rfl, rfl, rfl⟩
theorem encI_one (c : Nat) : ∀ u ∈ encI c, u.oneCell' = true := by intro u hu; simp [encI] at hu; subst hu; rfl
theorem start_opn (x : KS) : (kStart x).opn = x.opn := by unfold kStart; split <;> rfl
set_option maxRecDepth 100000 in
set_option maxHeartbeats 4000000 in
theorem scan_openAt (B base : Nat) (x : KS) (n : Nat) (w : World) (hS : SBox w B base x) (hbase : base ≤ w.heap.size) (hBb : base ≤ B) (hl : x.opn.length ≤ 8) :
    Calls Try.prog 23 #[.pointer (some ⟨B, 0, none⟩), .int .i64 (n : Int)] w (ScanPostE B base (kOpen n x) w) := by
  have hBB := hS.rbox hBb
  have hP := scan_start B base x w hS hbase hBb
  obtain ⟨vd0, ve0, vo0, vw0, hbx0, hrow0⟩ := id hS
  obtain ⟨a0, c0, rfl⟩ := hrow0.2.2.1.shape
  have HS := Lib.hid hS; have HL := Lib.hid hl
  have hc5 := kcell hbx0 5 (.slice a0 x.opn.length c0) rfl
  clear hbx0 hrow0 hS
  by_cases h8 : x.opn.length = 8
  · have H8 := Lib.hid h8
    rw [h8] at hc5
    clear hP hl
    go_enter Try.func23, Try.ntmps23
    go_wp2_with fail
    go_ret
    have e : kOpen n x = (x, 10) := by unfold kOpen; rw [if_pos H8.out]
    rw [e]
    exact ⟨rfl, HS.out, Fr.refl base w⟩
  · have H8 := Lib.hid h8
    have hz : (((x.opn.length : Nat) : Int) == 8) = false := by simpa using (by omega : (x.opn.length : Int) ≠ 8)
    have e : kOpen n x = ({ kStart x with opn := x.opn ++ [n] }, 0) := by unfold kOpen; rw [if_neg H8.out, start_opn]
    rw [e]
    have ho : (kStart x).opn = x.opn := start_opn x
    generalize kStart x = y at hP ho ⊢
    have HO := Lib.hid ho
    clear e ho hl
    go_enter Try.func23, Try.ntmps23
    go_wp2_with fail
    refine hP.mono ?_
    rintro e w2 ⟨rfl, hS2, hb2⟩
    clear hP hc5
    obtain ⟨vd, ve, vo, vw, hbx, hrow⟩ := hS2
    obtain ⟨m, hm⟩ : ∃ m, x.opn.length = m := ⟨_, rfl⟩
    obtain ⟨a, cp, rfl⟩ := hrow.2.2.1.shape
    have hW : OwnK 1 3 encI w2 base (.slice a m cp) x.opn := by have h := hrow.2.2.1; rw [HO.out, hm] at h; exact h
    have hc := kcell hbx 5 (.slice a m cp) (by rw [← hm, ← HO.out]; rfl)
    have hf := kfrozen hbx 5
    have hz2 := Nat.le_trans hbase hb2.size
    have hmb : m ≤ 8 := by have := HL.out; omega
    have HC := Lib.hid (show [Value.int .i64 (n : Int)] = [n].flatMap encI from rfl)
    have HB := Lib.hid hbx; have HR := Lib.hid hrow; have HM := Lib.hid hm
    clear hbx hrow hm hz
    go_wp2_with (at_builtin; refine wpl_append_k w2 rfl (.tmp 17) (.tmp 19) elemI (by decide) rfl encI_one base (.slice a m cp) x.opn rfl hW [Value.int .i64 (n : Int)] [n] HC.out rfl 1 1 rfl rfl hz2 (by have := HM.out; unfold maxLen; simp; omega) (by have := HM.out; simp; omega) ?_; intro v3 w3 hown3 hg3 _; have hbx3 := Lib.hid ((hg3.block B (kblock_lt HB.out) (hW.ne_block HB.out (by decide))).trans HB.out); have hc3 := kcell hbx3.out 5 (.slice a m cp) (by rw [← HM.out, ← HO.out]; rfl); have hf3 := kfrozen hbx3.out 5; obtain ⟨a3, c3, rfl⟩ := hown3.shape; generalize (x.opn ++ [n]).length = n3 at hown3 ⊢)
    go_ret
    have hr := HR.out
    have hrow3 : SRow w3 base vd ve (.slice a3 n3 c3) vw { y with opn := x.opn ++ [n] } := ⟨hr.1.grown hW (by decide) (by decide) hg3, OwnK.kept2 hr.2.1 hW (by decide) hg3, hown3, OwnK.kept2 hr.2.2.2 hW (by decide) hg3⟩
    exact ⟨rfl, ⟨vd, ve, .slice a3 n3 c3, vw, kset hbx3.out 5 _, hrow3.set hbx3.out 5 _⟩, (hb2.grown hg3 hz2 (hW.far (by decide))).setCell (p := ⟨B, 5, none⟩) hBB _⟩

set_option maxRecDepth 100000 in
set_option maxHeartbeats 4000000 in
theorem scan_shut (B base : Nat) (x : KS) (w : World) (hS : SBox w B base x) (_ : base ≤ w.heap.size) (hBb : base ≤ B) (hl : x.opn.length ≤ 8) :
    Calls Try.prog 24 #[.pointer (some ⟨B, 0, none⟩)] w (ScanPostE B base (kShut x) w) := by
  have hBB := hS.rbox hBb
  obtain ⟨vd, ve, vo, vw, hbx, hrow⟩ := id hS
  obtain ⟨a, c, rfl⟩ := hrow.2.2.1.shape
  have HS := Lib.hid hS
  have hc5 := kcell hbx 5 (.slice a x.opn.length c) rfl
  have hf5 := kfrozen hbx 5
  have HB := Lib.hid hbx; have HR := Lib.hid hrow
  clear hbx hrow hS
  by_cases h0 : x.opn = []
  · have e : kShut x = (x, 2) := by unfold kShut; rw [if_pos h0]
    rw [e]
    rw [h0] at hc5
    simp only [List.length_nil] at hc5
    clear e h0 hl
    go_enter Try.func24, Try.ntmps24
    go_wp2_with fail
    go_ret
    exact ⟨rfl, HS.out, Fr.refl base w⟩
  · have e : kShut x = ({ x with opn := x.opn.dropLast }, 0) := by unfold kShut; rw [if_neg h0]
    rw [e]
    obtain ⟨m, hm⟩ : ∃ m, x.opn.length = m + 1 := ⟨x.opn.length - 1, by have := List.length_pos_iff.2 h0; omega⟩
    rw [hm] at hc5
    have HM := Lib.hid hm
    have hmb : m ≤ 8 := by omega
    have hcap : m + 1 ≤ c := by have h := OwnK.cap HR.out.2.2.1; omega
    have hmc : m ≤ c := by omega
    have hwm : IntKind.i64.wrap (m : Int) = (m : Int) := by rw [IntKind.wrap_i64]; omega
    have hz : ((((m + 1 : Nat)) : Int) == 0) = false := by simpa using (by omega : ((m : Int) + 1) ≠ 0)
    clear e h0 hl hm
    go_enter Try.func24, Try.ntmps24
    go_wp2_with fail
    refine kregion_tail 12 (by kernel_rfl) (by kernel_rfl) ?_
    have hbw : Fr base w w.drew := (Fr.refl base w).drew
    replace hc5 : w.drew.cell? _ = _ := hc5
    replace hf5 : w.drew.frozen? _ = _ := hf5
    replace HB : Hid (w.drew.heap[B]? = _) := HB
    replace HR : Hid (SRow w.drew base vd ve (.slice a x.opn.length c) vw x) := HR
    simp only [List.take_succ_cons, List.take_zero, List.drop_succ_cons, List.drop_zero]
    generalize w.drew = wd at *
    repeat still_step
    refine wpStill_nil ?_
    go_wp2_with fail
    go_ret
    have hd : x.opn.dropLast = x.opn.take m := by rw [List.dropLast_eq_take, HM.out]; rfl
    have hr := HR.out
    have hW : OwnK 1 3 encI wd base (.slice a m c) (x.opn.take m) := OwnK.cut hr.2.2.1 m (by have := HM.out; omega) (fun _ => rfl)
    rw [← hd] at hW
    have hrow3 : SRow wd base vd ve (.slice a m c) vw { x with opn := x.opn.dropLast } := ⟨hr.1, hr.2.1, hW, hr.2.2.2⟩
    exact ⟨rfl, ⟨vd, ve, .slice a m c, vw, kset HB.out 5 _, hrow3.set HB.out 5 _⟩, hbw.setCell (p := ⟨B, 5, none⟩) hBB _⟩
end Go.Proofs.Ytlgbdbaacjahpaa
