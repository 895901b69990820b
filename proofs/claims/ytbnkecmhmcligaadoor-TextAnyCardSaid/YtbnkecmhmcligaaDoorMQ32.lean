/-
  law25.known.
-/
import Derived.Test.YtbnkecmhmcligaaDoorMQ31
import Derived.Test.YtbnkecmhmcligaaDoorMQ13
namespace Go.Proofs.YtbnkecmhmcligaaDoor
set_option linter.unusedVariables false
set_option linter.unusedSimpArgs false
open Go.RowKit Go.Shelf
set_option maxRecDepth 20000
theorem nm_blk {W : World} {g : Nat} {T : TypeId} {xs : Nm} (h : W.heap[g]? = some (.cells (xs.map strV).toArray T)) : NmAt W (.slice (some ⟨g, 0, none⟩) xs.length xs.length) xs := by
  refine ⟨⟨_, _, rfl, .inr ⟨g, 0, rfl, kblock_lt h, fun j hj => ?_⟩⟩, ⟨_, _, _, rfl, Nat.le_refl _, fun e => by cases e⟩⟩
  have := kcell h j (strV xs[j]) (by simp [hj])
  rw [Nat.zero_add]; exact this
theorem slAt_blkR {W : World} {g : Nat} {T : TypeId} {xs : List Value} (h : W.heap[g]? = some (.cells xs.toArray T)) : SlAt W (.slice (some ⟨g, 0, none⟩) xs.length xs.length) xs := by
  refine ⟨_, _, rfl, Nat.le_refl _, (fun e => by cases e), .inr ⟨g, 0, rfl, kblock_lt h, fun j hj => ?_⟩⟩
  have := kcell h j xs[j] (by simp [hj])
  rw [Nat.zero_add]; exact this
theorem rows_one {α : Type} {At : World → List Value → α → Prop} {W : World} {g : Nat} {T : TypeId} {cs : List Value} {x : α} (h : W.heap[g]? = some (.cells cs.toArray T)) (hA : At W cs x) : RowsAt At W (.slice (some ⟨g, 0, none⟩) 1 1) [x] := by
  refine ⟨[cs], slK_blk (css := [cs]) (T := T) (by simpa using h), rfl, fun j h1 h2 => ?_⟩
  obtain rfl : j = 0 := by simpa using h1
  exact hA
def kR : Rp := ⟨[⟨[122], 3, 2⟩], [⟨3, [[97]], 2⟩], [⟨4, [], [[97]], [], 0⟩], [⟨6, [[97]], 1, [0, 2]⟩], 11⟩
def kR1 : Rp := ⟨[], [], [], [], 11⟩
def kR0 : Rp := ⟨[], [], [], [], 0⟩
theorem nmW_a : NmW [[97]] := ⟨⟨by decide, by decide⟩, by decide +kernel⟩
theorem nmW_0 : NmW [] := ⟨⟨by decide, by decide⟩, by decide +kernel⟩
theorem i64_d {n : Int} (h : -9223372036854775808 ≤ n ∧ n ≤ 9223372036854775807) : I64 n := h
theorem kR_ok : RpOK kR where
  errs := by intro f hf; rw [List.mem_singleton.1 hf]; exact ⟨by decide, i64_d (by decide), by decide⟩
  flaws := by intro f hf; rw [List.mem_singleton.1 hf]; exact ⟨by decide, nmW_a, i64_d (by decide)⟩
  edges := by intro f hf; rw [List.mem_singleton.1 hf]; exact ⟨by decide, nmW_0, nmW_a, nmW_0, i64_d (by decide)⟩
  seen := by
    intro f hf; rw [List.mem_singleton.1 hf]
    refine ⟨by decide, nmW_a, i64_d (by decide), by decide, fun p hp => ?_⟩
    simp at hp
    unfold I64; rcases hp with rfl | rfl <;> omega
  err := by show (0 : Int) ≤ 11 ∧ (11 : Int) < 13; omega
  few := ⟨by decide, by decide, by decide, by decide⟩
theorem rp0_ok (e : Int) (h : 0 ≤ e ∧ e < 13) : RpOK ⟨[], [], [], [], e⟩ := ⟨by simp, by simp, by simp, by simp, h, by simp⟩
theorem rp0_at (W : World) (e : Int) : RpAt W (.slice none 0 0) (.slice none 0 0) (.slice none 0 0) (.slice none 0 0) ⟨[], [], [], [], e⟩ := ⟨RowsAt.nil _ _, RowsAt.nil _ _, RowsAt.nil _ _, RowsAt.nil _ _⟩
theorem kR_lines : linesM kR = [[101, 114, 114, 111, 114, 32, 122, 58, 51, 58, 32, 102, 111, 114, 109], [102, 108, 97, 119, 32, 110, 111, 110, 115, 32, 97, 46, 32, 78, 83], [101, 100, 103, 101, 32, 110, 111, 99, 104, 105, 108, 100, 32, 46, 32, 97, 46, 32, 45, 32, 48], [115, 101, 101, 110, 32, 108, 97, 109, 101, 32, 97, 46, 32, 65, 32, 48, 44, 50], [115, 116, 111, 112, 112, 101, 100, 32, 109, 97, 110, 121]] := by decide +kernel
theorem kR1_text : textM ⟨[], [], [], [], 11⟩ = [115, 116, 111, 112, 112, 101, 100, 32, 109, 97, 110, 121, 10] := by decide +kernel
theorem kR0_text : textM ⟨[], [], [], [], 0⟩ = [] := by decide +kernel
theorem kR_at {W : World} {b0 b1 b2 b3 b4 b5 b6 : Nat} {T0 T1 T2 T3 T4 T5 T6 : TypeId} (h0 : W.heap[b0]? = some (.cells #[.string ⟨#[97]⟩] T0)) (h1 : W.heap[b1]? = some (.cells #[.string ⟨#[122]⟩, .int .i64 3, .int .i64 2] T1)) (h2 : W.heap[b2]? = some (.cells #[.pointer (some ⟨b1, 0, none⟩)] T2))
    (h3 : W.heap[b3]? = some (.cells #[.int .i64 3, .slice (some ⟨b0, 0, none⟩) 1 1, .int .i64 2] T3)) (h4 : W.heap[b4]? = some (.cells #[.int .i64 4, .slice none 0 0, .slice (some ⟨b0, 0, none⟩) 1 1, .slice none 0 0, .int .i64 0] T4))
    (h5 : W.heap[b5]? = some (.cells #[.int .i64 0, .int .i64 2] T5)) (h6 : W.heap[b6]? = some (.cells #[.int .i64 6, .slice (some ⟨b0, 0, none⟩) 1 1, .int .i64 1, .slice (some ⟨b5, 0, none⟩) 2 2] T6)) :
    RpAt W (.slice (some ⟨b2, 0, none⟩) 1 1) (.slice (some ⟨b3, 0, none⟩) 1 1) (.slice (some ⟨b4, 0, none⟩) 1 1) (.slice (some ⟨b6, 0, none⟩) 1 1) kR := by
  have hn : NmAt W (.slice (some ⟨b0, 0, none⟩) 1 1) [[97]] := nm_blk (xs := [[97]]) h0
  refine ⟨rows_one (cs := [_]) h2 ⟨b1, rfl, kblock_lt h1, kcell h1 0 _ rfl, kcell h1 1 _ rfl, kcell h1 2 _ rfl⟩, rows_one (cs := [_, _, _]) h3 ⟨_, rfl, hn⟩, rows_one (cs := [_, _, _, _, _]) h4 ⟨_, _, _, rfl, nm_nil W, hn, nm_nil W⟩, rows_one (cs := [_, _, _, _]) h6 ⟨_, _, rfl, hn, slAt_blkR (xs := [.int .i64 0, .int .i64 2]) h5⟩⟩
theorem strs5 {W : World} {v : Value} {x0 x1 x2 x3 x4 : List UInt8} (h : StrsAt W v [x0, x1, x2, x3, x4]) : ∃ b off c, v = .slice (some ⟨b, off, none⟩) 5 c ∧ W.cell? ⟨b, off, none⟩ = some (strV x0) ∧ W.cell? ⟨b, off + 1, none⟩ = some (strV x1) ∧ W.cell? ⟨b, off + 2, none⟩ = some (strV x2) ∧ W.cell? ⟨b, off + 3, none⟩ = some (strV x3) ∧ W.cell? ⟨b, off + 4, none⟩ = some (strV x4) := by
  obtain ⟨a, c, rfl, hx⟩ := h
  rcases hx with hx | ⟨b, off, rfl, hb, hc⟩
  · cases hx
  · exact ⟨b, off, c, rfl, hc 0 (by simp), hc 1 (by simp), hc 2 (by simp), hc 3 (by simp), hc 4 (by simp)⟩
theorem alloc_get (W : World) (o : Obj) (k : Nat) : (W.alloc o).heap[k]? = if k = W.heap.size then some o else W.heap[k]? := by
  by_cases h : k = W.heap.size
  · rw [if_pos h, h]; exact knew W o
  · rw [if_neg h]
    by_cases h2 : k < W.heap.size
    · exact ((Below.refl W.heap.size W).alloc (Nat.le_refl _) o).block k h2
    · rw [Array.getElem?_eq_none (by rw [World.size_alloc]; omega), Array.getElem?_eq_none (by omega)]
section
set_option maxRecDepth 100000 in
set_option maxHeartbeats 8000000 in
theorem law25_known (w : World) (hT : Tab w) : Calls Tryd.prog 5 #[] w fun e w' => e = .returned (.bool true) ∧ Below w.heap.size w w' := by
  have HT := Lib.hid hT
  clear hT
  go_enter Tryd.func5, Tryd.ntmps5
  go_wp2_with fail
  refine (text_Lines _ _ _ _ kR _ (kR_at (b0 := w.heap.size) (b1 := w.heap.size + 1) (b2 := w.heap.size + 1 + 1) (b3 := w.heap.size + 1 + 1 + 1) (b4 := w.heap.size + 1 + 1 + 1 + 1) (b5 := w.heap.size + 1 + 1 + 1 + 1 + 1) (b6 := w.heap.size + 1 + 1 + 1 + 1 + 1 + 1) (by simp only [alloc_get, World.size_alloc]; repeat' (first | split | (exfalso; omega) | exact absurd trivial ‹¬True› | rfl)) (by simp only [alloc_get, World.size_alloc]; repeat' (first | split | (exfalso; omega) | exact absurd trivial ‹¬True› | rfl)) (by simp only [alloc_get, World.size_alloc]; repeat' (first | split | (exfalso; omega) | exact absurd trivial ‹¬True› | rfl)) (by simp only [alloc_get, World.size_alloc]; repeat' (first | split | (exfalso; omega) | exact absurd trivial ‹¬True› | rfl)) (by simp only [alloc_get, World.size_alloc]; repeat' (first | split | (exfalso; omega) | exact absurd trivial ‹¬True› | rfl)) (by simp only [alloc_get, World.size_alloc]; repeat' (first | split | (exfalso; omega) | exact absurd trivial ‹¬True› | rfl)) (by simp only [alloc_get, World.size_alloc]; repeat' (first | split | (exfalso; omega) | exact absurd trivial ‹¬True› | rfl))) kR_ok (HT.out.below ?_) 11 rfl).mono ?_
  · exact ((((((((Below.refl w.heap.size w).alloc (Nat.le_refl _) _).alloc (by simp) _).alloc (by simp; omega) _).alloc (by simp; omega) _).alloc (by simp; omega) _).alloc (by simp; omega) _).alloc (by simp; omega) _).alloc (by simp; omega) _
  rintro e w1 ⟨v1, rfl, ho, hb⟩
  have hb1 : Below w.heap.size w w1 := (((((((((Below.refl w.heap.size w).alloc (Nat.le_refl _) _).alloc (by simp) _).alloc (by simp; omega) _).alloc (by simp; omega) _).alloc (by simp; omega) _).alloc (by simp; omega) _).alloc (by simp; omega) _).alloc (by simp; omega) _).trans (hb.mono (by simp; omega))
  have hs := StrsAt.of_own ho
  rw [kR_lines] at hs
  obtain ⟨b, off, c, rfl, c0, c1, c2, c3, c4⟩ := strs5 hs
  have HB1 := Lib.hid hb1
  clear ho hb hs hb1
  unfold strV at c0 c1 c2 c3 c4
  have hT1 := fun W (hb : Below w.heap.size w W) => text_Text _ _ _ _ ⟨[], [], [], [], 11⟩ W (rp0_at W 11) (rp0_ok 11 (by omega)) (HT.out.below hb) 11 rfl
  have hT0 := fun W (hb : Below w.heap.size w W) => text_Text _ _ _ _ ⟨[], [], [], [], 0⟩ W (rp0_at W 0) (rp0_ok 0 (by omega)) (HT.out.below hb) 0 rfl
  rw [kR1_text] at hT1
  rw [kR0_text] at hT0
  have h1 := hT1 w1 HB1.out
  have HT0 := Lib.hid hT0
  clear hT1 hT0
  go_wp2_with fail
  refine h1.mono ?_
  rintro e w2 ⟨rfl, hb2⟩
  have HB2 := Lib.hid (HB1.out.trans (hb2.mono HB1.out.size))
  have h0 := HT0.out w2 HB2.out
  clear h1 hb2 c0 c1 c2 c3 c4
  go_wp2_with fail
  refine h0.mono ?_
  rintro e w3 ⟨rfl, hb3⟩
  have HB3 := Lib.hid (HB2.out.trans (hb3.mono HB2.out.size))
  clear hb3 h0
  go_wp2
  go_ret
  exact ⟨rfl, HB3.out⟩
end
end Go.Proofs.YtbnkecmhmcligaaDoor

