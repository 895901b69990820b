/-
  law12.known holds. (Written by wip/tools/genzk.py.)
-/
import Derived.Test.YtckammgnmgkieaaGreatMQ21
import Derived.Deep.RegionHeld3
namespace Go.Proofs.YtckammgnmgkieaaGreat
set_option maxRecDepth 20000
open Go.RowKit Go.Shelf
set_option maxRecDepth 20000
set_option linter.unusedVariables false
set_option linter.unusedSimpArgs false
def allocs (w : World) (os : List Obj) : World := os.foldl World.alloc w
theorem allocs_below : ∀ (os : List Obj) (w : World), Below w.heap.size w (allocs w os)
  | [], w => Below.refl _ _
  | x :: r, w => by
    have h1 := (Below.refl w.heap.size w).alloc (Nat.le_refl _) x
    exact h1.trans ((allocs_below r (w.alloc x)).mono (by simp))
theorem allocs_at : ∀ (os : List Obj) (w : World) (i : Nat) (h : i < os.length), (allocs w os).heap[w.heap.size + i]? = some os[i]
  | [], w, i, h => by simp at h
  | x :: r, w, 0, _ => ((allocs_below r (w.alloc x)).block w.heap.size (by simp)).trans (knew w x)
  | x :: r, w, i + 1, h => by
    have := allocs_at r (w.alloc x) i (by simpa using h)
    rw [World.size_alloc] at this
    rw [show w.heap.size + (i + 1) = w.heap.size + 1 + i by omega]
    exact this
theorem nm_lit' {W : World} {g : Nat} {l : List Value} {T : TypeId} {n : Nm} (h : W.heap[g]? = some (.cells l.toArray T)) (e : n.map strV = l) : NmAt W (.slice (some ⟨g, 0, none⟩) l.length l.length) n := nmAt_sl.2 (by rw [e]; exact slAt_blk h)
set_option maxRecDepth 100000 in
set_option maxHeartbeats 16000000 in
theorem law12_known (w : World) :
    Calls Tryz.prog 25 #[] w fun e w' => e = .returned (.bool true) ∧ Below w.heap.size w w' := by
  go_enter Tryz.func25, Tryz.ntmps25
  go_wp2_with fail
  obtain ⟨n, hn⟩ : ∃ n, w.heap.size = n := ⟨_, rfl⟩
  obtain ⟨W, hW⟩ : ∃ W, allocs w [(.cells #[.string ⟨#[111]⟩] 9), (.cells #[.string ⟨#[110, 115]⟩, .string ⟨#[115]⟩, .string ⟨#[111]⟩] 9), (.cells #[.slice (some ⟨n + 1, 0, none⟩) 3 3] 24), (.cells #[.int .i64 2, .slice (some ⟨n + 1 + 1, 0, none⟩) 1 1, .slice none 0 0, .slice none 0 0, .slice none 0 0] 101), (.cells #[.int .u8 1, .int .u8 2, .int .u8 3, .int .u8 4] 5), (.cells #[.int .i64 1, .slice none 0 0, .slice none 0 0, .slice none 0 0, .slice (some ⟨n + 1 + 1 + 1 + 1, 0, none⟩) 4 4] 101), (.cells #[.string ⟨#[83]⟩, .string ⟨#[111]⟩] 9), (.cells #[.string ⟨#[110, 115]⟩, .string ⟨#[115]⟩, .string ⟨#[111]⟩] 9), (.cells #[.string ⟨#[42]⟩, .string ⟨#[119]⟩, .string ⟨#[111]⟩] 9), (.cells #[.slice (some ⟨n, 0, none⟩) 1 1, .int .u32 0, .int .i64 2, .slice (some ⟨n + 1 + 1, 0, none⟩) 1 1, .slice none 0 0, .slice none 0 0, .slice none 0 0, .slice (some ⟨n + 1 + 1 + 1 + 1 + 1 + 1, 0, none⟩) 2 2, .int .u32 0, .int .i64 2, .slice (some ⟨n + 1 + 1, 0, none⟩) 1 1, .slice none 0 0, .slice none 0 0, .slice none 0 0, .slice (some ⟨n + 1 + 1 + 1 + 1 + 1 + 1 + 1, 0, none⟩) 3 3, .int .u32 0, .int .i64 1, .slice none 0 0, .slice none 0 0, .slice none 0 0, .slice (some ⟨n + 1 + 1 + 1 + 1, 0, none⟩) 4 4, .slice (some ⟨n + 1 + 1 + 1 + 1 + 1 + 1 + 1 + 1, 0, none⟩) 3 3, .int .u32 0, .int .i64 1, .slice none 0 0, .slice none 0 0, .slice none 0 0, .slice (some ⟨n + 1 + 1 + 1 + 1, 0, none⟩) 4 4] 103)] = W := ⟨_, rfl⟩
  have hB := allocs_below [(.cells #[.string ⟨#[111]⟩] 9), (.cells #[.string ⟨#[110, 115]⟩, .string ⟨#[115]⟩, .string ⟨#[111]⟩] 9), (.cells #[.slice (some ⟨n + 1, 0, none⟩) 3 3] 24), (.cells #[.int .i64 2, .slice (some ⟨n + 1 + 1, 0, none⟩) 1 1, .slice none 0 0, .slice none 0 0, .slice none 0 0] 101), (.cells #[.int .u8 1, .int .u8 2, .int .u8 3, .int .u8 4] 5), (.cells #[.int .i64 1, .slice none 0 0, .slice none 0 0, .slice none 0 0, .slice (some ⟨n + 1 + 1 + 1 + 1, 0, none⟩) 4 4] 101), (.cells #[.string ⟨#[83]⟩, .string ⟨#[111]⟩] 9), (.cells #[.string ⟨#[110, 115]⟩, .string ⟨#[115]⟩, .string ⟨#[111]⟩] 9), (.cells #[.string ⟨#[42]⟩, .string ⟨#[119]⟩, .string ⟨#[111]⟩] 9), (.cells #[.slice (some ⟨n, 0, none⟩) 1 1, .int .u32 0, .int .i64 2, .slice (some ⟨n + 1 + 1, 0, none⟩) 1 1, .slice none 0 0, .slice none 0 0, .slice none 0 0, .slice (some ⟨n + 1 + 1 + 1 + 1 + 1 + 1, 0, none⟩) 2 2, .int .u32 0, .int .i64 2, .slice (some ⟨n + 1 + 1, 0, none⟩) 1 1, .slice none 0 0, .slice none 0 0, .slice none 0 0, .slice (some ⟨n + 1 + 1 + 1 + 1 + 1 + 1 + 1, 0, none⟩) 3 3, .int .u32 0, .int .i64 1, .slice none 0 0, .slice none 0 0, .slice none 0 0, .slice (some ⟨n + 1 + 1 + 1 + 1, 0, none⟩) 4 4, .slice (some ⟨n + 1 + 1 + 1 + 1 + 1 + 1 + 1 + 1, 0, none⟩) 3 3, .int .u32 0, .int .i64 1, .slice none 0 0, .slice none 0 0, .slice none 0 0, .slice (some ⟨n + 1 + 1 + 1 + 1, 0, none⟩) 4 4] 103)] w
  have k0 : W.heap[n]? = some (.cells #[.string ⟨#[111]⟩] 9) := by
    have h := allocs_at [(.cells #[.string ⟨#[111]⟩] 9), (.cells #[.string ⟨#[110, 115]⟩, .string ⟨#[115]⟩, .string ⟨#[111]⟩] 9), (.cells #[.slice (some ⟨n + 1, 0, none⟩) 3 3] 24), (.cells #[.int .i64 2, .slice (some ⟨n + 1 + 1, 0, none⟩) 1 1, .slice none 0 0, .slice none 0 0, .slice none 0 0] 101), (.cells #[.int .u8 1, .int .u8 2, .int .u8 3, .int .u8 4] 5), (.cells #[.int .i64 1, .slice none 0 0, .slice none 0 0, .slice none 0 0, .slice (some ⟨n + 1 + 1 + 1 + 1, 0, none⟩) 4 4] 101), (.cells #[.string ⟨#[83]⟩, .string ⟨#[111]⟩] 9), (.cells #[.string ⟨#[110, 115]⟩, .string ⟨#[115]⟩, .string ⟨#[111]⟩] 9), (.cells #[.string ⟨#[42]⟩, .string ⟨#[119]⟩, .string ⟨#[111]⟩] 9), (.cells #[.slice (some ⟨n, 0, none⟩) 1 1, .int .u32 0, .int .i64 2, .slice (some ⟨n + 1 + 1, 0, none⟩) 1 1, .slice none 0 0, .slice none 0 0, .slice none 0 0, .slice (some ⟨n + 1 + 1 + 1 + 1 + 1 + 1, 0, none⟩) 2 2, .int .u32 0, .int .i64 2, .slice (some ⟨n + 1 + 1, 0, none⟩) 1 1, .slice none 0 0, .slice none 0 0, .slice none 0 0, .slice (some ⟨n + 1 + 1 + 1 + 1 + 1 + 1 + 1, 0, none⟩) 3 3, .int .u32 0, .int .i64 1, .slice none 0 0, .slice none 0 0, .slice none 0 0, .slice (some ⟨n + 1 + 1 + 1 + 1, 0, none⟩) 4 4, .slice (some ⟨n + 1 + 1 + 1 + 1 + 1 + 1 + 1 + 1, 0, none⟩) 3 3, .int .u32 0, .int .i64 1, .slice none 0 0, .slice none 0 0, .slice none 0 0, .slice (some ⟨n + 1 + 1 + 1 + 1, 0, none⟩) 4 4] 103)] w 0 (by simp)
    rw [hW, hn] at h; exact h
  have k1 : W.heap[n + 1]? = some (.cells #[.string ⟨#[110, 115]⟩, .string ⟨#[115]⟩, .string ⟨#[111]⟩] 9) := by
    have h := allocs_at [(.cells #[.string ⟨#[111]⟩] 9), (.cells #[.string ⟨#[110, 115]⟩, .string ⟨#[115]⟩, .string ⟨#[111]⟩] 9), (.cells #[.slice (some ⟨n + 1, 0, none⟩) 3 3] 24), (.cells #[.int .i64 2, .slice (some ⟨n + 1 + 1, 0, none⟩) 1 1, .slice none 0 0, .slice none 0 0, .slice none 0 0] 101), (.cells #[.int .u8 1, .int .u8 2, .int .u8 3, .int .u8 4] 5), (.cells #[.int .i64 1, .slice none 0 0, .slice none 0 0, .slice none 0 0, .slice (some ⟨n + 1 + 1 + 1 + 1, 0, none⟩) 4 4] 101), (.cells #[.string ⟨#[83]⟩, .string ⟨#[111]⟩] 9), (.cells #[.string ⟨#[110, 115]⟩, .string ⟨#[115]⟩, .string ⟨#[111]⟩] 9), (.cells #[.string ⟨#[42]⟩, .string ⟨#[119]⟩, .string ⟨#[111]⟩] 9), (.cells #[.slice (some ⟨n, 0, none⟩) 1 1, .int .u32 0, .int .i64 2, .slice (some ⟨n + 1 + 1, 0, none⟩) 1 1, .slice none 0 0, .slice none 0 0, .slice none 0 0, .slice (some ⟨n + 1 + 1 + 1 + 1 + 1 + 1, 0, none⟩) 2 2, .int .u32 0, .int .i64 2, .slice (some ⟨n + 1 + 1, 0, none⟩) 1 1, .slice none 0 0, .slice none 0 0, .slice none 0 0, .slice (some ⟨n + 1 + 1 + 1 + 1 + 1 + 1 + 1, 0, none⟩) 3 3, .int .u32 0, .int .i64 1, .slice none 0 0, .slice none 0 0, .slice none 0 0, .slice (some ⟨n + 1 + 1 + 1 + 1, 0, none⟩) 4 4, .slice (some ⟨n + 1 + 1 + 1 + 1 + 1 + 1 + 1 + 1, 0, none⟩) 3 3, .int .u32 0, .int .i64 1, .slice none 0 0, .slice none 0 0, .slice none 0 0, .slice (some ⟨n + 1 + 1 + 1 + 1, 0, none⟩) 4 4] 103)] w 1 (by simp)
    rw [hW, hn] at h; exact h
  have k2 : W.heap[n + 1 + 1]? = some (.cells #[.slice (some ⟨n + 1, 0, none⟩) 3 3] 24) := by
    have h := allocs_at [(.cells #[.string ⟨#[111]⟩] 9), (.cells #[.string ⟨#[110, 115]⟩, .string ⟨#[115]⟩, .string ⟨#[111]⟩] 9), (.cells #[.slice (some ⟨n + 1, 0, none⟩) 3 3] 24), (.cells #[.int .i64 2, .slice (some ⟨n + 1 + 1, 0, none⟩) 1 1, .slice none 0 0, .slice none 0 0, .slice none 0 0] 101), (.cells #[.int .u8 1, .int .u8 2, .int .u8 3, .int .u8 4] 5), (.cells #[.int .i64 1, .slice none 0 0, .slice none 0 0, .slice none 0 0, .slice (some ⟨n + 1 + 1 + 1 + 1, 0, none⟩) 4 4] 101), (.cells #[.string ⟨#[83]⟩, .string ⟨#[111]⟩] 9), (.cells #[.string ⟨#[110, 115]⟩, .string ⟨#[115]⟩, .string ⟨#[111]⟩] 9), (.cells #[.string ⟨#[42]⟩, .string ⟨#[119]⟩, .string ⟨#[111]⟩] 9), (.cells #[.slice (some ⟨n, 0, none⟩) 1 1, .int .u32 0, .int .i64 2, .slice (some ⟨n + 1 + 1, 0, none⟩) 1 1, .slice none 0 0, .slice none 0 0, .slice none 0 0, .slice (some ⟨n + 1 + 1 + 1 + 1 + 1 + 1, 0, none⟩) 2 2, .int .u32 0, .int .i64 2, .slice (some ⟨n + 1 + 1, 0, none⟩) 1 1, .slice none 0 0, .slice none 0 0, .slice none 0 0, .slice (some ⟨n + 1 + 1 + 1 + 1 + 1 + 1 + 1, 0, none⟩) 3 3, .int .u32 0, .int .i64 1, .slice none 0 0, .slice none 0 0, .slice none 0 0, .slice (some ⟨n + 1 + 1 + 1 + 1, 0, none⟩) 4 4, .slice (some ⟨n + 1 + 1 + 1 + 1 + 1 + 1 + 1 + 1, 0, none⟩) 3 3, .int .u32 0, .int .i64 1, .slice none 0 0, .slice none 0 0, .slice none 0 0, .slice (some ⟨n + 1 + 1 + 1 + 1, 0, none⟩) 4 4] 103)] w 2 (by simp)
    rw [hW, hn] at h; exact h
  have k4 : W.heap[n + 1 + 1 + 1 + 1]? = some (.cells #[.int .u8 1, .int .u8 2, .int .u8 3, .int .u8 4] 5) := by
    have h := allocs_at [(.cells #[.string ⟨#[111]⟩] 9), (.cells #[.string ⟨#[110, 115]⟩, .string ⟨#[115]⟩, .string ⟨#[111]⟩] 9), (.cells #[.slice (some ⟨n + 1, 0, none⟩) 3 3] 24), (.cells #[.int .i64 2, .slice (some ⟨n + 1 + 1, 0, none⟩) 1 1, .slice none 0 0, .slice none 0 0, .slice none 0 0] 101), (.cells #[.int .u8 1, .int .u8 2, .int .u8 3, .int .u8 4] 5), (.cells #[.int .i64 1, .slice none 0 0, .slice none 0 0, .slice none 0 0, .slice (some ⟨n + 1 + 1 + 1 + 1, 0, none⟩) 4 4] 101), (.cells #[.string ⟨#[83]⟩, .string ⟨#[111]⟩] 9), (.cells #[.string ⟨#[110, 115]⟩, .string ⟨#[115]⟩, .string ⟨#[111]⟩] 9), (.cells #[.string ⟨#[42]⟩, .string ⟨#[119]⟩, .string ⟨#[111]⟩] 9), (.cells #[.slice (some ⟨n, 0, none⟩) 1 1, .int .u32 0, .int .i64 2, .slice (some ⟨n + 1 + 1, 0, none⟩) 1 1, .slice none 0 0, .slice none 0 0, .slice none 0 0, .slice (some ⟨n + 1 + 1 + 1 + 1 + 1 + 1, 0, none⟩) 2 2, .int .u32 0, .int .i64 2, .slice (some ⟨n + 1 + 1, 0, none⟩) 1 1, .slice none 0 0, .slice none 0 0, .slice none 0 0, .slice (some ⟨n + 1 + 1 + 1 + 1 + 1 + 1 + 1, 0, none⟩) 3 3, .int .u32 0, .int .i64 1, .slice none 0 0, .slice none 0 0, .slice none 0 0, .slice (some ⟨n + 1 + 1 + 1 + 1, 0, none⟩) 4 4, .slice (some ⟨n + 1 + 1 + 1 + 1 + 1 + 1 + 1 + 1, 0, none⟩) 3 3, .int .u32 0, .int .i64 1, .slice none 0 0, .slice none 0 0, .slice none 0 0, .slice (some ⟨n + 1 + 1 + 1 + 1, 0, none⟩) 4 4] 103)] w 4 (by simp)
    rw [hW, hn] at h; exact h
  have k6 : W.heap[n + 1 + 1 + 1 + 1 + 1 + 1]? = some (.cells #[.string ⟨#[83]⟩, .string ⟨#[111]⟩] 9) := by
    have h := allocs_at [(.cells #[.string ⟨#[111]⟩] 9), (.cells #[.string ⟨#[110, 115]⟩, .string ⟨#[115]⟩, .string ⟨#[111]⟩] 9), (.cells #[.slice (some ⟨n + 1, 0, none⟩) 3 3] 24), (.cells #[.int .i64 2, .slice (some ⟨n + 1 + 1, 0, none⟩) 1 1, .slice none 0 0, .slice none 0 0, .slice none 0 0] 101), (.cells #[.int .u8 1, .int .u8 2, .int .u8 3, .int .u8 4] 5), (.cells #[.int .i64 1, .slice none 0 0, .slice none 0 0, .slice none 0 0, .slice (some ⟨n + 1 + 1 + 1 + 1, 0, none⟩) 4 4] 101), (.cells #[.string ⟨#[83]⟩, .string ⟨#[111]⟩] 9), (.cells #[.string ⟨#[110, 115]⟩, .string ⟨#[115]⟩, .string ⟨#[111]⟩] 9), (.cells #[.string ⟨#[42]⟩, .string ⟨#[119]⟩, .string ⟨#[111]⟩] 9), (.cells #[.slice (some ⟨n, 0, none⟩) 1 1, .int .u32 0, .int .i64 2, .slice (some ⟨n + 1 + 1, 0, none⟩) 1 1, .slice none 0 0, .slice none 0 0, .slice none 0 0, .slice (some ⟨n + 1 + 1 + 1 + 1 + 1 + 1, 0, none⟩) 2 2, .int .u32 0, .int .i64 2, .slice (some ⟨n + 1 + 1, 0, none⟩) 1 1, .slice none 0 0, .slice none 0 0, .slice none 0 0, .slice (some ⟨n + 1 + 1 + 1 + 1 + 1 + 1 + 1, 0, none⟩) 3 3, .int .u32 0, .int .i64 1, .slice none 0 0, .slice none 0 0, .slice none 0 0, .slice (some ⟨n + 1 + 1 + 1 + 1, 0, none⟩) 4 4, .slice (some ⟨n + 1 + 1 + 1 + 1 + 1 + 1 + 1 + 1, 0, none⟩) 3 3, .int .u32 0, .int .i64 1, .slice none 0 0, .slice none 0 0, .slice none 0 0, .slice (some ⟨n + 1 + 1 + 1 + 1, 0, none⟩) 4 4] 103)] w 6 (by simp)
    rw [hW, hn] at h; exact h
  have k7 : W.heap[n + 1 + 1 + 1 + 1 + 1 + 1 + 1]? = some (.cells #[.string ⟨#[110, 115]⟩, .string ⟨#[115]⟩, .string ⟨#[111]⟩] 9) := by
    have h := allocs_at [(.cells #[.string ⟨#[111]⟩] 9), (.cells #[.string ⟨#[110, 115]⟩, .string ⟨#[115]⟩, .string ⟨#[111]⟩] 9), (.cells #[.slice (some ⟨n + 1, 0, none⟩) 3 3] 24), (.cells #[.int .i64 2, .slice (some ⟨n + 1 + 1, 0, none⟩) 1 1, .slice none 0 0, .slice none 0 0, .slice none 0 0] 101), (.cells #[.int .u8 1, .int .u8 2, .int .u8 3, .int .u8 4] 5), (.cells #[.int .i64 1, .slice none 0 0, .slice none 0 0, .slice none 0 0, .slice (some ⟨n + 1 + 1 + 1 + 1, 0, none⟩) 4 4] 101), (.cells #[.string ⟨#[83]⟩, .string ⟨#[111]⟩] 9), (.cells #[.string ⟨#[110, 115]⟩, .string ⟨#[115]⟩, .string ⟨#[111]⟩] 9), (.cells #[.string ⟨#[42]⟩, .string ⟨#[119]⟩, .string ⟨#[111]⟩] 9), (.cells #[.slice (some ⟨n, 0, none⟩) 1 1, .int .u32 0, .int .i64 2, .slice (some ⟨n + 1 + 1, 0, none⟩) 1 1, .slice none 0 0, .slice none 0 0, .slice none 0 0, .slice (some ⟨n + 1 + 1 + 1 + 1 + 1 + 1, 0, none⟩) 2 2, .int .u32 0, .int .i64 2, .slice (some ⟨n + 1 + 1, 0, none⟩) 1 1, .slice none 0 0, .slice none 0 0, .slice none 0 0, .slice (some ⟨n + 1 + 1 + 1 + 1 + 1 + 1 + 1, 0, none⟩) 3 3, .int .u32 0, .int .i64 1, .slice none 0 0, .slice none 0 0, .slice none 0 0, .slice (some ⟨n + 1 + 1 + 1 + 1, 0, none⟩) 4 4, .slice (some ⟨n + 1 + 1 + 1 + 1 + 1 + 1 + 1 + 1, 0, none⟩) 3 3, .int .u32 0, .int .i64 1, .slice none 0 0, .slice none 0 0, .slice none 0 0, .slice (some ⟨n + 1 + 1 + 1 + 1, 0, none⟩) 4 4] 103)] w 7 (by simp)
    rw [hW, hn] at h; exact h
  have k8 : W.heap[n + 1 + 1 + 1 + 1 + 1 + 1 + 1 + 1]? = some (.cells #[.string ⟨#[42]⟩, .string ⟨#[119]⟩, .string ⟨#[111]⟩] 9) := by
    have h := allocs_at [(.cells #[.string ⟨#[111]⟩] 9), (.cells #[.string ⟨#[110, 115]⟩, .string ⟨#[115]⟩, .string ⟨#[111]⟩] 9), (.cells #[.slice (some ⟨n + 1, 0, none⟩) 3 3] 24), (.cells #[.int .i64 2, .slice (some ⟨n + 1 + 1, 0, none⟩) 1 1, .slice none 0 0, .slice none 0 0, .slice none 0 0] 101), (.cells #[.int .u8 1, .int .u8 2, .int .u8 3, .int .u8 4] 5), (.cells #[.int .i64 1, .slice none 0 0, .slice none 0 0, .slice none 0 0, .slice (some ⟨n + 1 + 1 + 1 + 1, 0, none⟩) 4 4] 101), (.cells #[.string ⟨#[83]⟩, .string ⟨#[111]⟩] 9), (.cells #[.string ⟨#[110, 115]⟩, .string ⟨#[115]⟩, .string ⟨#[111]⟩] 9), (.cells #[.string ⟨#[42]⟩, .string ⟨#[119]⟩, .string ⟨#[111]⟩] 9), (.cells #[.slice (some ⟨n, 0, none⟩) 1 1, .int .u32 0, .int .i64 2, .slice (some ⟨n + 1 + 1, 0, none⟩) 1 1, .slice none 0 0, .slice none 0 0, .slice none 0 0, .slice (some ⟨n + 1 + 1 + 1 + 1 + 1 + 1, 0, none⟩) 2 2, .int .u32 0, .int .i64 2, .slice (some ⟨n + 1 + 1, 0, none⟩) 1 1, .slice none 0 0, .slice none 0 0, .slice none 0 0, .slice (some ⟨n + 1 + 1 + 1 + 1 + 1 + 1 + 1, 0, none⟩) 3 3, .int .u32 0, .int .i64 1, .slice none 0 0, .slice none 0 0, .slice none 0 0, .slice (some ⟨n + 1 + 1 + 1 + 1, 0, none⟩) 4 4, .slice (some ⟨n + 1 + 1 + 1 + 1 + 1 + 1 + 1 + 1, 0, none⟩) 3 3, .int .u32 0, .int .i64 1, .slice none 0 0, .slice none 0 0, .slice none 0 0, .slice (some ⟨n + 1 + 1 + 1 + 1, 0, none⟩) 4 4] 103)] w 8 (by simp)
    rw [hW, hn] at h; exact h
  have k9 : W.heap[n + 1 + 1 + 1 + 1 + 1 + 1 + 1 + 1 + 1]? = some (.cells #[.slice (some ⟨n, 0, none⟩) 1 1, .int .u32 0, .int .i64 2, .slice (some ⟨n + 1 + 1, 0, none⟩) 1 1, .slice none 0 0, .slice none 0 0, .slice none 0 0, .slice (some ⟨n + 1 + 1 + 1 + 1 + 1 + 1, 0, none⟩) 2 2, .int .u32 0, .int .i64 2, .slice (some ⟨n + 1 + 1, 0, none⟩) 1 1, .slice none 0 0, .slice none 0 0, .slice none 0 0, .slice (some ⟨n + 1 + 1 + 1 + 1 + 1 + 1 + 1, 0, none⟩) 3 3, .int .u32 0, .int .i64 1, .slice none 0 0, .slice none 0 0, .slice none 0 0, .slice (some ⟨n + 1 + 1 + 1 + 1, 0, none⟩) 4 4, .slice (some ⟨n + 1 + 1 + 1 + 1 + 1 + 1 + 1 + 1, 0, none⟩) 3 3, .int .u32 0, .int .i64 1, .slice none 0 0, .slice none 0 0, .slice none 0 0, .slice (some ⟨n + 1 + 1 + 1 + 1, 0, none⟩) 4 4] 103) := by
    have h := allocs_at [(.cells #[.string ⟨#[111]⟩] 9), (.cells #[.string ⟨#[110, 115]⟩, .string ⟨#[115]⟩, .string ⟨#[111]⟩] 9), (.cells #[.slice (some ⟨n + 1, 0, none⟩) 3 3] 24), (.cells #[.int .i64 2, .slice (some ⟨n + 1 + 1, 0, none⟩) 1 1, .slice none 0 0, .slice none 0 0, .slice none 0 0] 101), (.cells #[.int .u8 1, .int .u8 2, .int .u8 3, .int .u8 4] 5), (.cells #[.int .i64 1, .slice none 0 0, .slice none 0 0, .slice none 0 0, .slice (some ⟨n + 1 + 1 + 1 + 1, 0, none⟩) 4 4] 101), (.cells #[.string ⟨#[83]⟩, .string ⟨#[111]⟩] 9), (.cells #[.string ⟨#[110, 115]⟩, .string ⟨#[115]⟩, .string ⟨#[111]⟩] 9), (.cells #[.string ⟨#[42]⟩, .string ⟨#[119]⟩, .string ⟨#[111]⟩] 9), (.cells #[.slice (some ⟨n, 0, none⟩) 1 1, .int .u32 0, .int .i64 2, .slice (some ⟨n + 1 + 1, 0, none⟩) 1 1, .slice none 0 0, .slice none 0 0, .slice none 0 0, .slice (some ⟨n + 1 + 1 + 1 + 1 + 1 + 1, 0, none⟩) 2 2, .int .u32 0, .int .i64 2, .slice (some ⟨n + 1 + 1, 0, none⟩) 1 1, .slice none 0 0, .slice none 0 0, .slice none 0 0, .slice (some ⟨n + 1 + 1 + 1 + 1 + 1 + 1 + 1, 0, none⟩) 3 3, .int .u32 0, .int .i64 1, .slice none 0 0, .slice none 0 0, .slice none 0 0, .slice (some ⟨n + 1 + 1 + 1 + 1, 0, none⟩) 4 4, .slice (some ⟨n + 1 + 1 + 1 + 1 + 1 + 1 + 1 + 1, 0, none⟩) 3 3, .int .u32 0, .int .i64 1, .slice none 0 0, .slice none 0 0, .slice none 0 0, .slice (some ⟨n + 1 + 1 + 1 + 1, 0, none⟩) 4 4] 103)] w 9 (by simp)
    rw [hW, hn] at h; exact h
  rw [hW] at hB
  simp only [allocs, List.foldl_cons, List.foldl_nil] at hW
  have hN0 : NmAt W (.slice (some ⟨n, 0, none⟩) 1 1) [[111]] := nm_lit' (l := [.string ⟨#[111]⟩]) k0 rfl
  have hN1 : NmAt W (.slice (some ⟨n + 1, 0, none⟩) 3 3) [[110, 115], [115], [111]] := nm_lit' (l := [.string ⟨#[110, 115]⟩, .string ⟨#[115]⟩, .string ⟨#[111]⟩]) k1 rfl
  have hN6 : NmAt W (.slice (some ⟨n + 1 + 1 + 1 + 1 + 1 + 1, 0, none⟩) 2 2) [[83], [111]] := nm_lit' (l := [.string ⟨#[83]⟩, .string ⟨#[111]⟩]) k6 rfl
  have hN7 : NmAt W (.slice (some ⟨n + 1 + 1 + 1 + 1 + 1 + 1 + 1, 0, none⟩) 3 3) [[110, 115], [115], [111]] := nm_lit' (l := [.string ⟨#[110, 115]⟩, .string ⟨#[115]⟩, .string ⟨#[111]⟩]) k7 rfl
  have hN8 : NmAt W (.slice (some ⟨n + 1 + 1 + 1 + 1 + 1 + 1 + 1 + 1, 0, none⟩) 3 3) [[42], [119], [111]] := nm_lit' (l := [.string ⟨#[42]⟩, .string ⟨#[119]⟩, .string ⟨#[111]⟩]) k8 rfl
  have hD4 : SlAt W (.slice (some ⟨n + 1 + 1 + 1 + 1, 0, none⟩) 4 4) ([1, 2, 3, 4].map bv) := slAt_blk (l := [.int .u8 1, .int .u8 2, .int .u8 3, .int .u8 4]) k4
  have hD2 : SlAt W (.slice (some ⟨n + 1 + 1, 0, none⟩) 1 1) [.slice (some ⟨n + 1, 0, none⟩) 3 3] := slAt_blk (l := [.slice (some ⟨n + 1, 0, none⟩) 3 3]) k2
  have q1 : RcAt W [.slice (some ⟨n, 0, none⟩) 1 1, .int .u32 ((0 : Nat) : Int), .int .i64 2, .slice (some ⟨n + 1 + 1, 0, none⟩) 1 1, .slice none 0 0, .slice none 0 0, .slice none 0 0] kzR1 := ⟨_, _, _, _, _, rfl, hN0, _, _, _, _, rfl, ⟨_, hD2, rfl, fun i h1 => by
      match i, h1 with
      | 0, _ => exact hN1⟩, SlAt.nil _, nm_nil _, SlAt.nil _⟩
  have q2 : RcAt W [.slice (some ⟨n + 1 + 1 + 1 + 1 + 1 + 1, 0, none⟩) 2 2, .int .u32 ((0 : Nat) : Int), .int .i64 2, .slice (some ⟨n + 1 + 1, 0, none⟩) 1 1, .slice none 0 0, .slice none 0 0, .slice none 0 0] kzR2 := ⟨_, _, _, _, _, rfl, hN6, _, _, _, _, rfl, ⟨_, hD2, rfl, fun i h1 => by
      match i, h1 with
      | 0, _ => exact hN1⟩, SlAt.nil _, nm_nil _, SlAt.nil _⟩
  have q3 : RcAt W [.slice (some ⟨n + 1 + 1 + 1 + 1 + 1 + 1 + 1, 0, none⟩) 3 3, .int .u32 ((0 : Nat) : Int), .int .i64 1, .slice none 0 0, .slice none 0 0, .slice none 0 0, .slice (some ⟨n + 1 + 1 + 1 + 1, 0, none⟩) 4 4] kzR3 := ⟨_, _, _, _, _, rfl, hN7, _, _, _, _, rfl, NmsAt.nil _, SlAt.nil _, nm_nil _, hD4⟩
  have q4 : RcAt W [.slice (some ⟨n + 1 + 1 + 1 + 1 + 1 + 1 + 1 + 1, 0, none⟩) 3 3, .int .u32 ((0 : Nat) : Int), .int .i64 1, .slice none 0 0, .slice none 0 0, .slice none 0 0, .slice (some ⟨n + 1 + 1 + 1 + 1, 0, none⟩) 4 4] kzR4 := ⟨_, _, _, _, _, rfl, hN8, _, _, _, _, rfl, NmsAt.nil _, SlAt.nil _, nm_nil _, hD4⟩
  have hRC : RowC W (.slice (some ⟨n + 1 + 1 + 1 + 1 + 1 + 1 + 1 + 1 + 1, 0, none⟩) 4 4) kzL := ⟨_, slK_blk (css := [[.slice (some ⟨n, 0, none⟩) 1 1, .int .u32 0, .int .i64 2, .slice (some ⟨n + 1 + 1, 0, none⟩) 1 1, .slice none 0 0, .slice none 0 0, .slice none 0 0], [.slice (some ⟨n + 1 + 1 + 1 + 1 + 1 + 1, 0, none⟩) 2 2, .int .u32 0, .int .i64 2, .slice (some ⟨n + 1 + 1, 0, none⟩) 1 1, .slice none 0 0, .slice none 0 0, .slice none 0 0], [.slice (some ⟨n + 1 + 1 + 1 + 1 + 1 + 1 + 1, 0, none⟩) 3 3, .int .u32 0, .int .i64 1, .slice none 0 0, .slice none 0 0, .slice none 0 0, .slice (some ⟨n + 1 + 1 + 1 + 1, 0, none⟩) 4 4], [.slice (some ⟨n + 1 + 1 + 1 + 1 + 1 + 1 + 1 + 1, 0, none⟩) 3 3, .int .u32 0, .int .i64 1, .slice none 0 0, .slice none 0 0, .slice none 0 0, .slice (some ⟨n + 1 + 1 + 1 + 1, 0, none⟩) 4 4]]) k9, rfl, fun i h1 h2 => by
    match i, h1 with
    | 0, _ => exact q1
    | 1, _ => exact q2
    | 2, _ => exact q3
    | 3, _ => exact q4⟩
  have hc := zone_New (.slice (some ⟨n, 0, none⟩) 1 1) (.slice (some ⟨n + 1 + 1 + 1 + 1 + 1 + 1 + 1 + 1 + 1, 0, none⟩) 4 4) kzO kzL hN0 ⟨by decide, by decide⟩ hRC kz_ok (by decide)
  rw [kz_canon] at hc
  rw [hn, hW]
  have HB := Lib.hid hB; have HN := Lib.hid hN0
  clear hB hN0 hN1 hN6 hN7 hN8 hD4 hD2 q1 q2 q3 q4 hRC k0 k1 k2 k4 k6 k7 k8 k9 hW
  refine hc.mono ?_
  rintro e w2 ⟨za, zn, zc, v1, m, c, rfl, hZ, hb2⟩
  obtain rfl : m = 4 := by
    obtain ⟨-, -, ⟨css, ⟨a', c', e, -⟩, h3⟩, -⟩ := hZ
    injection e with _ e _
    rw [e, h3.1]; rfl
  have hA2 := (Below.refl w2.heap.size w2).alloc (Nat.le_refl _) (.cells #[.slice za zn zc, .slice v1 4 c] 57)
  obtain ⟨zb, hzb⟩ : ∃ zb, w2.heap.size = zb := ⟨_, rfl⟩
  obtain ⟨w3, hw3⟩ : ∃ w3, w2.alloc (.cells #[.slice za zn zc, .slice v1 4 c] 57) = w3 := ⟨_, rfl⟩
  have hX := knew w2 (.cells #[.slice za zn zc, .slice v1 4 c] 57)
  rw [hw3] at hA2 hX
  rw [hzb] at hX
  have hb3 := hb2.trans (hA2.mono hb2.size)
  have HB3 := Lib.hid (HB.out.trans (hb3.mono HB.out.size))
  have HZ3 := Lib.hid (hZ.below hA2)
  have HN3 := Lib.hid (HN.out.below hb3)
  have HX3 := Lib.hid hX
  have y0 := kcell hX 0 _ rfl; have y1 := kcell hX 1 _ rfl
  clear hc hZ hb2 hb3 hA2 hX HB HN
  have hA := (Below.refl w3.heap.size w3).alloc (Nat.le_refl _) (.cells #[.string ⟨#[120]⟩, .string ⟨#[115]⟩, .string ⟨#[111]⟩] 9)
  have hNA : NmAt (w3.alloc (.cells #[.string ⟨#[120]⟩, .string ⟨#[115]⟩, .string ⟨#[111]⟩] 9)) (.slice (some ⟨w3.heap.size, 0, none⟩) 3 3) [[120], [115], [111]] := nm_lit' (l := [.string ⟨#[120]⟩, .string ⟨#[115]⟩, .string ⟨#[111]⟩]) (knew w3 _) rfl
  have hc := zs_cut (HZ3.out.below hA) hNA ⟨by decide, by decide⟩
  have HAl := Lib.hid hA
  clear hA hNA
  rw [show cutM kzO kzL [[120], [115], [111]] = some 2 from kz_cut1] at hc
  go_wp2_with fail
  clear hw3 hzb
  refine hc.mono ?_
  rintro e w4 ⟨a4, k4, c4, rfl, h4, hb1⟩
  have hb := HAl.out.trans (hb1.mono HAl.out.size)
  have HB4 := Lib.hid (HB3.out.trans (hb.mono HB3.out.size))
  have HZ4 := Lib.hid (HZ3.out.below hb)
  have HN4 := Lib.hid (HN3.out.below hb)
  have HX4 := Lib.hid ((hb.block _ (kblock_lt HX3.out)).trans HX3.out)
  obtain rfl : k4 = 2 := nm_len h4
  clear h4
  clear y0 y1 hb hb1 hc HAl HB3 HZ3 HN3
  have y0 := kcell HX4.out 0 _ rfl; have y1 := kcell HX4.out 1 _ rfl
  clear HX3
  have hA := Below.refl w4.heap.size w4
  have hc := zs_cut HZ4.out HN4.out ⟨by decide, by decide⟩
  have HAl := Lib.hid hA
  clear hA
  rw [show cutM kzO kzL [[111]] = none from kz_cut2] at hc
  go_wp2_with fail
  refine hc.mono ?_
  rintro e w5 ⟨a5, k5, c5, rfl, h5, hb1⟩
  have hb := HAl.out.trans (hb1.mono HAl.out.size)
  have HB5 := Lib.hid (HB4.out.trans (hb.mono HB4.out.size))
  have HZ5 := Lib.hid (HZ4.out.below hb)
  have HN5 := Lib.hid (HN4.out.below hb)
  have HX5 := Lib.hid ((hb.block _ (kblock_lt HX4.out)).trans HX4.out)
  obtain rfl : k5 = 0 := nm_len h5
  clear h5
  clear y0 y1 hb hb1 hc HAl HB4 HZ4 HN4
  have y0 := kcell HX5.out 0 _ rfl; have y1 := kcell HX5.out 1 _ rfl
  clear HX4
  have hA := (Below.refl w5.heap.size w5).alloc (Nat.le_refl _) (.cells #[.string ⟨#[113]⟩, .string ⟨#[119]⟩, .string ⟨#[111]⟩] 9)
  have hNA : NmAt (w5.alloc (.cells #[.string ⟨#[113]⟩, .string ⟨#[119]⟩, .string ⟨#[111]⟩] 9)) (.slice (some ⟨w5.heap.size, 0, none⟩) 3 3) [[113], [119], [111]] := nm_lit' (l := [.string ⟨#[113]⟩, .string ⟨#[119]⟩, .string ⟨#[111]⟩]) (knew w5 _) rfl
  have hc := zone_Source (HZ5.out.below hA) hNA ⟨by decide, by decide⟩ (by decide)
  have HAl := Lib.hid hA
  clear hA hNA
  rw [kz_source, kz_star] at hc
  go_wp2_with fail
  refine hc.mono ?_
  rintro e w6 ⟨a6, k6, c6, rfl, h6, hb1⟩
  have hb := HAl.out.trans (hb1.mono HAl.out.size)
  have HB6 := Lib.hid (HB5.out.trans (hb.mono HB5.out.size))
  have HZ6 := Lib.hid (HZ5.out.below hb)
  have HN6 := Lib.hid (HN5.out.below hb)
  have HX6 := Lib.hid ((hb.block _ (kblock_lt HX5.out)).trans HX5.out)
  obtain rfl : k6 = 3 := nm_len h6
  have H6 := Lib.hid h6
  clear h6
  clear y0 y1 hb hb1 hc HAl HB5 HZ5 HN5
  have y0 := kcell HX6.out 0 _ rfl; have y1 := kcell HX6.out 1 _ rfl
  clear HX5
  have hA := (Below.refl w6.heap.size w6).alloc (Nat.le_refl _) (.cells #[.string ⟨#[78, 83]⟩, .string ⟨#[115]⟩, .string ⟨#[111]⟩] 9)
  have hNA : NmAt (w6.alloc (.cells #[.string ⟨#[78, 83]⟩, .string ⟨#[115]⟩, .string ⟨#[111]⟩] 9)) (.slice (some ⟨w6.heap.size, 0, none⟩) 3 3) [[78, 83], [115], [111]] := nm_lit' (l := [.string ⟨#[78, 83]⟩, .string ⟨#[115]⟩, .string ⟨#[111]⟩]) (knew w6 _) rfl
  have hc := zone_Glue (HZ6.out.below hA) hNA ⟨by decide, by decide⟩
  have HAl := Lib.hid hA
  clear hA hNA
  rw [kz_glue] at hc
  go_wp2_with fail
  refine hc.mono ?_
  rintro e w7 ⟨v7, css7, rfl, h7, d7, hb1⟩
  have hb := HAl.out.trans (hb1.mono HAl.out.size)
  have HB7 := Lib.hid (HB6.out.trans (hb.mono HB6.out.size))
  have HZ7 := Lib.hid (HZ6.out.below hb)
  have HN7 := Lib.hid (HN6.out.below hb)
  have HX7 := Lib.hid ((hb.block _ (kblock_lt HX6.out)).trans HX6.out)
  have H6 := Lib.hid (H6.out.below hb)
  obtain ⟨a7, c7, rfl⟩ : ∃ a c, v7 = .slice a 1 c := by
    obtain ⟨a, c, e, -⟩ := h7
    exact ⟨a, c, by rw [e, d7.1]; rfl⟩
  clear h7 d7
  clear y0 y1 hb hb1 hc HAl HB6 HZ6 HN6
  have y0 := kcell HX7.out 0 _ rfl; have y1 := kcell HX7.out 1 _ rfl
  clear HX6
  obtain ⟨sb, so, rfl, hsb, hstar⟩ : ∃ sb so, a6 = some ⟨sb, so, none⟩ ∧ sb < w7.heap.size ∧ w7.cell? ⟨sb, so, none⟩ = some (.string ⟨#[42]⟩) := by
    obtain ⟨g, off, e, h1, h2⟩ := SlAt.cell (nmAt_sl.1 H6.out) (Below.refl _ _) 0 (by simp)
    exact ⟨g, off, e, h1, h2⟩
  have hKB : ∀ W, Below w7.heap.size w7 W → (W.cell? ⟨zb, 0, none⟩ = some (.slice za zn zc) ∧ W.cell? ⟨zb, 1, none⟩ = some (.slice v1 4 c) ∧ W.cell? ⟨sb, so, none⟩ = some (.string ⟨#[42]⟩) ∧ Below w7.heap.size w7 W) := fun W hb => ⟨kcell ((hb.block _ (kblock_lt HX7.out)).trans HX7.out) 0 _ rfl, kcell ((hb.block _ (kblock_lt HX7.out)).trans HX7.out) 1 _ rfl, (hb.cell (p := ⟨sb, so, none⟩) hsb).trans hstar, hb⟩
  have KR := Lib.hid (fun W (h : (W.cell? ⟨zb, 0, none⟩ = some (.slice za zn zc) ∧ W.cell? ⟨zb, 1, none⟩ = some (.slice v1 4 c) ∧ W.cell? ⟨sb, so, none⟩ = some (.string ⟨#[42]⟩) ∧ Below w7.heap.size w7 W)) => hKB W.drew (h.2.2.2.trans ⟨rfl, rfl, rfl, Nat.le_refl _, fun _ _ => rfl⟩))
  have KA := Lib.hid (fun W o (h : (W.cell? ⟨zb, 0, none⟩ = some (.slice za zn zc) ∧ W.cell? ⟨zb, 1, none⟩ = some (.slice v1 4 c) ∧ W.cell? ⟨sb, so, none⟩ = some (.string ⟨#[42]⟩) ∧ Below w7.heap.size w7 W)) => hKB (W.alloc o) (h.2.2.2.alloc h.2.2.2.size o))
  have KS := Lib.hid (fun W W' (h : (W.cell? ⟨zb, 0, none⟩ = some (.slice za zn zc) ∧ W.cell? ⟨zb, 1, none⟩ = some (.slice v1 4 c) ∧ W.cell? ⟨sb, so, none⟩ = some (.string ⟨#[42]⟩) ∧ Below w7.heap.size w7 W)) (hb : Below W.heap.size W W') => hKB W' (h.2.2.2.trans (hb.mono h.2.2.2.size)))
  have C1 := Lib.hid (fun W g (h : (W.cell? ⟨zb, 0, none⟩ = some (.slice za zn zc) ∧ W.cell? ⟨zb, 1, none⟩ = some (.slice v1 4 c) ∧ W.cell? ⟨sb, so, none⟩ = some (.string ⟨#[42]⟩) ∧ Below w7.heap.size w7 W)) (hg : W.heap[g]? = some (.cells #[.string ⟨#[115]⟩, .string ⟨#[111]⟩] 9)) => show Calls Tryz.prog 35 #[.agg #[.slice za zn zc, .slice v1 4 c], .slice (some ⟨g, 0, none⟩) 2 2] W fun e w' => e = .returned (.int .i64 2) ∧ Below W.heap.size W w' from by
    have h1 := zone_Where (HZ7.out.below h.2.2.2) (nm_lit' (n := [[115], [111]]) (l := [.string ⟨#[115]⟩, .string ⟨#[111]⟩]) hg rfl) ⟨by decide, by decide⟩
    rw [show whereM kzO kzL [[115], [111]] = 2 from kz_where1] at h1; exact h1)
  have C2 := Lib.hid (fun W g (h : (W.cell? ⟨zb, 0, none⟩ = some (.slice za zn zc) ∧ W.cell? ⟨zb, 1, none⟩ = some (.slice v1 4 c) ∧ W.cell? ⟨sb, so, none⟩ = some (.string ⟨#[42]⟩) ∧ Below w7.heap.size w7 W)) (hg : W.heap[g]? = some (.cells #[.string ⟨#[120]⟩, .string ⟨#[115]⟩, .string ⟨#[111]⟩] 9)) => show Calls Tryz.prog 35 #[.agg #[.slice za zn zc, .slice v1 4 c], .slice (some ⟨g, 0, none⟩) 3 3] W fun e w' => e = .returned (.int .i64 3) ∧ Below W.heap.size W w' from by
    have h1 := zone_Where (HZ7.out.below h.2.2.2) (nm_lit' (n := [[120], [115], [111]]) (l := [.string ⟨#[120]⟩, .string ⟨#[115]⟩, .string ⟨#[111]⟩]) hg rfl) ⟨by decide, by decide⟩
    rw [show whereM kzO kzL [[120], [115], [111]] = 3 from kz_where2] at h1; exact h1)
  have C3 := Lib.hid (fun W g (h : (W.cell? ⟨zb, 0, none⟩ = some (.slice za zn zc) ∧ W.cell? ⟨zb, 1, none⟩ = some (.slice v1 4 c) ∧ W.cell? ⟨sb, so, none⟩ = some (.string ⟨#[42]⟩) ∧ Below w7.heap.size w7 W)) (hg : W.heap[g]? = some (.cells #[.string ⟨#[112]⟩] 9)) => show Calls Tryz.prog 35 #[.agg #[.slice za zn zc, .slice v1 4 c], .slice (some ⟨g, 0, none⟩) 1 1] W fun e w' => e = .returned (.int .i64 0) ∧ Below W.heap.size W w' from by
    have h1 := zone_Where (HZ7.out.below h.2.2.2) (nm_lit' (n := [[112]]) (l := [.string ⟨#[112]⟩]) hg rfl) ⟨by decide, by decide⟩
    rw [show whereM kzO kzL [[112]] = 0 from kz_where3] at h1; exact h1)
  have C4 := Lib.hid (fun W g (h : (W.cell? ⟨zb, 0, none⟩ = some (.slice za zn zc) ∧ W.cell? ⟨zb, 1, none⟩ = some (.slice v1 4 c) ∧ W.cell? ⟨sb, so, none⟩ = some (.string ⟨#[42]⟩) ∧ Below w7.heap.size w7 W)) (hg : W.heap[g]? = some (.cells #[.string ⟨#[121]⟩, .string ⟨#[111]⟩] 9)) => show Calls Tryz.prog 35 #[.agg #[.slice za zn zc, .slice v1 4 c], .slice (some ⟨g, 0, none⟩) 2 2] W fun e w' => e = .returned (.int .i64 1) ∧ Below W.heap.size W w' from by
    have h1 := zone_Where (HZ7.out.below h.2.2.2) (nm_lit' (n := [[121], [111]]) (l := [.string ⟨#[121]⟩, .string ⟨#[111]⟩]) hg rfl) ⟨by decide, by decide⟩
    rw [show whereM kzO kzL [[121], [111]] = 1 from kz_where4] at h1; exact h1)
  have C5 := Lib.hid (fun W g (h : (W.cell? ⟨zb, 0, none⟩ = some (.slice za zn zc) ∧ W.cell? ⟨zb, 1, none⟩ = some (.slice v1 4 c) ∧ W.cell? ⟨sb, so, none⟩ = some (.string ⟨#[42]⟩) ∧ Below w7.heap.size w7 W)) (hg : W.heap[g]? = some (.cells #[.string ⟨#[119]⟩, .string ⟨#[111]⟩] 9)) => show Calls Tryz.prog 37 #[.agg #[.slice za zn zc, .slice v1 4 c], .slice (some ⟨g, 0, none⟩) 2 2] W fun e w' => e = .returned (.bool true) ∧ Below W.heap.size W w' from by
    have h1 := zone_Exists (HZ7.out.below h.2.2.2) (nm_lit' (n := [[119], [111]]) (l := [.string ⟨#[119]⟩, .string ⟨#[111]⟩]) hg rfl) ⟨by decide, by decide⟩
    rw [show existsM kzO kzL [[119], [111]] = true from kz_exists1] at h1; exact h1)
  have C6 := Lib.hid (fun W g (h : (W.cell? ⟨zb, 0, none⟩ = some (.slice za zn zc) ∧ W.cell? ⟨zb, 1, none⟩ = some (.slice v1 4 c) ∧ W.cell? ⟨sb, so, none⟩ = some (.string ⟨#[42]⟩) ∧ Below w7.heap.size w7 W)) (hg : W.heap[g]? = some (.cells #[.string ⟨#[118]⟩, .string ⟨#[111]⟩] 9)) => show Calls Tryz.prog 37 #[.agg #[.slice za zn zc, .slice v1 4 c], .slice (some ⟨g, 0, none⟩) 2 2] W fun e w' => e = .returned (.bool false) ∧ Below W.heap.size W w' from by
    have h1 := zone_Exists (HZ7.out.below h.2.2.2) (nm_lit' (n := [[118], [111]]) (l := [.string ⟨#[118]⟩, .string ⟨#[111]⟩]) hg rfl) ⟨by decide, by decide⟩
    rw [show existsM kzO kzL [[118], [111]] = false from kz_exists2] at h1; exact h1)
  have C7 := Lib.hid (fun W g (h : (W.cell? ⟨zb, 0, none⟩ = some (.slice za zn zc) ∧ W.cell? ⟨zb, 1, none⟩ = some (.slice v1 4 c) ∧ W.cell? ⟨sb, so, none⟩ = some (.string ⟨#[42]⟩) ∧ Below w7.heap.size w7 W)) (hg : W.heap[g]? = some (.cells #[.string ⟨#[113]⟩, .string ⟨#[118]⟩, .string ⟨#[111]⟩] 9)) => show Calls Tryz.prog 39 #[.agg #[.slice za zn zc, .slice v1 4 c], .slice (some ⟨g, 0, none⟩) 3 3] W fun e w' => ∃ a c, e = .returned (.slice a 1 c) ∧ Below W.heap.size W w' from by
    have h1 := zone_Encloser (HZ7.out.below h.2.2.2) (nm_lit' (n := [[113], [118], [111]]) (l := [.string ⟨#[113]⟩, .string ⟨#[118]⟩, .string ⟨#[111]⟩]) hg rfl) ⟨by decide, by decide⟩
    rw [kz_enc] at h1
    refine h1.mono ?_
    rintro e w' ⟨a, k, c, rfl, h2, h3⟩
    obtain rfl : k = 1 := nm_len h2
    exact ⟨a, c, rfl, h3⟩)
  have hS7 := hKB w7 (Below.refl _ _)
  clear hKB hsb hstar y0 y1 H6 HX7 HZ7 HN7
  have HS7 := Lib.hid hS7
  obtain ⟨y0, y1, -, -⟩ := HS7.out
  have hc := C1.out _ _ (KA.out _ _ HS7.out) (knew w7 _)
  go_wp2_with fail
  refine hc.mono ?_
  rintro e u1 ⟨rfl, hb⟩
  have HSu1 := Lib.hid (KS.out _ _ (KA.out _ _ HS7.out) hb)
  clear hc hb y0 y1 HS7 C1
  obtain ⟨y0, y1, -, -⟩ := HSu1.out
  have hc := C2.out _ _ (KA.out _ _ HSu1.out) (knew u1 _)
  go_wp2_with fail
  refine hc.mono ?_
  rintro e u2 ⟨rfl, hb⟩
  have HSu2 := Lib.hid (KS.out _ _ (KA.out _ _ HSu1.out) hb)
  clear hc hb y0 y1 HSu1 C2
  obtain ⟨y0, y1, -, -⟩ := HSu2.out
  have hc := C3.out _ _ (KA.out _ _ HSu2.out) (knew u2 _)
  go_wp2_with fail
  refine hc.mono ?_
  rintro e u3 ⟨rfl, hb⟩
  have HSu3 := Lib.hid (KS.out _ _ (KA.out _ _ HSu2.out) hb)
  clear hc hb y0 y1 HSu2 C3
  obtain ⟨y0, y1, -, -⟩ := HSu3.out
  have hc := C4.out _ _ (KA.out _ _ HSu3.out) (knew u3 _)
  go_wp2_with fail
  refine hc.mono ?_
  rintro e u4 ⟨rfl, hb⟩
  have HSu4 := Lib.hid (KS.out _ _ (KA.out _ _ HSu3.out) hb)
  clear hc hb y0 y1 HSu3 C4
  obtain ⟨y0, y1, -, -⟩ := HSu4.out
  have hc := C5.out _ _ (KA.out _ _ HSu4.out) (knew u4 _)
  go_wp2_with fail
  refine hc.mono ?_
  rintro e u5 ⟨rfl, hb⟩
  have HSu5 := Lib.hid (KS.out _ _ (KA.out _ _ HSu4.out) hb)
  clear hc hb y0 y1 HSu4 C5
  obtain ⟨y0, y1, -, -⟩ := HSu5.out
  have hc := C6.out _ _ (KA.out _ _ HSu5.out) (knew u5 _)
  go_wp2_with fail
  refine hc.mono ?_
  rintro e u6 ⟨rfl, hb⟩
  have HSu6 := Lib.hid (KS.out _ _ (KA.out _ _ HSu5.out) hb)
  clear hc hb y0 y1 HSu5 C6
  obtain ⟨y0, y1, -, -⟩ := HSu6.out
  have hc := C7.out _ _ (KA.out _ _ HSu6.out) (knew u6 _)
  go_wp2_with fail
  refine hc.mono ?_
  rintro e u7 ⟨a20, c20, rfl, hb⟩
  have HSu7 := Lib.hid (KS.out _ _ (KA.out _ _ HSu6.out) hb)
  clear hc hb y0 y1 HSu6 C7
  obtain ⟨y0, y1, y2, hbe⟩ := HSu7.out
  have HBE := Lib.hid hbe
  clear hbe KA KS KR
  go_wp2
  go_ret
  exact ⟨rfl, HB7.out.trans (HBE.out.mono HB7.out.size)⟩
end Go.Proofs.YtckammgnmgkieaaGreat

