/-
  rdata.readWords, rdata.Parse.
-/
import Derived.Test.YteppgeiejknhoaaMQ04
import Derived.Test.YteppgeiejknhoaaMQ03
import Derived.StillTailTactics
namespace Go.Proofs.Yteppgeiejknhoaa
set_option maxRecDepth 20000
open Go.RowKit Go.Shelf
set_option maxRecDepth 20000

theorem formD_shape (t : Int) (n : Nat) : formD t n = [52] ∨ formD t n = [54] ∨ formD t n = [110] ∨ formD t n = [112, 110] ∨ formD t n = [110, 110, 117, 117, 117, 117, 117] ∨ formD t n = List.replicate n 116 ∨ formD t n = [] := by
  unfold formD
  split
  · exact .inl rfl
  split
  · exact .inr (.inl rfl)
  split
  · exact .inr (.inr (.inl rfl))
  split
  · exact .inr (.inr (.inr (.inl rfl)))
  split
  · exact .inr (.inr (.inr (.inr (.inl rfl))))
  split
  · exact .inr (.inr (.inr (.inr (.inr (.inl rfl)))))
  · exact .inr (.inr (.inr (.inr (.inr (.inr rfl)))))
theorem formD_kinds {t : Int} {n : Nat} {k : UInt8} (h : k ∈ formD t n) : k = 110 ∨ k = 117 ∨ k = 112 ∨ k = 116 ∨ k = 52 ∨ k = 54 := by
  rcases formD_shape t n with e | e | e | e | e | e | e
  all_goals rw [e] at h
  · simp at h; simp [h]
  · simp at h; simp [h]
  · simp at h; simp [h]
  · simp at h; rcases h with h | h <;> simp [h]
  · simp at h; rcases h with h | h <;> simp [h]
  · have := (List.mem_replicate.1 h).2; simp [this]
  · simp at h
theorem formD_text {t : Int} {n : Nat} (h : (116 : UInt8) ∈ formD t n) : ∀ k ∈ formD t n, k = 116 := by
  rcases formD_shape t n with e | e | e | e | e | e | e
  all_goals rw [e] at h ⊢
  all_goals first
    | (simp at h; done)
    | (intro k hk; exact (List.mem_replicate.1 hk).2)

theorem region_tail {P : Program} {id : Nat} {Q : Exit → Act → World → Prop} {a : Act} {w : World} {l : List Oper} (n : Nat) (hm : P.follows .mixedOrders = true) (hB : Region.lexTailB .any l.toArray n = true)
    (h : wpStill P l.toArray w.drew (fun a' => wpList P l.toArray Q (l.drop n) a' w.drew) (l.take n) a) : (Code.region id l.toArray true).wp P Q a w := wp_region_still_tail n hm hB h
/-- What is known of data on the way. -/
structure WdInv (d dk : Dat) (ks : List UInt8) (k : Nat) : Prop where
  ty : dk.ty = d.ty
  names : dk.names.length ≤ d.names.length + k
  nums : dk.nums.length ≤ d.nums.length + k
  texts : dk.texts.length ≤ d.texts.length + k
  none : (116 : UInt8) ∈ ks → dk.names = []
theorem addD_inv {d dk : Dat} {ks : List UInt8} {k : Nat} {c : UInt8} (hall : (116 : UInt8) ∈ ks → c = 116) (h : WdInv d dk ks k) (s : List UInt8) (o : Nm) : WdInv d (addD dk c s o) ks (k + 1) := by
  obtain ⟨h1, h2, h3, h4, h5⟩ := h
  by_cases c1 : c = 110
  · subst c1
    rw [add_110]
    refine ⟨h1, by simp; omega, by simp; omega, by simp; omega, fun hm => ?_⟩
    exact absurd (hall hm) (by decide)
  by_cases c2 : c = 117
  · subst c2; rw [add_117]; exact ⟨h1, by simp; omega, by simp; omega, by simp; omega, h5⟩
  by_cases c3 : c = 112
  · subst c3; rw [add_112]; exact ⟨h1, by simp; omega, by simp; omega, by simp; omega, h5⟩
  by_cases c4 : c = 116
  · subst c4; rw [add_116]; exact ⟨h1, by simp; omega, by simp; omega, by simp; omega, h5⟩
  by_cases c5 : c = 52
  · subst c5; rw [add_52]; exact ⟨h1, by simp; omega, by simp; omega, by simp; omega, h5⟩
  by_cases c6 : c = 54
  · subst c6; rw [add_54]; exact ⟨h1, by simp; omega, by simp; omega, by simp; omega, h5⟩
  have e : addD dk c s o = dk := by unfold addD; rw [if_neg c1, if_neg c2, if_neg c3, if_neg c4, if_neg c5, if_neg c6]
  rw [e]; exact ⟨h1, by omega, by omega, by omega, h5⟩
/-- What readWords answers. -/
def wordsE (d : Dat) (o : Nm) (ks : List UInt8) (l : List Wd) : Dat × Int := if ks = [] ∨ ks.length ≠ l.length then (d, 2) else wordsD d o ks l
def WordsPost (B base : Nat) (q : Dat × Int) (w : World) (e : Ending) (w' : World) : Prop := e = .returned (.int .i64 q.2) ∧ (q.2 = 0 → DBox w' B base q.1) ∧ Below base w w' ∧ KeepW B w w'
theorem words_fin {B base : Nat} {q : Dat × Int} {w w' : World} {e : Ending} (d : Dat) (er : Int) (h : q = (d, er)) (he : e = .returned (.int .i64 er)) (hd : er = 0 → DBox w' B base d) (hb : Below base w w') (hkw : KeepW B w w') : WordsPost B base q w e w' := by
  subst h; exact ⟨he, hd, hb, hkw⟩
theorem words_quoted {d : Dat} {o : Nm} {k : UInt8} {ks : List UInt8} {s : List UInt8} {l : List Wd} (h : k ≠ 116) : wordsD d o (k :: ks) ((s, true) :: l) = (d, 2) := by
  rw [wordsD, if_pos ⟨rfl, h⟩]
theorem words_step {d : Dat} {o : Nm} {k : UInt8} {ks : List UInt8} {x : Wd} {l : List Wd} (h : ¬ (x.2 = true ∧ k ≠ 116)) : wordsD d o (k :: ks) (x :: l) = if errD k x.1 o ≠ 0 then (d, errD k x.1 o) else wordsD (addD d k x.1 o) o ks l := by
  obtain ⟨s, q⟩ := x
  rw [wordsD, if_neg h]
theorem words_end {d : Dat} {o : Nm} {l : List Wd} : wordsD d o [] l = (d, 0) := by rw [wordsD]; simp
end Go.Proofs.Yteppgeiejknhoaa

