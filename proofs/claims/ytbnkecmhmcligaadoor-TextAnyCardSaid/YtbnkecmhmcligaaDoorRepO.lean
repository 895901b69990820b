/-
  TextOne: a report made row by row; the first five octets of its lines.
-/
import Derived.Test.YtbnkecmhmcligaaDoorMQ32
namespace Go.Proofs.YtbnkecmhmcligaaDoor
open Go.RowKit Go.Shelf
set_option maxRecDepth 20000
set_option linter.unusedVariables false
set_option linter.unusedSimpArgs false
def esL (n : Nat) : List Ft := (List.range n).map fun (i : Nat) => ⟨[122], (i : Int), 2⟩
def fsL (n : Nat) : List Fw := (List.range n).map fun (i : Nat) => ⟨1 + (i : Int), [[97]], 1 + (i : Int)⟩
def ssL (n : Nat) : List Sn := (List.range n).map fun (i : Nat) => ⟨5 + ((i % 5 : Nat) : Int), [[98]], 1, [(i : Int)]⟩
theorem esL_succ (n : Nat) : esL (n + 1) = esL n ++ [⟨[122], (n : Int), 2⟩] := by unfold esL; rw [List.range_succ, List.map_append]; rfl
theorem fsL_succ (n : Nat) : fsL (n + 1) = fsL n ++ [⟨1 + (n : Int), [[97]], 1 + (n : Int)⟩] := by unfold fsL; rw [List.range_succ, List.map_append]; rfl
theorem ssL_succ (n : Nat) : ssL (n + 1) = ssL n ++ [⟨5 + ((n % 5 : Nat) : Int), [[98]], 1, [(n : Int)]⟩] := by unfold ssL; rw [List.range_succ, List.map_append]; rfl
theorem esL_len (n : Nat) : (esL n).length = n := by simp [esL]
theorem fsL_len (n : Nat) : (fsL n).length = n := by simp [fsL]
theorem ssL_len (n : Nat) : (ssL n).length = n := by simp [ssL]
def oneR (a b c : Nat) (e : Int) : Rp := ⟨esL a, fsL b, [], ssL c, e⟩
theorem nmW_b : NmW [[98]] := ⟨⟨by decide, by decide⟩, by decide +kernel⟩
theorem oneR_ok {a b c : Nat} {e : Int} (ha : a ≤ 9) (hb : b ≤ 9) (hc : c ≤ 9) (he : 0 ≤ e ∧ e < 13) : RpOK (oneR a b c e) where
  errs := by
    intro f hf
    obtain ⟨i, hi, rfl⟩ := List.mem_map.1 hf
    have hi := List.mem_range.1 hi
    exact ⟨by show 1 ≤ 1000000; omega, ⟨by show _ ≤ (i : Int); omega, by show (i : Int) ≤ _; omega⟩, by show (0 : Int) ≤ 2 ∧ (2 : Int) < 13; omega⟩
  flaws := by
    intro f hf
    obtain ⟨i, hi, rfl⟩ := List.mem_map.1 hf
    have hi := List.mem_range.1 hi
    exact ⟨⟨by show 0 ≤ 1 + (i : Int); omega, by show 1 + (i : Int) < 10; omega⟩, nmW_a, ⟨by show _ ≤ 1 + (i : Int); omega, by show 1 + (i : Int) ≤ _; omega⟩⟩
  edges := by intro f hf; cases hf
  seen := by
    intro f hf
    obtain ⟨i, hi, rfl⟩ := List.mem_map.1 hf
    have hi := List.mem_range.1 hi
    have h5 : i % 5 < 5 := Nat.mod_lt _ (by omega)
    refine ⟨⟨by show 0 ≤ 5 + ((i % 5 : Nat) : Int); omega, by show 5 + ((i % 5 : Nat) : Int) < 10; omega⟩, nmW_b, ⟨by show _ ≤ (1 : Int); omega, by show (1 : Int) ≤ _; omega⟩, by show 1 ≤ 1000; omega, fun p hp => ?_⟩
    rw [List.mem_singleton.1 hp]
    exact ⟨by omega, by omega⟩
  err := he
  few := ⟨by show (esL a).length ≤ _; rw [esL_len]; omega, by show (fsL b).length ≤ _; rw [fsL_len]; omega, by show 0 ≤ 1000; omega, by show (ssL c).length ≤ _; rw [ssL_len]; omega⟩
/-- The word that a line begins with. -/
def wordO (a b c : Nat) (s : Bool) (i : Nat) : List UInt8 :=
  if s = true ∧ i = a + b + c then [115, 116, 111, 112, 112] else if a + b ≤ i then [115, 101, 101, 110, 32] else if a ≤ i then [102, 108, 97, 119, 32] else [101, 114, 114, 111, 114]
def errO (s : Bool) : Int := if s then 11 else 0
def lenO (a b c : Nat) (s : Bool) : Nat := a + b + c + (if s then 1 else 0)
theorem oneR_len (a b c : Nat) (s : Bool) : (linesM (oneR a b c (errO s))).length = lenO a b c s := by
  rw [linesM_len]; unfold oneR lenO errO lastW
  cases s <;> simp [esL_len, fsL_len, ssL_len]
theorem eRow_w (f : Ft) : ∃ r, eRow f = [101, 114, 114, 111, 114] ++ r := ⟨32 :: faultW f, rfl⟩
theorem fRow_w (f : Fw) : ∃ r, fRow f = [102, 108, 97, 119, 32] ++ r := ⟨wF.getD f.kind.toNat [] ++ ([32] ++ (textN f.owner ++ ([32] ++ typeTextM f.ty))), by unfold fRow; simp⟩
theorem sRow_w (f : Sn) : ∃ r, sRow f = [115, 101, 101, 110, 32] ++ r := ⟨wS.getD f.kind.toNat [] ++ ([32] ++ (textN f.nm ++ ([32] ++ (typeTextM f.ty ++ ([32] ++ picksW f.picks))))), by unfold sRow; simp⟩
theorem oneR_word (a b c : Nat) (s : Bool) (i : Nat) (h : i < (linesM (oneR a b c (errO s))).length) : ∃ rest, (linesM (oneR a b c (errO s)))[i] = wordO a b c s i ++ rest := by
  have hl := oneR_len a b c s
  have hL : linesM (oneR a b c (errO s)) = (esL a).map eRow ++ ((fsL b).map fRow ++ ((ssL c).map sRow ++ lastW (errO s))) := by
    unfold linesM oneR; simp
  have h1 : ((esL a).map eRow).length = a := by rw [List.length_map, esL_len]
  have h2 : ((fsL b).map fRow).length = b := by rw [List.length_map, fsL_len]
  have h3 : ((ssL c).map sRow).length = c := by rw [List.length_map, ssL_len]
  have hi : i < lenO a b c s := by rw [← hl]; exact h
  have key : ∀ x, ((esL a).map eRow ++ ((fsL b).map fRow ++ ((ssL c).map sRow ++ lastW (errO s))))[i]? = some x → (linesM (oneR a b c (errO s)))[i] = x := fun x hx => by
    rw [← hL] at hx
    exact (List.getElem?_eq_some_iff.1 hx).2
  unfold wordO
  by_cases ha : i < a
  · rw [if_neg (by rintro ⟨_, e⟩; omega), if_neg (by omega), if_neg (by omega)]
    have hx := key (eRow ((esL a)[i]'(by rw [esL_len]; exact ha))) (by
      rw [List.getElem?_append_left (by omega), List.getElem?_map, List.getElem?_eq_getElem (by rw [esL_len]; exact ha)]; rfl)
    rw [hx]; exact eRow_w _
  by_cases hb : i < a + b
  · rw [if_neg (by rintro ⟨_, e⟩; omega), if_neg (by omega), if_pos (by omega)]
    have hx := key (fRow ((fsL b)[i - a]'(by rw [fsL_len]; omega))) (by
      rw [List.getElem?_append_right (by omega), h1, List.getElem?_append_left (by omega), List.getElem?_map, List.getElem?_eq_getElem (by rw [fsL_len]; omega)]; rfl)
    rw [hx]; exact fRow_w _
  by_cases hc : i < a + b + c
  · rw [if_neg (by rintro ⟨_, e⟩; omega), if_pos (by omega)]
    have hx := key (sRow ((ssL c)[i - a - b]'(by rw [ssL_len]; omega))) (by
      rw [List.getElem?_append_right (by omega), h1, List.getElem?_append_right (by omega), h2, List.getElem?_append_left (by omega), List.getElem?_map, List.getElem?_eq_getElem (by rw [ssL_len]; omega)]; rfl)
    rw [hx]; exact sRow_w _
  · cases s with
    | false => unfold lenO at hi; simp at hi; omega
    | true =>
      have e : i = a + b + c := by unfold lenO at hi; simp at hi; omega
      rw [if_pos ⟨rfl, e⟩]
      have hx := key (stopW 11) (by
        rw [List.getElem?_append_right (by omega), h1, List.getElem?_append_right (by omega), h2, List.getElem?_append_right (by omega), h3, show i - a - b - c = 0 by omega]; rfl)
      rw [hx]; exact ⟨_, rfl⟩
/-- A row of the law's own, each element by blocks that no row has. -/
def RowO {α : Type} (k : Nat) (T : TypeId) (At : World → List Value → α → Prop) (B : Nat) (W : World) (v : Value) (l : List α) : Prop :=
  ∃ css, OwnC k T W B v css ∧ css.length = l.length ∧ (∀ cs ∈ css, cs.length = k) ∧ ∀ j (h1 : j < css.length) (h2 : j < l.length), At W css[j] l[j]
/-- A block of the rows' or of the report. -/
def BadT (t : TypeId) : Prop := t = 30 ∨ t = 33 ∨ t = 41 ∨ t = 44
def KeepO (W W' : World) : Prop := W.heap.size ≤ W'.heap.size ∧ ∀ (b : Nat) (cs : Array Value) (t : TypeId), W.heap[b]? = some (.cells cs t) → ¬ BadT t → W'.heap[b]? = some (.cells cs t)
def EB (W : World) (cs : List Value) (f : Ft) : Prop := ∃ b, cs = [.pointer (some ⟨b, 0, none⟩)] ∧ W.heap[b]? = some (.cells #[strV f.path, .int .i64 f.line, .int .i64 f.err] 32)
def NB (W : World) (v : Value) (n : Nm) : Prop := ∃ b, v = .slice (some ⟨b, 0, none⟩) n.length n.length ∧ W.heap[b]? = some (.cells (n.map strV).toArray 9)
def FB (W : World) (cs : List Value) (f : Fw) : Prop := ∃ v, cs = [.int .i64 f.kind, v, .int .i64 f.ty] ∧ NB W v f.owner
def SB (W : World) (cs : List Value) (f : Sn) : Prop := ∃ v b, cs = [.int .i64 f.kind, v, .int .i64 f.ty, .slice (some ⟨b, 0, none⟩) f.picks.length f.picks.length] ∧ NB W v f.nm ∧ W.heap[b]? = some (.cells (f.picks.map fun p => Value.int .i64 p).toArray 3)
theorem EB.keep {W W' : World} {cs : List Value} {f : Ft} (h : EB W cs f) (hk : KeepO W W') : EB W' cs f := by
  obtain ⟨b, e, h1⟩ := h
  exact ⟨b, e, hk.2 _ _ _ h1 (by unfold BadT; decide)⟩
theorem NB.keep {W W' : World} {v : Value} {n : Nm} (h : NB W v n) (hk : KeepO W W') : NB W' v n := by
  obtain ⟨b, e, h1⟩ := h
  exact ⟨b, e, hk.2 _ _ _ h1 (by unfold BadT; decide)⟩
theorem FB.keep {W W' : World} {cs : List Value} {f : Fw} (h : FB W cs f) (hk : KeepO W W') : FB W' cs f := by
  obtain ⟨v, e, h1⟩ := h
  exact ⟨v, e, h1.keep hk⟩
theorem SB.keep {W W' : World} {cs : List Value} {f : Sn} (h : SB W cs f) (hk : KeepO W W') : SB W' cs f := by
  obtain ⟨v, b, e, h1, h2⟩ := h
  exact ⟨v, b, e, h1.keep hk, hk.2 _ _ _ h2 (by unfold BadT; decide)⟩
theorem EB.at {W : World} {cs : List Value} {f : Ft} (h : EB W cs f) : FtAt W cs f := by
  obtain ⟨b, e, h1⟩ := h
  exact ⟨b, e, kblock_lt h1, kcell h1 0 _ rfl, kcell h1 1 _ rfl, kcell h1 2 _ rfl⟩
theorem NB.at {W : World} {v : Value} {n : Nm} (h : NB W v n) : NmAt W v n := by
  obtain ⟨b, rfl, h1⟩ := h
  exact nm_blk h1
theorem FB.at {W : World} {cs : List Value} {f : Fw} (h : FB W cs f) : FwAt W cs f := by
  obtain ⟨v, e, h1⟩ := h
  exact ⟨v, e, h1.at⟩
theorem SB.at {W : World} {cs : List Value} {f : Sn} (h : SB W cs f) : SnAt W cs f := by
  obtain ⟨v, b, e, h1, h2⟩ := h
  refine ⟨v, _, e, h1.at, ?_⟩
  have := slAt_blkR h2
  rwa [List.length_map] at this
theorem RowO.rows {α : Type} {k : Nat} {T : TypeId} {At At' : World → List Value → α → Prop} {B : Nat} {W : World} {v : Value} {l : List α} (h : RowO k T At B W v l) (hA : ∀ cs x, At W cs x → At' W cs x) : RowsAt At' W v l := by
  obtain ⟨css, h1, h2, h3, h4⟩ := h
  exact ⟨css, SlK.of_own h1 h3, h2, fun j a b => hA _ _ (h4 j a b)⟩
theorem RowO.nil {α : Type} {k : Nat} {T : TypeId} {At : World → List Value → α → Prop} (B : Nat) (W : World) : RowO k T At B W (.slice none 0 0) [] := ⟨[], OwnK.nil _ _, rfl, by simp, fun j h => absurd h (Nat.not_lt_zero _)⟩
theorem KeepO.of_below {W W' : World} (hb : Below W.heap.size W W') : KeepO W W' := ⟨hb.size, fun b cs t h _ => (hb.block b (kblock_lt h)).trans h⟩
theorem KeepO.trans {A B C : World} (h : KeepO A B) (k : KeepO B C) : KeepO A C := ⟨Nat.le_trans h.1 k.1, fun b cs t h1 h2 => k.2 b cs t (h.2 b cs t h1 h2) h2⟩
theorem KeepO.own {k : Nat} {T : TypeId} {W W' : World} {B : Nat} {v : Value} {css : List (List Value)} (h : OwnC k T W B v css) (hT : BadT T) (hg : W.grownBy W' v.ownBlock) : KeepO W W' :=
  ⟨hg.size, fun b cs t h1 h2 => (hg.block b (kblock_lt h1) (fun e => h.ne_block h1 (fun e2 => h2 (e2 ▸ hT)) e)).trans h1⟩
theorem KeepO.set {W : World} {b : Nat} {cs : Array Value} {t : TypeId} (h : W.heap[b]? = some (.cells cs t)) (hT : BadT t) (j : Nat) (u : Value) : KeepO W (W.setCell ⟨b, j, none⟩ u) :=
  ⟨by simp [World.setCell], fun b' cs' t' h1 h2 => by
    have hne : b' ≠ b := fun e => by subst e; rw [h] at h1; injection h1 with h1; injection h1 with _ h1 _; exact h2 (h1 ▸ hT)
    exact (Below.heap_setCell _ ⟨b, j, none⟩ _ _ hne).trans h1⟩
theorem RowO.below {α : Type} {k : Nat} {T : TypeId} {At : World → List Value → α → Prop} (hA : ∀ (W W' : World) (cs : List Value) (x : α), At W cs x → KeepO W W' → At W' cs x) {B : Nat} {W W' : World} {v : Value} {l : List α} (h : RowO k T At B W v l) (hb : Below W.heap.size W W') : RowO k T At B W' v l := by
  obtain ⟨css, h1, h2, h3, h4⟩ := h
  exact ⟨css, OwnK.below h1 hb, h2, h3, fun j a b => hA _ _ _ _ (h4 j a b) (KeepO.of_below hb)⟩
/-- A block that is set, of another type. -/
theorem RowO.set {α : Type} {k : Nat} {T : TypeId} {At : World → List Value → α → Prop} (hA : ∀ (W W' : World) (cs : List Value) (x : α), At W cs x → KeepO W W' → At W' cs x) {B : Nat} {W : World} {v : Value} {l : List α} (h : RowO k T At B W v l) {b : Nat} {cs : Array Value} {t : TypeId} (hb : W.heap[b]? = some (.cells cs t)) (ht : t ≠ T) (hbad : BadT t) (j : Nat) (u : Value) : RowO k T At B (W.setCell ⟨b, j, none⟩ u) v l := by
  obtain ⟨css, h1, h2, h3, h4⟩ := h
  exact ⟨css, OwnK.keptB h1 hb ht j u, h2, h3, fun i a c => hA _ _ _ _ (h4 i a c) (KeepO.set hb hbad j u)⟩
/-- Another row that grows. -/
theorem RowO.other {α : Type} {k k' : Nat} {T T' : TypeId} {At : World → List Value → α → Prop} (hA : ∀ (W W' : World) (cs : List Value) (x : α), At W cs x → KeepO W W' → At W' cs x) {B B' : Nat} {W W' : World} {v v' : Value} {l : List α} (h : RowO k T At B W v l) {css' : List (List Value)} (h' : OwnC k' T' W B' v' css') (hT : T ≠ T') (hbad : BadT T') (hg : W.grownBy W' v'.ownBlock) : RowO k T At B W' v l := by
  obtain ⟨css, h1, h2, h3, h4⟩ := h
  exact ⟨css, OwnK.kept2 h1 h' hT hg, h2, h3, fun i a c => hA _ _ _ _ (h4 i a c) (KeepO.own h' hbad hg)⟩
/-- One more. -/
theorem RowO.snoc {α : Type} {k : Nat} {T : TypeId} {At : World → List Value → α → Prop} (hA : ∀ (W W' : World) (cs : List Value) (x : α), At W cs x → KeepO W W' → At W' cs x) {B : Nat} {W W' : World} {v v' : Value} {l : List α} {css : List (List Value)} (h1 : OwnC k T W B v css) (h2 : css.length = l.length) (h3 : ∀ cs ∈ css, cs.length = k) (h4 : ∀ j (h1 : j < css.length) (h2 : j < l.length), At W css[j] l[j])
    {cs : List Value} {x : α} (hc : cs.length = k) (hx : At W cs x) (hbad : BadT T) (ho : OwnC k T W' B v' (css ++ [cs])) (hg : W.grownBy W' v.ownBlock) : RowO k T At B W' v' (l ++ [x]) := by
  have hk := KeepO.own h1 hbad hg
  refine ⟨css ++ [cs], ho, by simp [h2], fun c h => by
    rcases List.mem_append.1 h with h | h
    · exact h3 c h
    · rw [List.mem_singleton.1 h]; exact hc, fun j a b => ?_⟩
  by_cases hj : j < css.length
  · rw [List.getElem_append_left hj, List.getElem_append_left (by omega)]
    exact hA _ _ _ _ (h4 j hj (by omega)) hk
  · have e : j = css.length := by simp at a; omega
    subst e
    simp only [List.getElem_append_right (Nat.le_refl _), Nat.sub_self, List.getElem_cons_zero]
    have hb2 : css.length = l.length := h2
    simp only [h2, List.getElem_append_right (Nat.le_refl _), Nat.sub_self, List.getElem_cons_zero]
    exact hA _ _ _ _ hx hk
/-- What the law has made so far. -/
structure OneS (w : World) (RB : Nat) (a b c : Nat) (er : Int) (ve vf vs : Value) (W : World) : Prop where
  rb : W.heap[RB]? = some (.cells #[ve, vf, .slice none 0 0, vs, .int .i64 er] 30)
  e : RowO 1 33 EB w.heap.size W ve (esL a)
  f : RowO 3 41 FB w.heap.size W vf (fsL b)
  s : RowO 4 44 SB w.heap.size W vs (ssL c)
  below : Below w.heap.size w W
  lt : w.heap.size ≤ RB
end Go.Proofs.YtbnkecmhmcligaaDoor
