/-
  Trees of int: Len, Get, Kids.
-/
import Derived.Test.YtbnkecmhmcligaaMQ25
import Derived.Test.YtbnkecmhmcligaaMQ22
import Derived.Test.YtbnkecmhmcligaaMQ19
import Derived.Test.YtbnkecmhmcligaaMQ26
namespace Go.Proofs.Ytbnkecmhmcligaa
set_option linter.unusedVariables false
set_option linter.unusedSimpArgs false
set_option maxRecDepth 20000
open Go.RowKit Go.Shelf Go.Maps Go.WideMaps
set_option maxRecDepth 20000
def GetPost (r : Option Value) (z : Value) (w : World) (e : Ending) (w' : World) : Prop := e = .returned (.tuple #[r.getD z, .bool r.isSome]) ∧ Below w.heap.size w w'
def KidsPost (ks : List Nm) (p : Nm) (w : World) (e : Ending) (w' : World) : Prop := (p ∈ ks ∧ LabPost ks p w e w') ∨ (p ∉ ks ∧ e = .returned (.slice none 0 0) ∧ Below w.heap.size w w')
theorem LabPost.below {ks : List Nm} {p : Nm} {w w1 : World} {e : Ending} {w' : World} (h : LabPost ks p w1 e w') (hb : Below w.heap.size w w1) : LabPost ks p w e w' := by
  obtain ⟨v, ss, e, h1, h2, h3, h4⟩ := h
  exact ⟨v, ss, e, h1, h2, h3.weaken hb.size, hb.trans (h4.mono hb.size)⟩
section
attribute [local go_sem] Oper.semAt_some
set_option maxRecDepth 100000 in
set_option maxHeartbeats 4000000 in
theorem tree_Len_i (s : TreS) (w : World) (hT : TrM 62 60 (.int .i64 0) w s (s.ks.length - 1)) (hsz : s.ks.length ≤ 549755813888) :
    Calls Try.prog 17 #[.pointer (some ⟨s.be [], 0, none⟩)] w (fun e w' => e = .returned (.int .i64 (s.ks.length : Int)) ∧ w' = w) := by
  have hnd := hT.node [] hT.ok.root
  have c3 := kcell hnd 3 _ (cellsT_more _ _ _)
  have hl := hT.len
  obtain ⟨m1, hm1⟩ : ∃ m, s.ks.length - 1 = m := ⟨_, rfl⟩
  rw [hm1] at c3
  have hm2 : m1 ≤ 549755813888 := by omega
  have HE : Hid ((s.ks.length : Int) = (m1 : Int) + 1) := Lib.hid (by omega)
  clear hT hnd hl hm1 hsz
  generalize s.be [] = B at *
  go_enter Try.func17, Try.ntmps17
  go_wp2
  go_ret
  exact ⟨by rw [HE.out]; rfl, rfl⟩
set_option maxRecDepth 100000 in
set_option maxHeartbeats 4000000 in
theorem tree_Get_i (s : TreS) (more : Nat) (vn : Value) (n : Nm) (w : World) (hT : TrM 62 60 (.int .i64 0) w s more) (hA : NmAt w vn n) (hk : NmOK n) (hv : ∀ v, s.vl (wayN n) = some v → ∃ i, v = .int .i64 i) :
    Calls Try.prog 14 #[.pointer (some ⟨s.be [], 0, none⟩), vn] w (GetPost (s.vl (wayN n)) (.int .i64 0) w) := by
  have hd := tree_deepest_i s more vn n _ rfl w hT hA hk
  obtain ⟨a, c, rfl, -⟩ := id hA.1
  have hwl := wayN_len n
  obtain ⟨k1, hk1⟩ : ∃ k, n.length = k := ⟨_, rfl⟩
  rw [hk1] at hd hwl ⊢
  obtain ⟨r, hr⟩ : ∃ r, s.vl (wayN n) = r := ⟨_, rfl⟩
  rw [hr] at hv ⊢
  have HD := Lib.hid hd; have HWL := Lib.hid hwl; have HT := Lib.hid hT; have HV := Lib.hid hv; have HR := Lib.hid hr
  clear hT hA hk hd hwl hv hr
  generalize hB : s.be [] = B at HD ⊢
  clear hB
  go_enter Try.func14, Try.ntmps14
  go_wp2_with fail
  refine HD.out.mono ?_
  rintro e w1 ⟨d, rfl, hd, hb⟩
  by_cases e : d = k1
  · subst e
    have hin : wayN n ∈ s.ks := hd.full.1 HWL.out.symm
    have htk : (wayN n).take d = wayN n := by rw [← HWL.out, List.take_length]
    rw [htk]
    have hnd := (HT.out.below hb).node _ hin
    have c1 := kcell hnd 1 _ (cellsT_val _ _ _ _)
    have c2 := kcell hnd 2 _ (cellsT_giv _ _ _ _)
    rw [HR.out] at c1 c2
    have HB := Lib.hid hb
    clear hd hb hnd hin htk HWL HD HT
    generalize s.be (wayN n) = nb at *
    cases r with
    | none =>
      simp only [Option.getD_none, Option.isSome_none] at c1 c2
      clear HV HR
      go_wp2
      first | go_ret2 | go_ret
      exact ⟨rfl, HB.out⟩
    | some v =>
      obtain ⟨vi, rfl⟩ := HV.out v rfl
      simp only [Option.getD_some, Option.isSome_some] at c1 c2
      clear HV HR
      go_wp2
      first | go_ret2 | go_ret
      exact ⟨rfl, HB.out⟩
  · have hno : wayN n ∉ s.ks := fun h => e (by rw [hd.full.2 h, HWL.out])
    obtain rfl : r = none := HR.out.symm.trans (HT.out.val _ hno)
    have hne : ¬ (d : Int) = (k1 : Int) := by omega
    have HB := Lib.hid hb
    clear hd hb hno HWL HD HT HV HR e
    generalize s.be _ = nb at *
    go_wp2
    first | go_ret2 | go_ret
    exact ⟨rfl, HB.out⟩
set_option maxRecDepth 100000 in
set_option maxHeartbeats 4000000 in
theorem tree_Kids_i (s : TreS) (more : Nat) (vn : Value) (n : Nm) (w : World) (hT : TrM 62 60 (.int .i64 0) w s more) (hA : NmAt w vn n) (hk : NmOK n) (hsz : s.ks.length ≤ 549755813888) :
    Calls Try.prog 15 #[.pointer (some ⟨s.be [], 0, none⟩), vn] w (KidsPost s.ks (wayN n) w) := by
  have hd := tree_deepest_i s more vn n _ rfl w hT hA hk
  obtain ⟨a, c, rfl, -⟩ := id hA.1
  have hwl := wayN_len n
  obtain ⟨k1, hk1⟩ : ∃ k, n.length = k := ⟨_, rfl⟩
  rw [hk1] at hd hwl ⊢
  have HD := Lib.hid hd; have HWL := Lib.hid hwl; have HT := Lib.hid hT; have HS := Lib.hid hsz
  clear hT hA hk hd hwl hsz
  generalize hB : s.be [] = B at HD ⊢
  clear hB
  go_enter Try.func15, Try.ntmps15
  go_wp2_with fail
  refine HD.out.mono ?_
  rintro e w1 ⟨d, rfl, hd, hb⟩
  by_cases e : d < k1
  · have hno : wayN n ∉ s.ks := fun h => by have := hd.full.2 h; have := HWL.out; omega
    have hne : (d : Int) < (k1 : Int) := by omega
    have HB := Lib.hid hb; have HN := Lib.hid hno
    clear hd hb hno HWL HD HT e
    generalize s.be _ = nb at *
    go_wp2
    go_ret
    exact .inr ⟨HN.out, rfl, HB.out⟩
  · have he : d = k1 := by have := hd.1; have := HWL.out; omega
    subst he
    have hin : wayN n ∈ s.ks := hd.full.1 HWL.out.symm
    have htk : (wayN n).take d = wayN n := by rw [← HWL.out, List.take_length]
    rw [htk]
    have hlb := node_labels_i s more (wayN n) w1 (HT.out.below hb) hin HS.out
    have hne : ¬ (d : Int) < (d : Int) := by omega
    have HB := Lib.hid hb; have HN := Lib.hid hin
    clear hd hb hin htk HWL HD HT e
    generalize s.be (wayN n) = nb at *
    go_wp2_with fail
    refine hlb.mono ?_
    rintro e w2 hl
    obtain ⟨v, ss, rfl, h1, h2, h3, h4⟩ := hl
    obtain ⟨av, cv, rfl⟩ := h3.shape
    obtain ⟨lv, hlv⟩ : ∃ l, ss.length = l := ⟨_, rfl⟩
    rw [hlv] at h3 ⊢
    have H1 := Lib.hid h1; have H2 := Lib.hid h2; have H3 := Lib.hid h3; have H4 := Lib.hid h4
    clear h1 h2 h3 h4 hlv hlb
    go_wp2
    go_ret
    exact .inl ⟨HN.out, LabPost.below ⟨_, ss, rfl, H1.out, H2.out, H3.out, H4.out⟩ HB.out⟩
end
end Go.Proofs.Ytbnkecmhmcligaa

/-
  The way that tree.all keeps in a list: names with their nodes.
-/
namespace Go.Proofs.Ytbnkecmhmcligaa
set_option linter.unusedVariables false
set_option linter.unusedSimpArgs false
set_option maxRecDepth 20000
open Go.RowKit Go.Shelf Go.Maps Go.WideMaps
set_option maxRecDepth 20000
abbrev Hd := Option Addr × Nat × Nat
def hdV (h : Hd) : Value := .slice h.1 h.2.1 h.2.2
/-- A name as it is handed out: its slice, its way down. -/
abbrev El := Hd × Nm
def elV (x : El) : Array Value := #[hdV x.1]
def OwnNm (W : World) (base : Nat) (x : El) : Prop := OwnG 9 strV W base (hdV x.1) x.2.reverse
theorem OwnNm.nm {W : World} {base : Nat} {x : El} (h : OwnNm W base x) : NmAt W (hdV x.1) x.2.reverse := OwnG.nmAt h
def plE (be : Nm → Nat) (x : El) : List Value := [.pointer (some ⟨be x.2, 0, none⟩), hdV x.1]
/-- What a loop over all names may turn: rows of names, and boxes of them. -/
def AlObj (o : Obj) : Prop := (∃ es c, o = .map es c) ∨ ∃ cs t, o = .cells cs t ∧ t ≠ 28 ∧ t ≠ 22
def KeepAl (W W' : World) : Prop := W.heap.size ≤ W'.heap.size ∧ ∀ (k : Nat) (o : Obj), W.heap[k]? = some o → AlObj o → W'.heap[k]? = some o
theorem KeepAl.refl (W : World) : KeepAl W W := ⟨Nat.le_refl _, fun _ _ h _ => h⟩
theorem KeepAl.trans {A B C : World} (h : KeepAl A B) (k : KeepAl B C) : KeepAl A C := ⟨Nat.le_trans h.1 k.1, fun j o a b => k.2 j o (h.2 j o a b) b⟩
theorem keepAl_t {A B C : World} (h : KeepAl A B) (k : KeepAl B C) : KeepAl A C := h.trans k
theorem KeepAl.of_below {W W' : World} (h : Below W.heap.size W W') : KeepAl W W' := ⟨h.size, fun k o a _ => (h.block k (Array.getElem?_eq_some_iff.1 a).1).trans a⟩
theorem KeepAl.grown {W W' : World} {row : Option Nat} (hg : W.grownBy W' row) (hr : ∀ r, row = some r → ∃ o : Obj, W.heap[r]? = some o ∧ ¬ AlObj o) : KeepAl W W' :=
  ⟨hg.size, fun k o a b => (hg.block k (Array.getElem?_eq_some_iff.1 a).1 (fun e => by obtain ⟨o', ho, hn⟩ := hr k e.symm; rw [a] at ho; cases ho; exact hn b)).trans a⟩
theorem Plain.notAl {o : Obj} (h : Plain o) : ¬ AlObj o := by
  rintro (⟨es, c, e⟩ | ⟨cs, t, e, _⟩)
  · subst e; cases h.2
  · subst e; cases h.1
theorem keepAl_b {w : World} (W : World) (l : Nat) (o o' : Obj) (_ : w.heap.size ≤ l) (h : W.heap[l]? = some o) (h1 : o.isCells = false) (h2 : o.isWalk = false) : KeepAl W (W.putObj l o') :=
  KeepAl.grown (grownBy_putObj' W l o') (fun r e => by cases e; exact ⟨o, h, Plain.notAl ⟨h1, h2⟩⟩)
variable {TT NT PT PLT : TypeId} {z : Value} {W W' : World} {s : TreS} {more N0 b3 : Nat} {st : List El} {av : Option Nat}
theorem TrM.al (h : TrM TT NT z W s more) (hk : KeepAl W W') (h1 : TT ≠ 28 ∧ TT ≠ 22) (h2 : NT ≠ 28 ∧ NT ≠ 22) : TrM TT NT z W' s more :=
  h.move fun k hf => by
    obtain ⟨o, ho, ht⟩ := h.kind hf
    refine (hk.2 k o ho ?_).trans ho.symm
    rcases ht with ⟨es, c, e⟩ | ⟨cs, e | e⟩
    · exact .inl ⟨es, c, e⟩
    · exact .inr ⟨cs, _, e, h1.1, h1.2⟩
    · exact .inr ⟨cs, _, e, h2.1, h2.2⟩
/-- The list in its box: each name's node, each name. -/
def StkAt (PT PLT : TypeId) (W : World) (N0 b3 : Nat) (av : Option Nat) (s : TreS) (st : List El) : Prop :=
  ∃ (a : Option Addr) (n c : Nat), W.heap[b3]? = some (.cells #[.slice a n c] PLT) ∧ OwnK 2 PT (plE s.be) W N0 (.slice a n c) st ∧ (∀ x ∈ st, x.2 ∈ s.ks ∧ OwnNm W N0 x) ∧ ∀ b, av = some b → (Value.slice a n c).ownBlock ≠ some b
def StkObj (PT PLT : TypeId) (o : Obj) : Prop := ∃ cs t, o = .cells cs t ∧ (t = PT ∨ t = PLT ∨ t = 9)
theorem OwnK.same {α : Type} {k : Nat} {T : TypeId} {enc : α → List Value} {W W' : World} {base : Nat} {v : Value} {xs : List α} (h : OwnK k T enc W base v xs) (hk : ∀ (j : Nat) (cs : Array Value), W.heap[j]? = some (Obj.cells cs T) → W'.heap[j]? = some (Obj.cells cs T)) : OwnK k T enc W' base v xs := by
  unfold OwnK World.ownsRow at h ⊢
  refine ⟨h.1, h.2.imp id ?_⟩
  rintro ⟨g, cap, cur, e, hb, hg, r⟩
  exact ⟨g, cap, cur, e, hb, hk g cur hg, r⟩
theorem OwnG.same {α : Type} {T : TypeId} {enc : α → Value} {W W' : World} {base : Nat} {v : Value} {xs : List α} (h : OwnG T enc W base v xs) (hk : ∀ (j : Nat) (cs : Array Value), W.heap[j]? = some (Obj.cells cs T) → W'.heap[j]? = some (Obj.cells cs T)) : OwnG T enc W' base v xs := by
  unfold OwnG World.ownsRow at h ⊢
  refine ⟨h.1, h.2.imp id ?_⟩
  rintro ⟨g, cap, cur, e, hb, hg, r⟩
  exact ⟨g, cap, cur, e, hb, hk g cur hg, r⟩
theorem StkAt.move (h : StkAt PT PLT W N0 b3 av s st) (hk : ∀ (k : Nat) (o : Obj), W.heap[k]? = some o → StkObj PT PLT o → W'.heap[k]? = some o) : StkAt PT PLT W' N0 b3 av s st := by
  obtain ⟨a, n, c, h1, h2, h3, h4⟩ := h
  exact ⟨a, n, c, hk _ _ h1 ⟨_, _, rfl, .inr (.inl rfl)⟩, h2.same fun j cs hj => hk _ _ hj ⟨_, _, rfl, .inl rfl⟩, fun x hx => ⟨(h3 x hx).1, OwnG.same (h3 x hx).2 fun j cs hj => hk _ _ hj ⟨_, _, rfl, .inr (.inr rfl)⟩⟩, h4⟩
theorem StkAt.al (h : StkAt PT PLT W N0 b3 av s st) (hk : KeepAl W W') (h1 : PT ≠ 28 ∧ PT ≠ 22) (h2 : PLT ≠ 28 ∧ PLT ≠ 22) : StkAt PT PLT W' N0 b3 av s st :=
  h.move fun k o ho hs => hk.2 k o ho (by
    obtain ⟨cs, t, e, ht⟩ := hs
    refine .inr ⟨cs, t, e, ?_⟩
    rcases ht with rfl | rfl | rfl
    · exact h1
    · exact h2
    · exact ⟨by decide, by decide⟩)
theorem StkAt.below (h : StkAt PT PLT W N0 b3 av s st) (hb : Below W.heap.size W W') : StkAt PT PLT W' N0 b3 av s st := h.move fun k o ho _ => (hb.block k (kblock_lt ho)).trans ho
theorem StkAt.plain (h : StkAt PT PLT W N0 b3 av s st) {row : Option Nat} (hg : W.grownBy W' row) (hr : ∀ r, row = some r → ∃ o : Obj, W.heap[r]? = some o ∧ Plain o) : StkAt PT PLT W' N0 b3 av s st :=
  h.move fun k o ho hs => (hg.block k (kblock_lt ho) (fun e => by
    obtain ⟨o', ho', hp⟩ := hr k e.symm
    rw [ho] at ho'; cases ho'
    obtain ⟨cs, t, e2, _⟩ := hs
    subst e2; cases hp.1)).trans ho
theorem StkAt.free (h : StkAt PT PLT W N0 b3 av s st) : StkAt PT PLT W N0 b3 none s st := by
  obtain ⟨a, n, c, h1, h2, h3, _⟩ := h
  exact ⟨a, n, c, h1, h2, h3, fun b e => by cases e⟩
theorem OwnK.blkT {α : Type} {k : Nat} {T : TypeId} {enc : α → List Value} {W : World} {base : Nat} {v : Value} {xs : List α} (h : OwnK k T enc W base v xs) : ∀ b, v.ownBlock = some b → ∃ cs : Array Value, W.heap[b]? = some (Obj.cells cs T) := by
  intro b e
  unfold OwnK World.ownsRow at h
  rcases h.2 with ⟨rfl, _⟩ | ⟨g, cap, cur, rfl, _, hg, _⟩
  · cases e
  · simp only [Value.ownBlock] at e
    cases e
    exact ⟨_, hg⟩
/-- The last is taken off. -/
theorem StkAt.pop {x : El} (h : StkAt PT PLT W N0 b3 av s (st ++ [x])) : ∃ (a : Option Addr) (c : Nat), W.heap[b3]? = some (.cells #[.slice a (st.length + 1) c] PLT) ∧ OwnK 2 PT (plE s.be) W N0 (.slice a (st.length + 1) c) (st ++ [x]) ∧ OwnK 2 PT (plE s.be) W N0 (.slice a st.length c) st := by
  obtain ⟨a, n, c, h1, h2, h3, _⟩ := h
  obtain ⟨a', c', e⟩ := h2.shape
  injection e with e1 e2 e3
  subst e1 e3
  have e4 : n = st.length + 1 := by rw [e2]; simp
  subst e4
  have h4 := h2.cut st.length (by simp) (fun x => rfl)
  rw [List.take_left] at h4
  exact ⟨a, c, h1, h2, h4⟩
/-- One more: what append and the store leave. -/
theorem StkAt.push {w7 w8 : World} {x : El} {ga : Option Addr} {gn gc g8 n8 c8 : Nat} (hPL : PLT ≠ PT) (hPs : PT ≠ 9) (hLs : PLT ≠ 9)
    (hx : w7.heap[b3]? = some (.cells #[.slice ga gn gc] PLT)) (hown : OwnK 2 PT (plE s.be) w7 N0 (.slice ga gn gc) st) (hall : ∀ x ∈ st, x.2 ∈ s.ks ∧ OwnNm w7 N0 x) (hin : x.2 ∈ s.ks) (hnm : OwnNm w7 N0 x)
    (hown8 : OwnK 2 PT (plE s.be) w8 N0 (.slice (some ⟨g8, 0, none⟩) n8 c8) (st ++ [x])) (hg8 : (w7.alloc (.cells (plE s.be x).toArray PT)).grownBy w8 (Value.slice ga gn gc).ownBlock) (hl8 : (Value.slice ga gn gc).ownBlock = some g8 ∨ g8 = w7.heap.size + 1) (hav : ∀ b, av = some b → (Value.slice ga gn gc).ownBlock ≠ some b ∧ b < w7.heap.size) :
    StkAt PT PLT (w8.setCell ⟨b3, 0, none⟩ (.slice (some ⟨g8, 0, none⟩) n8 c8)) N0 b3 av s (st ++ [x]) ∧ w8.heap[b3]? = some (.cells #[.slice ga gn gc] PLT) := by
  have hbA := (Below.refl w7.heap.size w7).alloc (Nat.le_refl _) (.cells (plE s.be x).toArray PT)
  have hown7 := OwnK.below hown hbA
  have hx7 := (hbA.block _ (kblock_lt hx)).trans hx
  have hx8 : w8.heap[b3]? = some (.cells #[.slice ga gn gc] PLT) := (hg8.block b3 (kblock_lt hx7) (fun e => OwnK.ne_block hown7 hx7 hPL e)).trans hx7
  have keepS : ∀ (j : Nat) (cs : Array Value), w7.heap[j]? = some (Obj.cells cs 9) → (w8.setCell ⟨b3, 0, none⟩ (.slice (some ⟨g8, 0, none⟩) n8 c8)).heap[j]? = some (Obj.cells cs 9) := fun j cs hj => by
    have hjA := (hbA.block _ (kblock_lt hj)).trans hj
    have hj8 := (hg8.block j (kblock_lt hjA) (fun e => OwnK.ne_block hown7 hjA (Ne.symm hPs) e)).trans hjA
    refine (Below.heap_setCell _ ⟨b3, 0, none⟩ _ _ (fun e => ?_)).trans hj8
    have e' : j = b3 := e
    subst e'
    rw [hx8] at hj8; injection hj8 with hj8; injection hj8 with _ e2 _; exact hLs e2
  refine ⟨⟨_, _, _, kset hx8 0 _, OwnK.keptB hown8 hx8 hPL 0 _, fun y hy => ?_, fun b hb e => ?_⟩, hx8⟩
  rotate_left
  · obtain ⟨h1, h2⟩ := hav b hb
    have e' : g8 = b := by injection e
    rcases hl8 with h | h
    · exact h1 (e' ▸ h)
    · omega
  rcases List.mem_append.1 hy with hy | hy
  · exact ⟨(hall y hy).1, OwnG.same (hall y hy).2 keepS⟩
  · obtain rfl := List.mem_singleton.1 hy
    exact ⟨hin, OwnG.same hnm keepS⟩
/-- What is still to come of a list. -/
def remT (ks : List Nm) (st : List El) : List Nm := st.reverse.flatMap fun x => subT ks x.2
theorem remT_snoc (ks : List Nm) (st : List El) (x : El) : remT ks (st ++ [x]) = subT ks x.2 ++ remT ks st := by unfold remT; simp
theorem remT_kids {ks : List Nm} {p : Nm} {ls : List (List UInt8)} {add : List El} (h : add.map (·.2) = ls.reverse.map fun l => p ++ [l]) : ∀ st, remT ks (st ++ add) = (ls.flatMap fun l => subT ks (p ++ [l])) ++ remT ks st := by
  intro st
  unfold remT
  rw [List.reverse_append, List.flatMap_append]
  congr 1
  have : add.reverse.flatMap (fun x => subT ks x.2) = (add.reverse.map (·.2)).flatMap (subT ks) := by rw [List.flatMap_map]
  rw [this, List.map_reverse, h, ← List.map_reverse, List.reverse_reverse, List.flatMap_map]
end Go.Proofs.Ytbnkecmhmcligaa

