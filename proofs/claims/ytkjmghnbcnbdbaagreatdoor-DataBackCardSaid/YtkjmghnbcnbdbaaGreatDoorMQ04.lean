/-
  Data behind a pointer: rdata.readWord.
-/
import Derived.Test.YtkjmghnbcnbdbaaGreatDoorMQ32
import Derived.Test.YtkjmghnbcnbdbaaGreatDoorMQ33
import Derived.Test.YtkjmghnbcnbdbaaGreatDoorMQ02
import Derived.Test.YtkjmghnbcnbdbaaGreatDoorMQ03
namespace Go.Proofs.YtkjmghnbcnbdbaaGreatDoor
open Go.RowKit Go.Shelf
set_option maxRecDepth 20000

abbrev SlV := Option Addr × Nat × Nat
def slEnc (x : SlV) : Value := .slice x.1 x.2.1 x.2.2
theorem slEnc_one (x : SlV) : (slEnc x).oneCell' = true := rfl
theorem elemNames : ElemT 42 22 24 := ⟨Tryz.underlying22, _, _, rfl, rfl, rfl, rfl, rfl⟩
theorem OwnG.apart {α β : Type} {T T' : TypeId} {enc : α → Value} {enc' : β → Value} {W : World} {base base' : Nat} {v v' : Value} {xs : List α} {ys : List β} (h : OwnG T enc W base v xs) (h' : OwnG T' enc' W base' v' ys) (hT : T ≠ T') : v.ownBlock = none ∨ v.ownBlock ≠ v'.ownBlock := by
  rcases h.2 with ⟨rfl, _⟩ | ⟨g, cap, cur, rfl, _, hg, _⟩
  · left; rfl
  · right
    intro e
    exact h'.ne_block hg hT e
theorem OwnG.kept2 {α β : Type} {T T' : TypeId} {enc : α → Value} {enc' : β → Value} {W W' : World} {base base' : Nat} {v v' : Value} {xs : List α} {ys : List β} (h : OwnG T enc W base v xs) (h' : OwnG T' enc' W base' v' ys) (hT : T ≠ T') (hg : W.grownBy W' v'.ownBlock) : OwnG T enc W' base v xs :=
  h.kept hg (h.apart h' hT)
theorem block_set {W : World} {B : Nat} {cs : Array Value} {t : TypeId} (h : W.heap[B]? = some (.cells cs t)) (j : Nat) (v : Value) : (W.setCell ⟨B, j, none⟩ v).heap[B]? = some (.cells (cs.setIfInBounds j v) t) := by
  obtain ⟨hlt, hk⟩ := Array.getElem?_eq_some_iff.1 h
  show (W.heap.modify B _)[B]? = _
  rw [Array.getElem?_eq_getElem (by rw [Array.size_modify]; exact hlt), Array.getElem_modify_self, hk]
  rfl
theorem grownBy_set (W : World) (b j : Nat) (v : Value) : W.grownBy (W.setCell ⟨b, j, none⟩ v) (some b) :=
  ⟨rfl, rfl, rfl, (KeepsWalks.setCell W _ v).size, fun k _ hk => Below.heap_setCell _ _ _ k (fun e => hk (by rw [e]))⟩
theorem OwnG.keptB {α : Type} {T : TypeId} {enc : α → Value} {W : World} {base : Nat} {v : Value} {xs : List α} (h : OwnG T enc W base v xs) {B : Nat} {cs : Array Value} {t : TypeId} (hB : W.heap[B]? = some (.cells cs t)) (ht : t ≠ T) (j : Nat) (u : Value) : OwnG T enc (W.setCell ⟨B, j, none⟩ u) base v xs :=
  h.kept (grownBy_set W B j u) (.inr (fun e => h.ne_block hB ht e.symm))
theorem frozen_block {W : World} {B : Nat} {cs : Array Value} {t : TypeId} (h : W.heap[B]? = some (.cells cs t)) (j : Nat) : W.frozen? ⟨B, j, none⟩ = false := by simp [World.frozen?, h]
theorem block_lt {W : World} {B : Nat} {o : Obj} (h : W.heap[B]? = some o) : B < W.heap.size := (Array.getElem?_eq_some_iff.1 h).1

/-- A row of names of the call's own, each name a row of its own. -/
def OwnNms (W : World) (base : Nat) (v : Value) (ns : List Nm) : Prop := ∃ vs : List SlV, OwnG 42 slEnc W base v vs ∧ vs.length = ns.length ∧ ∀ j (h1 : j < vs.length) (h2 : j < ns.length), OwnG 9 strV W base (slEnc vs[j]) ns[j]
theorem OwnNms.below {W W' : World} {base : Nat} {v : Value} {ns : List Nm} (h : OwnNms W base v ns) (hb : Below W.heap.size W W') : OwnNms W' base v ns := by
  obtain ⟨vs, h1, h2, h3⟩ := h
  exact ⟨vs, h1.below hb, h2, fun j a b => (h3 j a b).below hb⟩
theorem OwnNms.nms {W : World} {base : Nat} {v : Value} {ns : List Nm} (h : OwnNms W base v ns) : NmsAt W v ns := by
  obtain ⟨vs, h1, h2, h3⟩ := h
  refine ⟨vs.map slEnc, SlAt.of_own h1, by rw [List.length_map]; exact h2, fun j hj => ?_⟩
  rw [List.getElem_map]
  exact (h3 j (by simpa using hj) (by rw [List.length_map] at hj; omega)).nmAt
theorem OwnNms.nil (W : World) (base : Nat) : OwnNms W base (.slice none 0 0) [] := ⟨[], OwnG.nil _ _, rfl, fun j h => by simp at h⟩
def DRow (W : World) (base : Nat) (vn vu vt vr : Value) (d : Dat) : Prop := OwnNms W base vn d.names ∧ OwnG 56 u32V W base vu d.nums ∧ OwnG 9 strV W base vt d.texts ∧ OwnG 5 bv W base vr d.raw
def DBox (W : World) (B base : Nat) (d : Dat) : Prop := ∃ vn vu vt vr, W.heap[B]? = some (.cells #[.int .i64 d.ty, vn, vu, vt, vr] 27) ∧ DRow W base vn vu vt vr d
theorem DRow.below {W W' : World} {base : Nat} {vn vu vt vr : Value} {d : Dat} (h : DRow W base vn vu vt vr d) (hb : Below W.heap.size W W') : DRow W' base vn vu vt vr d :=
  ⟨h.1.below hb, h.2.1.below hb, h.2.2.1.below hb, h.2.2.2.below hb⟩
theorem DRow.datAt {W : World} {base : Nat} {vn vu vt vr : Value} {d : Dat} (h : DRow W base vn vu vt vr d) : DatAt W (.agg #[.int .i64 d.ty, vn, vu, vt, vr]) d :=
  ⟨vn, vu, vt, vr, rfl, h.1.nms, SlAt.of_own h.2.1, h.2.2.1.nmAt, SlAt.of_own h.2.2.2⟩
theorem DBox.below {W W' : World} {B base : Nat} {d : Dat} (h : DBox W B base d) (hb : Below W.heap.size W W') : DBox W' B base d := by
  obtain ⟨vn, vu, vt, vr, h1, h2⟩ := h
  exact ⟨vn, vu, vt, vr, (hb.block B (block_lt h1)).trans h1, h2.below hb⟩
/-- Behind a store into a field. -/
theorem OwnNms.keptB {W : World} {base : Nat} {v : Value} {ns : List Nm} (h : OwnNms W base v ns) {B : Nat} {cs : Array Value} (hB : W.heap[B]? = some (.cells cs 27)) (j : Nat) (u : Value) : OwnNms (W.setCell ⟨B, j, none⟩ u) base v ns := by
  obtain ⟨vs, h1, h2, h3⟩ := h
  exact ⟨vs, h1.keptB hB (by decide) j u, h2, fun i a b => (h3 i a b).keptB hB (by decide) j u⟩
theorem OwnNms.kept2 {β : Type} {T' : TypeId} {enc' : β → Value} {W W' : World} {base base' : Nat} {v v' : Value} {ns : List Nm} {ys : List β} (h : OwnNms W base v ns) (h' : OwnG T' enc' W base' v' ys) (hT : 42 ≠ T') (hS : 9 ≠ T') (hg : W.grownBy W' v'.ownBlock) : OwnNms W' base v ns := by
  obtain ⟨vs, h1, h2, h3⟩ := h
  exact ⟨vs, h1.kept2 h' hT hg, h2, fun i a b => (h3 i a b).kept2 h' hS hg⟩
theorem DRow.set {W : World} {B base : Nat} {cs : Array Value} {vn vu vt vr : Value} {d : Dat} (h : DRow W base vn vu vt vr d) (hB : W.heap[B]? = some (.cells cs 27)) (j : Nat) (u : Value) : DRow (W.setCell ⟨B, j, none⟩ u) base vn vu vt vr d :=
  ⟨h.1.keptB hB j u, h.2.1.keptB hB (by decide) j u, h.2.2.1.keptB hB (by decide) j u, h.2.2.2.keptB hB (by decide) j u⟩

theorem add_110 (d : Dat) (s : List UInt8) (o : Nm) : addD d 110 s o = { d with names := d.names ++ [(parseN s o).1] } := rfl
theorem add_117 (d : Dat) (s : List UInt8) (o : Nm) : addD d 117 s o = { d with nums := d.nums ++ [(numM s 4294967295).1] } := rfl
theorem add_112 (d : Dat) (s : List UInt8) (o : Nm) : addD d 112 s o = { d with nums := d.nums ++ [(numM s 65535).1] } := rfl
theorem add_116 (d : Dat) (s : List UInt8) (o : Nm) : addD d 116 s o = { d with texts := d.texts ++ [(readTextM s).1] } := rfl
theorem add_52 (d : Dat) (s : List UInt8) (o : Nm) : addD d 52 s o = { d with raw := (addressM s).1 } := rfl
theorem add_54 (d : Dat) (s : List UInt8) (o : Nm) : addD d 54 s o = { d with raw := (groupsM s).1 } := rfl
/-- Other boxes of data lie as they lay. -/
def KeepW (B : Nat) (w w' : World) : Prop := ∀ (b : Nat) (cs : Array Value), b ≠ B → w.heap[b]? = some (Obj.cells cs 27) → w'.heap[b]? = some (Obj.cells cs 27)
theorem KeepW.refl (B : Nat) (w : World) : KeepW B w w := by intro x cs _ e; exact e
theorem KeepW.trans {B : Nat} {a b c : World} (h : KeepW B a b) (k : KeepW B b c) : KeepW B a c := by intro x cs n e; exact k x cs n (h x cs n e)
theorem KeepW.below {B : Nat} {w w' : World} (h : Below w.heap.size w w') : KeepW B w w' := by intro b cs _ e; exact (h.block b (block_lt e)).trans e
theorem KeepW.grown {B : Nat} {α : Type} {T : TypeId} {enc : α → Value} {w w' : World} {base : Nat} {v : Value} {xs : List α} (h : OwnG T enc w base v xs) (hT : 27 ≠ T) (hg : w.grownBy w' v.ownBlock) : KeepW B w w' := by
  intro b cs _ e; exact (hg.block b (block_lt e) (h.ne_block e hT)).trans e
theorem KeepW.set {w : World} {B : Nat} (j : Nat) (u : Value) : KeepW B w (w.setCell ⟨B, j, none⟩ u) := by
  intro b cs2 hb e
  exact ((grownBy_set w B j u).block b (block_lt e) (fun h => hb (by simpa using h))).trans e
/-- What readWord answers. -/
def WordPost (B base : Nat) (d : Dat) (er : Int) (w : World) (e : Ending) (w' : World) : Prop := e = .returned (.int .i64 er) ∧ DBox w' B base d ∧ Below base w w' ∧ KeepW B w w'

set_option maxRecDepth 100000 in
set_option maxHeartbeats 8000000 in
theorem readWord_name (B base : Nat) (d : Dat) (s : ByteArray) (vo : Value) (o : Nm) (w : World) (hD : DBox w B base d) (hbase : base ≤ w.heap.size) (hBb : base ≤ B) (hO : NmAt w vo o) (hok : NmOK o) (ho : o.length ≤ 500000) (hs : s.size ≤ 500000) (hl : d.names.length ≤ 1048576) :
    Calls Tryz.prog 87 #[.pointer (some ⟨B, 0, none⟩), .int .u8 110, .string s, vo] w (WordPost B base (addD d 110 s.data.toList o) (parseN s.data.toList o).2 w) := by
  obtain ⟨vn, vu, vt, vr, hbx, hrow⟩ := hD
  have hP := name_Parse s vo o w hO.1 hO.2 hs hok ho
  unfold ParseNPost at hP
  rw [add_110]
  obtain ⟨⟨l, er⟩, hq⟩ : ∃ q, parseN s.data.toList o = q := ⟨_, rfl⟩
  rw [hq] at hP ⊢
  simp only at hP ⊢
  have HB := Lib.hid hbx; have HR := Lib.hid hrow
  have HLN := Lib.hid hl
  clear hbx hrow hq hO hok ho
  go_enter Tryz.func87, Tryz.ntmps87
  go_wp2_with fail
  refine hP.mono ?_
  rintro e w2 ⟨v', rfl, hown, hb⟩
  have hbx2 := Lib.hid ((hb.block B (block_lt HB.out)).trans HB.out)
  have hrow2 := Lib.hid (HR.out.below hb)
  have hc2 := cell_of_block hbx2.out 1 vn rfl
  obtain ⟨a, c, rfl⟩ := hown.shape
  obtain ⟨vs, hv1, hv2, hv3⟩ := hrow2.out.1
  obtain ⟨an, cn, rfl⟩ := hv1.shape
  obtain ⟨n, hn⟩ : ∃ n, vs.length = n := ⟨_, rfl⟩
  obtain ⟨m, hm⟩ : ∃ m, l.length = m := ⟨_, rfl⟩
  rw [hn] at hc2
  have hv1' : OwnG 42 slEnc w2 base (.slice an n cn) vs := by rw [← hn]; exact hv1
  have hnb : n ≤ 1048576 := by have := HLN.out; omega
  have HV := Lib.hid (And.intro hn (And.intro hv2 hv3))
  have hown' : OwnG 9 strV w2 base (slEnc (a, m, c)) l := by rw [← hm]; exact hown.weaken hbase
  rw [hm]
  have HC := Lib.hid (show [Value.slice a m c] = [((a, m, c) : SlV)].map slEnc from rfl)
  have hz2 := Nat.le_trans hbase hb.size
  have hw2 : Below base w w2 := hb.mono hbase
  have hkw := KeepW.below (B := B) hb
  clear hv1 hn hv2 hv3 hown hm hP hb
  go_wp2_with (at_builtin; refine wpl_append_g w2 rfl (.tmp 27) (.tmp 29) elemNames rfl slEnc_one base (.slice an n cn) vs rfl hv1' [.slice a m c] [((a, m, c) : SlV)] HC.out 1 1 rfl rfl hz2 (by have := HV.out.1; unfold maxLen; simp; omega) (by have := HV.out.1; simp; omega) ?_; intro v3 w3 hown3 hg3; have hbx3 := Lib.hid ((hg3.block B (block_lt hbx2.out) (hv1'.ne_block hbx2.out (by decide))).trans hbx2.out); have hc3 := cell_of_block hbx3.out 1 _ rfl; have hf3 := frozen_block hbx3.out 1; obtain ⟨a3, c3, rfl⟩ := hown3.shape; generalize (vs ++ [((a, m, c) : SlV)]).length = n3 at hown3 ⊢)
  go_ret
  refine ⟨rfl, ⟨.slice a3 n3 c3, vu, vt, vr, ?_, ?_⟩, ?_, (hkw.trans (KeepW.grown hv1' (by decide) hg3)).trans (KeepW.set 1 _)⟩
  · exact block_set hbx3.out 1 _
  · have hr := hrow2.out
    have hn3 : OwnNms w3 base (.slice a3 n3 c3) (d.names ++ [l]) := by
      obtain ⟨hn, hv2, hv3⟩ := HV.out
      refine ⟨vs ++ [(a, m, c)], hown3, by simp; omega, fun j h1 h2 => ?_⟩
      by_cases hj : j < vs.length
      · rw [List.getElem_append_left hj, List.getElem_append_left (by omega)]
        exact (hv3 j hj (by omega)).kept2 hv1' (by decide) hg3
      · obtain rfl : j = vs.length := by simp at h1; omega
        have e1 : (vs ++ [((a, m, c) : SlV)])[vs.length]'h1 = (a, m, c) := by simp
        have e2 : (d.names ++ [l])[vs.length]'h2 = l := by simp [hv2]
        rw [e1, e2]
        exact hown'.kept2 hv1' (by decide) hg3
    have hr3 : DRow w3 base (.slice a3 n3 c3) vu vt vr { d with names := d.names ++ [l] } := ⟨hn3, hr.2.1.kept2 hv1' (by decide) hg3, hr.2.2.1.kept2 hv1' (by decide) hg3, hr.2.2.2.kept2 hv1' (by decide) hg3⟩
    exact hr3.set hbx3.out 1 _
  · exact (hw2.grown hg3 hz2 hv1'.base_le).setCell (p := ⟨B, 1, none⟩) hBb _
/-! ### the other kinds -/

set_option maxRecDepth 100000 in
set_option maxHeartbeats 8000000 in
theorem readWord_num (B base : Nat) (d : Dat) (s : ByteArray) (vo : Value) (o : Nm) (w : World) (hD : DBox w B base d) (hbase : base ≤ w.heap.size) (hBb : base ≤ B) (hs : s.size ≤ 500000) (hl : d.nums.length ≤ 1048576) :
    Calls Tryz.prog 87 #[.pointer (some ⟨B, 0, none⟩), .int .u8 117, .string s, vo] w (WordPost B base (addD d 117 s.data.toList o) (numM s.data.toList 4294967295).2 w) := by
  obtain ⟨vn, vu, vt, vr, hbx, hrow⟩ := hD
  have hP : ∀ W, Calls Tryz.prog 84 #[.string s, .int .i64 4294967295] W (NumPost s.data.toList 4294967295 W) := fun W => number_Parse s 4294967295 W (by unfold maxLen; omega) (by omega)
  unfold NumPost at hP
  have hle := numM_le s.data.toList 4294967295
  rw [add_117]
  obtain ⟨⟨l, er⟩, hq⟩ : ∃ q, numM s.data.toList 4294967295 = q := ⟨_, rfl⟩
  rw [hq] at hP hle ⊢
  simp only at hP hle ⊢
  have HB := Lib.hid hbx; have HR := Lib.hid hrow
  have hc2 := cell_of_block hbx 2 vu rfl
  have hv1 := hrow.2.1
  obtain ⟨an, cn, rfl⟩ := hv1.shape
  obtain ⟨n, hn⟩ : ∃ n, d.nums.length = n := ⟨_, rfl⟩
  rw [hn] at hc2 hl
  have hv1' : OwnG 56 u32V w base (.slice an n cn) d.nums := by rw [← hn]; exact hv1
  have HV := Lib.hid hn
  have hl0 : (0 : Int) ≤ (l : Int) := by omega
  have hl1 : (l : Int) ≤ 4294967295 := by omega
  have HC := Lib.hid (show [Value.int .u32 (l : Int)] = [l].map u32V from rfl)
  clear hbx hq hv1 hn hle hrow
  go_enter Tryz.func87, Tryz.ntmps87
  go_wp2_with (first | (go_at_call 84; refine (hP _).mono ?_; rintro e w2 ⟨rfl, rfl⟩) | (at_builtin; refine wpl_append_g w2 rfl (.tmp 48) (.tmp 51) elemU32 rfl u32_one1 base (.slice an n cn) d.nums rfl hv1' [.int .u32 (l : Int)] [l] HC.out 1 1 rfl rfl hbase (by have := HV.out; unfold maxLen; simp; omega) (by have := HV.out; simp; omega) ?_; intro v3 w3 hown3 hg3; have hbx3 := Lib.hid ((hg3.block B (block_lt HB.out) (hv1'.ne_block HB.out (by decide))).trans HB.out); have hc3 := cell_of_block hbx3.out 2 _ rfl; have hf3 := frozen_block hbx3.out 2; obtain ⟨a3, c3, rfl⟩ := hown3.shape; generalize (d.nums ++ [l]).length = n3 at hown3 ⊢))
  go_ret
  refine ⟨rfl, ⟨vn, .slice a3 n3 c3, vt, vr, ?_, ?_⟩, ?_, (KeepW.grown hv1' (by decide) hg3).trans (KeepW.set 2 _)⟩
  · exact block_set hbx3.out 2 _
  · have hr := HR.out
    have hr3 : DRow w3 base vn (.slice a3 n3 c3) vt vr { d with nums := d.nums ++ [l] } := ⟨hr.1.kept2 hv1' (by decide) (by decide) hg3, hown3, hr.2.2.1.kept2 hv1' (by decide) hg3, hr.2.2.2.kept2 hv1' (by decide) hg3⟩
    exact hr3.set hbx3.out 2 _
  · exact ((Below.refl base _).grown hg3 hbase hv1'.base_le).setCell (p := ⟨B, 2, none⟩) hBb _

set_option maxRecDepth 100000 in
set_option maxHeartbeats 8000000 in
theorem readWord_pref (B base : Nat) (d : Dat) (s : ByteArray) (vo : Value) (o : Nm) (w : World) (hD : DBox w B base d) (hbase : base ≤ w.heap.size) (hBb : base ≤ B) (hs : s.size ≤ 500000) (hl : d.nums.length ≤ 1048576) :
    Calls Tryz.prog 87 #[.pointer (some ⟨B, 0, none⟩), .int .u8 112, .string s, vo] w (WordPost B base (addD d 112 s.data.toList o) (numM s.data.toList 65535).2 w) := by
  obtain ⟨vn, vu, vt, vr, hbx, hrow⟩ := hD
  have hP : ∀ W, Calls Tryz.prog 84 #[.string s, .int .i64 65535] W (NumPost s.data.toList 65535 W) := fun W => number_Parse s 65535 W (by unfold maxLen; omega) (by omega)
  unfold NumPost at hP
  have hle := numM_le s.data.toList 65535
  rw [add_112]
  obtain ⟨⟨l, er⟩, hq⟩ : ∃ q, numM s.data.toList 65535 = q := ⟨_, rfl⟩
  rw [hq] at hP hle ⊢
  simp only at hP hle ⊢
  have HB := Lib.hid hbx; have HR := Lib.hid hrow
  have hc2 := cell_of_block hbx 2 vu rfl
  have hv1 := hrow.2.1
  obtain ⟨an, cn, rfl⟩ := hv1.shape
  obtain ⟨n, hn⟩ : ∃ n, d.nums.length = n := ⟨_, rfl⟩
  rw [hn] at hc2 hl
  have hv1' : OwnG 56 u32V w base (.slice an n cn) d.nums := by rw [← hn]; exact hv1
  have HV := Lib.hid hn
  have hl0 : (0 : Int) ≤ (l : Int) := by omega
  have hl1 : (l : Int) ≤ 4294967295 := by omega
  have HC := Lib.hid (show [Value.int .u32 (l : Int)] = [l].map u32V from rfl)
  clear hbx hq hv1 hn hle hrow
  go_enter Tryz.func87, Tryz.ntmps87
  go_wp2_with (first | (go_at_call 84; refine (hP _).mono ?_; rintro e w2 ⟨rfl, rfl⟩) | (at_builtin; refine wpl_append_g w2 rfl (.tmp 48) (.tmp 51) elemU32 rfl u32_one1 base (.slice an n cn) d.nums rfl hv1' [.int .u32 (l : Int)] [l] HC.out 1 1 rfl rfl hbase (by have := HV.out; unfold maxLen; simp; omega) (by have := HV.out; simp; omega) ?_; intro v3 w3 hown3 hg3; have hbx3 := Lib.hid ((hg3.block B (block_lt HB.out) (hv1'.ne_block HB.out (by decide))).trans HB.out); have hc3 := cell_of_block hbx3.out 2 _ rfl; have hf3 := frozen_block hbx3.out 2; obtain ⟨a3, c3, rfl⟩ := hown3.shape; generalize (d.nums ++ [l]).length = n3 at hown3 ⊢))
  go_ret
  refine ⟨rfl, ⟨vn, .slice a3 n3 c3, vt, vr, ?_, ?_⟩, ?_, (KeepW.grown hv1' (by decide) hg3).trans (KeepW.set 2 _)⟩
  · exact block_set hbx3.out 2 _
  · have hr := HR.out
    have hr3 : DRow w3 base vn (.slice a3 n3 c3) vt vr { d with nums := d.nums ++ [l] } := ⟨hr.1.kept2 hv1' (by decide) (by decide) hg3, hown3, hr.2.2.1.kept2 hv1' (by decide) hg3, hr.2.2.2.kept2 hv1' (by decide) hg3⟩
    exact hr3.set hbx3.out 2 _
  · exact ((Below.refl base _).grown hg3 hbase hv1'.base_le).setCell (p := ⟨B, 2, none⟩) hBb _

set_option maxRecDepth 100000 in
set_option maxHeartbeats 8000000 in
theorem readWord_text (B base : Nat) (d : Dat) (s : ByteArray) (vo : Value) (o : Nm) (w : World) (hD : DBox w B base d) (hbase : base ≤ w.heap.size) (hBb : base ≤ B) (hs : s.size ≤ 500000) (hl : d.texts.length ≤ 1048576) (hno : d.names = []) :
    Calls Tryz.prog 87 #[.pointer (some ⟨B, 0, none⟩), .int .u8 116, .string s, vo] w (WordPost B base (addD d 116 s.data.toList o) (readTextM s.data.toList).2 w) := by
  obtain ⟨vn, vu, vt, vr, hbx, hrow⟩ := hD
  have hP := fun W => rdata_readText s W (by omega)
  unfold StrE at hP
  rw [add_116]
  obtain ⟨⟨l, er⟩, hq⟩ : ∃ q, readTextM s.data.toList = q := ⟨_, rfl⟩
  rw [hq] at hP ⊢
  simp only at hP ⊢
  obtain ⟨x, hx0, _, _⟩ := str_of l
  rw [str_name hx0] at hP
  have HB := Lib.hid hbx; have HR := Lib.hid hrow
  have hv1 := hrow.2.2.1
  obtain ⟨an, cn, rfl⟩ := hv1.shape
  obtain ⟨n, hn⟩ : ∃ n, d.texts.length = n := ⟨_, rfl⟩
  rw [hn] at hl
  have HV := Lib.hid hn
  have HNO := Lib.hid hno
  have HC := Lib.hid (show [Value.string x] = [l].map strV by rw [← hx0]; simp [strV])
  have hv1' : OwnG 9 strV w base (.slice an n cn) d.texts := by rw [← hn]; exact hv1
  have hbb : ∀ W, Below w.heap.size w W → W.cell? ⟨B, 3, none⟩ = some (.slice an n cn) := fun W hb => by
    rw [← hn]; exact cell_of_block ((hb.block B (block_lt HB.out)).trans HB.out) 3 _ rfl
  clear hbx hq hv1 hn hrow hx0 hno
  go_enter Tryz.func87, Tryz.ntmps87
  go_wp2_with (first | (go_at_call 110; refine (hP _).mono ?_; rintro e w2 ⟨rfl, hb⟩; have hc2 := hbb _ hb; have hbx2 := Lib.hid ((hb.block B (block_lt HB.out)).trans HB.out); have hv2 := hv1'.below hb; have hz2 := Nat.le_trans hbase hb.size) | (at_builtin; refine wpl_append_g w2 rfl (.tmp 66) (.tmp 68) elemStr rfl strV_one base (.slice an n cn) d.texts rfl hv2 [.string x] [l] HC.out 1 1 rfl rfl hz2 (by have := HV.out; unfold maxLen; simp; omega) (by have := HV.out; simp; omega) ?_; intro v3 w3 hown3 hg3; have hbx3 := Lib.hid ((hg3.block B (block_lt hbx2.out) (hv2.ne_block hbx2.out (by decide))).trans hbx2.out); have hc3 := cell_of_block hbx3.out 3 _ rfl; have hf3 := frozen_block hbx3.out 3; obtain ⟨a3, c3, rfl⟩ := hown3.shape; generalize (d.texts ++ [l]).length = n3 at hown3 ⊢))
  go_ret
  refine ⟨rfl, ⟨vn, vu, .slice a3 n3 c3, vr, ?_, ?_⟩, ?_, ((KeepW.below hb).trans (KeepW.grown hv2 (by decide) hg3)).trans (KeepW.set 3 _)⟩
  · exact block_set hbx3.out 3 _
  · have hr := HR.out.below hb
    have hn3 : OwnNms w3 base vn d.names := by
      have h := hr.1
      obtain ⟨vs, h1, h2, _⟩ := h
      rw [HNO.out] at h2 ⊢
      exact ⟨vs, h1.kept2 hv2 (by decide) hg3, h2, fun j a b => absurd b (by simp)⟩
    have hr3 : DRow w3 base vn vu (.slice a3 n3 c3) vr { d with texts := d.texts ++ [l] } := ⟨hn3, hr.2.1.kept2 hv2 (by decide) hg3, hown3, hr.2.2.2.kept2 hv2 (by decide) hg3⟩
    exact hr3.set hbx3.out 3 _
  · exact ((hb.mono hbase).grown hg3 hz2 hv2.base_le).setCell (p := ⟨B, 3, none⟩) hBb _

set_option maxRecDepth 100000 in
set_option maxHeartbeats 8000000 in
theorem readWord_address (B base : Nat) (d : Dat) (s : ByteArray) (vo : Value) (o : Nm) (w : World) (hM : MaxC w) (hD : DBox w B base d) (hbase : base ≤ w.heap.size) (hBb : base ≤ B) (hs : s.size ≤ 500000) :
    Calls Tryz.prog 87 #[.pointer (some ⟨B, 0, none⟩), .int .u8 52, .string s, vo] w (WordPost B base (addD d 52 s.data.toList o) (addressM s.data.toList).2 w) := by
  obtain ⟨vn, vu, vt, vr, hbx, hrow⟩ := hD
  have hP := rdata_readAddress s w hM (by omega)
  unfold BytesE at hP
  rw [add_52]
  obtain ⟨⟨l, er⟩, hq⟩ : ∃ q, addressM s.data.toList = q := ⟨_, rfl⟩
  rw [hq] at hP ⊢
  simp only at hP ⊢
  have HB := Lib.hid hbx; have HR := Lib.hid hrow
  clear hbx hq hrow
  go_enter Tryz.func87, Tryz.ntmps87
  go_wp2_with (go_at_call 111; refine hP.mono ?_; rintro e w2 ⟨v', rfl, hown, hb⟩; have hbx2 := Lib.hid ((hb.block B (block_lt HB.out)).trans HB.out); have hc2 := cell_of_block hbx2.out 4 _ rfl; have hf2 := frozen_block hbx2.out 4; obtain ⟨a3, c3, rfl⟩ := hown.shape; generalize l.length = n3 at hown ⊢)
  go_ret
  refine ⟨rfl, ⟨vn, vu, vt, .slice a3 n3 c3, ?_, ?_⟩, ?_, (KeepW.below hb).trans (KeepW.set 4 _)⟩
  · exact block_set hbx2.out 4 _
  · have hr := HR.out.below hb
    have hr3 : DRow w2 base vn vu vt (.slice a3 n3 c3) { d with raw := l } := ⟨hr.1, hr.2.1, hr.2.2.1, hown.weaken hbase⟩
    exact hr3.set hbx2.out 4 _
  · exact (hb.mono hbase).setCell (p := ⟨B, 4, none⟩) hBb _

set_option maxRecDepth 100000 in
set_option maxHeartbeats 8000000 in
theorem readWord_groups (B base : Nat) (d : Dat) (s : ByteArray) (vo : Value) (o : Nm) (w : World) (hM : MaxC w) (hD : DBox w B base d) (hbase : base ≤ w.heap.size) (hBb : base ≤ B) (hs : s.size ≤ 500000) :
    Calls Tryz.prog 87 #[.pointer (some ⟨B, 0, none⟩), .int .u8 54, .string s, vo] w (WordPost B base (addD d 54 s.data.toList o) (groupsM s.data.toList).2 w) := by
  obtain ⟨vn, vu, vt, vr, hbx, hrow⟩ := hD
  have hP := rdata_readGroups s w hM (by omega)
  unfold BytesE at hP
  rw [add_54]
  obtain ⟨⟨l, er⟩, hq⟩ : ∃ q, groupsM s.data.toList = q := ⟨_, rfl⟩
  rw [hq] at hP ⊢
  simp only at hP ⊢
  have HB := Lib.hid hbx; have HR := Lib.hid hrow
  clear hbx hq hrow
  go_enter Tryz.func87, Tryz.ntmps87
  go_wp2_with (go_at_call 112; refine hP.mono ?_; rintro e w2 ⟨v', rfl, hown, hb⟩; have hbx2 := Lib.hid ((hb.block B (block_lt HB.out)).trans HB.out); have hc2 := cell_of_block hbx2.out 4 _ rfl; have hf2 := frozen_block hbx2.out 4; obtain ⟨a3, c3, rfl⟩ := hown.shape; generalize l.length = n3 at hown ⊢)
  go_ret
  refine ⟨rfl, ⟨vn, vu, vt, .slice a3 n3 c3, ?_, ?_⟩, ?_, (KeepW.below hb).trans (KeepW.set 4 _)⟩
  · exact block_set hbx2.out 4 _
  · have hr := HR.out.below hb
    have hr3 : DRow w2 base vn vu vt (.slice a3 n3 c3) { d with raw := l } := ⟨hr.1, hr.2.1, hr.2.2.1, hown.weaken hbase⟩
    exact hr3.set hbx2.out 4 _
  · exact (hb.mono hbase).setCell (p := ⟨B, 4, none⟩) hBb _
end Go.Proofs.YtkjmghnbcnbdbaaGreatDoor

