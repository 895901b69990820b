import Derived.Test.YtckammgnmgkieaaGreatMQ34
import Derived.Test.YtckammgnmgkieaaGreatMQ03
namespace Go.Proofs.YtckammgnmgkieaaGreat
set_option maxRecDepth 100000
set_option maxHeartbeats 16000000
open Go.RowKit Go.Shelf
def klD1 : Dat := ⟨1, [], [], [], [1, 2, 3, 4]⟩
def klD2 : Dat := ⟨2, [[[110, 115], [115], [111]]], [], [], []⟩
def klD4 : Dat := ⟨39, [[[116]]], [], [], []⟩
def klD5 : Dat := ⟨5, [[[99]]], [], [], []⟩
def klR1 : Rc := ⟨[[97], [111]], 0, klD1⟩
def klR2 : Rc := ⟨[[115], [111]], 0, klD2⟩
def klR3 : Rc := ⟨[[110, 115], [115], [111]], 0, klD1⟩
def klR4 : Rc := ⟨[[100], [111]], 0, klD4⟩
def klR5 : Rc := ⟨[[42], [119], [111]], 0, klD5⟩
def klO : Nm := [[111]]
def klL : List Rc := [klR1, klR2, klR3, klR4, klR5]
def klC : List Rc := [klR1, klR4, klR2, klR3, klR5]
theorem qmB : canonM klL = klC := by rfl
theorem kl_x : lookM klO klC [[65], [111]] 1 = ⟨1, [klD1], [], false, []⟩ := by rfl
theorem kl_y : lookM klO klC [[113], [115], [111]] 1 = ⟨4, [klD2], [[115], [111]], false, [([[110, 115], [115], [111]], [klD1])]⟩ := by rfl
theorem kl_d : lookM klO klC [[112], [100], [111]] 1 = ⟨5, [klD4], [[112], [116]], false, []⟩ := by rfl
theorem kl_w : lookM klO klC [[112], [119], [111]] 1 = ⟨5, [klD5], [[99]], true, []⟩ := by rfl
theorem kl_n : lookM klO klC [[118], [111]] 1 = ⟨3, [], [], false, []⟩ := by rfl
theorem kl_e : lookM klO klC [[119], [111]] 1 = ⟨2, [], [], false, []⟩ := by rfl
theorem kl_r : lookM klO klC [[112]] 1 = ⟨7, [], [], false, []⟩ := by rfl
theorem kl_few : ∀ r ∈ klC, fewR r = true := by decide
theorem kl_okD : ∀ r ∈ klC, RcOK r := by
 intro r hr
 have hf := kl_few r hr
 simp only [fewR, Bool.and_eq_true] at hf
 obtain ⟨h1, h2⟩ := hf
 simp only [fewD, Bool.and_eq_true, decide_eq_true_eq] at h2
 obtain ⟨⟨f1, f2, f3, f4⟩, f5, f6⟩ := h2
 have h0 : r.ttl = 0 ∧ (-(2 ^ 63) ≤ r.data.ty ∧ r.data.ty < 2 ^ 63) ∧ r.data.nums = [] := by
  simp only [klC, List.mem_cons, List.not_mem_nil, or_false] at hr
  rcases hr with rfl | rfl | rfl | rfl | rfl <;> exact ⟨rfl, by decide, rfl⟩
 exact ⟨qbU h1, by omega, h0.2.1, by omega, fun n hn => qbU (f5 n hn), by omega, (by rw [h0.2.2]; intro n hn; cases hn), ⟨by omega, fun x hx => by have := f6 x hx; omega⟩, by omega⟩
theorem kl_okL : ∀ r ∈ klL, RcOK r := fun r hr => kl_okD r (by
 simp only [klL, klC, List.mem_cons, List.not_mem_nil, or_false] at hr ⊢
 rcases hr with h | h | h | h | h <;> simp [h])
theorem LkAt.lens {W : World} {cs : List Value} {r : Lk} (h : LkAt W cs r) : ∃ a1 c1 a2 c2 a4 c4, cs = [.int .i64 r.kind, .slice a1 r.data.length c1, .slice a2 r.name.length c2, .bool r.wild, .slice a4 r.glue.length c4] := by
 obtain ⟨⟨a1, b1, c1⟩, ⟨a2, b2, c2⟩, ⟨a4, b4, c4⟩, rfl, ⟨ds, ⟨_, _, e1, -⟩, h1⟩, h2, ⟨es, ⟨_, _, e4, -⟩, h4, -⟩⟩ := h
 have e2 := nm_len h2
 unfold slW at e1 e4
 injection e1 with _ e1 _
 injection e4 with _ e4 _
 simp only at e1 e2 e4
 refine ⟨a1, c1, a2, c2, a4, c4, ?_⟩
 unfold slW
 simp only
 rw [e1, e4, h1.1, h4, e2]
theorem LkAt.glue0 {W : World} {k a1 a2 w : Value} {a4 : Option Addr} {n4 c4 : Nat} {r : Lk} {g : Nm × List Dat} (h : LkAt W [k, a1, a2, w, .slice a4 n4 c4] r) (hg : r.glue = [g]) : ∃ b off a c, a4 = some ⟨b, off, none⟩ ∧ ∀ W', Below W.heap.size W W' → W'.cell? ⟨b, off + 1, none⟩ = some (.slice a g.2.length c) := by
 obtain ⟨⟨_, _, _⟩, ⟨_, _, _⟩, ⟨z1, z2, z3⟩, e, -, -, ⟨es, h1, h2, h3⟩⟩ := h
 simp only [List.cons.injEq, and_true] at e
 obtain ⟨-, -, -, -, e⟩ := e
 unfold slW at e h1
 simp only at e h1
 injection e with e1 e2 e3
 subst e1 e2 e3
 rw [hg] at h2
 have h0 : es.length = 1 := h2
 have hk : ∀ cs ∈ es, cs.length = 2 := fun cs hc => by
  obtain ⟨i, hi, rfl⟩ := List.mem_iff_getElem.1 hc
  obtain ⟨x0, x1, e, _⟩ := h3 i hi (by rw [hg]; simp; omega)
  rw [e]; rfl
 have hz2 : n4 = es.length := by
  obtain ⟨_, _, e, -⟩ := h1
  injection e
 subst hz2
 obtain ⟨b, off, e, hb, hc⟩ := h1.elem2 hk (by omega)
 obtain ⟨⟨p0, p1, p2⟩, ⟨q0, q1, q2⟩, e2, k1, k2⟩ := h3 0 (by omega) (by rw [hg]; simp)
 have k3 : DtsR W (slW (q0, q1, q2)) g.2 := by
  have : (r.glue[0]'(by rw [hg]; simp)) = g := by simp [hg]
  rw [this] at k2; exact k2
 obtain ⟨ds, ⟨_, _, e3, -⟩, h5⟩ := k3
 unfold slW at e3
 injection e3 with _ e3 _
 simp only at e3
 refine ⟨b, off, q0, q2, e, fun W' hB => ?_⟩
 have := (hc 0 (by omega) _ _ e2 W' hB).2
 rw [Nat.zero_mul, Nat.add_zero] at this
 rw [this]; unfold slW; simp only
 rw [e3, h5.1]
def klObjs (n : Nat) : List Obj := [(.cells #[.string ⟨#[111]⟩] 9), (.cells #[.int .u8 1, .int .u8 2, .int .u8 3, .int .u8 4] 5), (.cells #[.int .i64 1, .slice none 0 0, .slice none 0 0, .slice none 0 0, .slice (some ⟨n + 1, 0, none⟩) 4 4] 101), (.cells #[.string ⟨#[110, 115]⟩, .string ⟨#[115]⟩, .string ⟨#[111]⟩] 9), (.cells #[.string ⟨#[97]⟩, .string ⟨#[111]⟩] 9), (.cells #[.string ⟨#[115]⟩, .string ⟨#[111]⟩] 9), (.cells #[.slice (some ⟨n + 1 + 1 + 1, 0, none⟩) 3 3] 24), (.cells #[.string ⟨#[100]⟩, .string ⟨#[111]⟩] 9), (.cells #[.string ⟨#[116]⟩] 9), (.cells #[.slice (some ⟨n + 1 + 1 + 1 + 1 + 1 + 1 + 1 + 1, 0, none⟩) 1 1] 24), (.cells #[.string ⟨#[42]⟩, .string ⟨#[119]⟩, .string ⟨#[111]⟩] 9), (.cells #[.string ⟨#[99]⟩] 9), (.cells #[.slice (some ⟨n + 1 + 1 + 1 + 1 + 1 + 1 + 1 + 1 + 1 + 1 + 1, 0, none⟩) 1 1] 24), (.cells #[.slice (some ⟨n + 1 + 1 + 1 + 1, 0, none⟩) 2 2, .int .u32 0, .int .i64 1, .slice none 0 0, .slice none 0 0, .slice none 0 0, .slice (some ⟨n + 1, 0, none⟩) 4 4, .slice (some ⟨n + 1 + 1 + 1 + 1 + 1, 0, none⟩) 2 2, .int .u32 0, .int .i64 2, .slice (some ⟨n + 1 + 1 + 1 + 1 + 1 + 1, 0, none⟩) 1 1, .slice none 0 0, .slice none 0 0, .slice none 0 0, .slice (some ⟨n + 1 + 1 + 1, 0, none⟩) 3 3, .int .u32 0, .int .i64 1, .slice none 0 0, .slice none 0 0, .slice none 0 0, .slice (some ⟨n + 1, 0, none⟩) 4 4, .slice (some ⟨n + 1 + 1 + 1 + 1 + 1 + 1 + 1, 0, none⟩) 2 2, .int .u32 0, .int .i64 39, .slice (some ⟨n + 1 + 1 + 1 + 1 + 1 + 1 + 1 + 1 + 1, 0, none⟩) 1 1, .slice none 0 0, .slice none 0 0, .slice none 0 0, .slice (some ⟨n + 1 + 1 + 1 + 1 + 1 + 1 + 1 + 1 + 1 + 1, 0, none⟩) 3 3, .int .u32 0, .int .i64 5, .slice (some ⟨n + 1 + 1 + 1 + 1 + 1 + 1 + 1 + 1 + 1 + 1 + 1 + 1, 0, none⟩) 1 1, .slice none 0 0, .slice none 0 0, .slice none 0 0] 103)]
theorem qiL (w : World) :
 Calls Tryz.prog 48 #[] w fun e w' => e = .returned (.bool true) ∧ Below w.heap.size w w' := by
 go_enter Tryz.func48, Tryz.ntmps48
 go_wp2_with fail
 obtain ⟨n, hn⟩ : ∃ n, w.heap.size = n := ⟨_, rfl⟩
 obtain ⟨W, hW⟩ : ∃ W, allocs w (klObjs n) = W := ⟨_, rfl⟩
 have hB := qcT (klObjs n) w
 have k0 : W.heap[n]? = some (.cells #[.string ⟨#[111]⟩] 9) := by
  have h := qaI (klObjs n) w 0 (by simp [klObjs])
  rw [hW, hn] at h; exact h
 have k1 : W.heap[n + 1]? = some (.cells #[.int .u8 1, .int .u8 2, .int .u8 3, .int .u8 4] 5) := by
  have h := qaI (klObjs n) w 1 (by simp [klObjs])
  rw [hW, hn] at h; exact h
 have k3 : W.heap[n + 1 + 1 + 1]? = some (.cells #[.string ⟨#[110, 115]⟩, .string ⟨#[115]⟩, .string ⟨#[111]⟩] 9) := by
  have h := qaI (klObjs n) w 3 (by simp [klObjs])
  rw [hW, hn] at h; exact h
 have k4 : W.heap[n + 1 + 1 + 1 + 1]? = some (.cells #[.string ⟨#[97]⟩, .string ⟨#[111]⟩] 9) := by
  have h := qaI (klObjs n) w 4 (by simp [klObjs])
  rw [hW, hn] at h; exact h
 have k5 : W.heap[n + 1 + 1 + 1 + 1 + 1]? = some (.cells #[.string ⟨#[115]⟩, .string ⟨#[111]⟩] 9) := by
  have h := qaI (klObjs n) w 5 (by simp [klObjs])
  rw [hW, hn] at h; exact h
 have k6 : W.heap[n + 1 + 1 + 1 + 1 + 1 + 1]? = some (.cells #[.slice (some ⟨n + 1 + 1 + 1, 0, none⟩) 3 3] 24) := by
  have h := qaI (klObjs n) w 6 (by simp [klObjs])
  rw [hW, hn] at h; exact h
 have k7 : W.heap[n + 1 + 1 + 1 + 1 + 1 + 1 + 1]? = some (.cells #[.string ⟨#[100]⟩, .string ⟨#[111]⟩] 9) := by
  have h := qaI (klObjs n) w 7 (by simp [klObjs])
  rw [hW, hn] at h; exact h
 have k8 : W.heap[n + 1 + 1 + 1 + 1 + 1 + 1 + 1 + 1]? = some (.cells #[.string ⟨#[116]⟩] 9) := by
  have h := qaI (klObjs n) w 8 (by simp [klObjs])
  rw [hW, hn] at h; exact h
 have k9 : W.heap[n + 1 + 1 + 1 + 1 + 1 + 1 + 1 + 1 + 1]? = some (.cells #[.slice (some ⟨n + 1 + 1 + 1 + 1 + 1 + 1 + 1 + 1, 0, none⟩) 1 1] 24) := by
  have h := qaI (klObjs n) w 9 (by simp [klObjs])
  rw [hW, hn] at h; exact h
 have k10 : W.heap[n + 1 + 1 + 1 + 1 + 1 + 1 + 1 + 1 + 1 + 1]? = some (.cells #[.string ⟨#[42]⟩, .string ⟨#[119]⟩, .string ⟨#[111]⟩] 9) := by
  have h := qaI (klObjs n) w 10 (by simp [klObjs])
  rw [hW, hn] at h; exact h
 have k11 : W.heap[n + 1 + 1 + 1 + 1 + 1 + 1 + 1 + 1 + 1 + 1 + 1]? = some (.cells #[.string ⟨#[99]⟩] 9) := by
  have h := qaI (klObjs n) w 11 (by simp [klObjs])
  rw [hW, hn] at h; exact h
 have k12 : W.heap[n + 1 + 1 + 1 + 1 + 1 + 1 + 1 + 1 + 1 + 1 + 1 + 1]? = some (.cells #[.slice (some ⟨n + 1 + 1 + 1 + 1 + 1 + 1 + 1 + 1 + 1 + 1 + 1, 0, none⟩) 1 1] 24) := by
  have h := qaI (klObjs n) w 12 (by simp [klObjs])
  rw [hW, hn] at h; exact h
 have k13 : W.heap[n + 1 + 1 + 1 + 1 + 1 + 1 + 1 + 1 + 1 + 1 + 1 + 1 + 1]? = some (.cells #[.slice (some ⟨n + 1 + 1 + 1 + 1, 0, none⟩) 2 2, .int .u32 0, .int .i64 1, .slice none 0 0, .slice none 0 0, .slice none 0 0, .slice (some ⟨n + 1, 0, none⟩) 4 4, .slice (some ⟨n + 1 + 1 + 1 + 1 + 1, 0, none⟩) 2 2, .int .u32 0, .int .i64 2, .slice (some ⟨n + 1 + 1 + 1 + 1 + 1 + 1, 0, none⟩) 1 1, .slice none 0 0, .slice none 0 0, .slice none 0 0, .slice (some ⟨n + 1 + 1 + 1, 0, none⟩) 3 3, .int .u32 0, .int .i64 1, .slice none 0 0, .slice none 0 0, .slice none 0 0, .slice (some ⟨n + 1, 0, none⟩) 4 4, .slice (some ⟨n + 1 + 1 + 1 + 1 + 1 + 1 + 1, 0, none⟩) 2 2, .int .u32 0, .int .i64 39, .slice (some ⟨n + 1 + 1 + 1 + 1 + 1 + 1 + 1 + 1 + 1, 0, none⟩) 1 1, .slice none 0 0, .slice none 0 0, .slice none 0 0, .slice (some ⟨n + 1 + 1 + 1 + 1 + 1 + 1 + 1 + 1 + 1 + 1, 0, none⟩) 3 3, .int .u32 0, .int .i64 5, .slice (some ⟨n + 1 + 1 + 1 + 1 + 1 + 1 + 1 + 1 + 1 + 1 + 1 + 1, 0, none⟩) 1 1, .slice none 0 0, .slice none 0 0, .slice none 0 0] 103) := by
  have h := qaI (klObjs n) w 13 (by simp [klObjs])
  rw [hW, hn] at h; exact h
 rw [hW] at hB
 simp only [allocs, klObjs, List.foldl_cons, List.foldl_nil] at hW
 have hN0 : NmAt W (.slice (some ⟨n, 0, none⟩) 1 1) [[111]] := nm_lit' (l := [.string ⟨#[111]⟩]) k0 rfl
 have hN3 : NmAt W (.slice (some ⟨n + 1 + 1 + 1, 0, none⟩) 3 3) [[110, 115], [115], [111]] := nm_lit' (l := [.string ⟨#[110, 115]⟩, .string ⟨#[115]⟩, .string ⟨#[111]⟩]) k3 rfl
 have hN4 : NmAt W (.slice (some ⟨n + 1 + 1 + 1 + 1, 0, none⟩) 2 2) [[97], [111]] := nm_lit' (l := [.string ⟨#[97]⟩, .string ⟨#[111]⟩]) k4 rfl
 have hN5 : NmAt W (.slice (some ⟨n + 1 + 1 + 1 + 1 + 1, 0, none⟩) 2 2) [[115], [111]] := nm_lit' (l := [.string ⟨#[115]⟩, .string ⟨#[111]⟩]) k5 rfl
 have hN7 : NmAt W (.slice (some ⟨n + 1 + 1 + 1 + 1 + 1 + 1 + 1, 0, none⟩) 2 2) [[100], [111]] := nm_lit' (l := [.string ⟨#[100]⟩, .string ⟨#[111]⟩]) k7 rfl
 have hN8 : NmAt W (.slice (some ⟨n + 1 + 1 + 1 + 1 + 1 + 1 + 1 + 1, 0, none⟩) 1 1) [[116]] := nm_lit' (l := [.string ⟨#[116]⟩]) k8 rfl
 have hN10 : NmAt W (.slice (some ⟨n + 1 + 1 + 1 + 1 + 1 + 1 + 1 + 1 + 1 + 1, 0, none⟩) 3 3) [[42], [119], [111]] := nm_lit' (l := [.string ⟨#[42]⟩, .string ⟨#[119]⟩, .string ⟨#[111]⟩]) k10 rfl
 have hN11 : NmAt W (.slice (some ⟨n + 1 + 1 + 1 + 1 + 1 + 1 + 1 + 1 + 1 + 1 + 1, 0, none⟩) 1 1) [[99]] := nm_lit' (l := [.string ⟨#[99]⟩]) k11 rfl
 have hDr : SlAt W (.slice (some ⟨n + 1, 0, none⟩) 4 4) ([1, 2, 3, 4].map bv) := qcR (l := [.int .u8 1, .int .u8 2, .int .u8 3, .int .u8 4]) k1
 have hD6 : SlAt W (.slice (some ⟨n + 1 + 1 + 1 + 1 + 1 + 1, 0, none⟩) 1 1) [.slice (some ⟨n + 1 + 1 + 1, 0, none⟩) 3 3] := qcR (l := [.slice (some ⟨n + 1 + 1 + 1, 0, none⟩) 3 3]) k6
 have hD9 : SlAt W (.slice (some ⟨n + 1 + 1 + 1 + 1 + 1 + 1 + 1 + 1 + 1, 0, none⟩) 1 1) [.slice (some ⟨n + 1 + 1 + 1 + 1 + 1 + 1 + 1 + 1, 0, none⟩) 1 1] := qcR (l := [.slice (some ⟨n + 1 + 1 + 1 + 1 + 1 + 1 + 1 + 1, 0, none⟩) 1 1]) k9
 have hD12 : SlAt W (.slice (some ⟨n + 1 + 1 + 1 + 1 + 1 + 1 + 1 + 1 + 1 + 1 + 1 + 1, 0, none⟩) 1 1) [.slice (some ⟨n + 1 + 1 + 1 + 1 + 1 + 1 + 1 + 1 + 1 + 1 + 1, 0, none⟩) 1 1] := qcR (l := [.slice (some ⟨n + 1 + 1 + 1 + 1 + 1 + 1 + 1 + 1 + 1 + 1 + 1, 0, none⟩) 1 1]) k12
 have q1 : RcAt W [.slice (some ⟨n + 1 + 1 + 1 + 1, 0, none⟩) 2 2, .int .u32 ((0 : Nat) : Int), .int .i64 1, .slice none 0 0, .slice none 0 0, .slice none 0 0, .slice (some ⟨n + 1, 0, none⟩) 4 4] klR1 := ⟨_, _, _, _, _, rfl, hN4, _, _, _, _, rfl, NmsAt.nil _, SlAt.nil _, nm_nil _, hDr⟩
 have q2 : RcAt W [.slice (some ⟨n + 1 + 1 + 1 + 1 + 1, 0, none⟩) 2 2, .int .u32 ((0 : Nat) : Int), .int .i64 2, .slice (some ⟨n + 1 + 1 + 1 + 1 + 1 + 1, 0, none⟩) 1 1, .slice none 0 0, .slice none 0 0, .slice none 0 0] klR2 := ⟨_, _, _, _, _, rfl, hN5, _, _, _, _, rfl, ⟨_, hD6, rfl, fun i h1 => by
  match i, h1 with
  | 0, _ => exact hN3⟩, SlAt.nil _, nm_nil _, SlAt.nil _⟩
 have q3 : RcAt W [.slice (some ⟨n + 1 + 1 + 1, 0, none⟩) 3 3, .int .u32 ((0 : Nat) : Int), .int .i64 1, .slice none 0 0, .slice none 0 0, .slice none 0 0, .slice (some ⟨n + 1, 0, none⟩) 4 4] klR3 := ⟨_, _, _, _, _, rfl, hN3, _, _, _, _, rfl, NmsAt.nil _, SlAt.nil _, nm_nil _, hDr⟩
 have q4 : RcAt W [.slice (some ⟨n + 1 + 1 + 1 + 1 + 1 + 1 + 1, 0, none⟩) 2 2, .int .u32 ((0 : Nat) : Int), .int .i64 39, .slice (some ⟨n + 1 + 1 + 1 + 1 + 1 + 1 + 1 + 1 + 1, 0, none⟩) 1 1, .slice none 0 0, .slice none 0 0, .slice none 0 0] klR4 := ⟨_, _, _, _, _, rfl, hN7, _, _, _, _, rfl, ⟨_, hD9, rfl, fun i h1 => by
  match i, h1 with
  | 0, _ => exact hN8⟩, SlAt.nil _, nm_nil _, SlAt.nil _⟩
 have q5 : RcAt W [.slice (some ⟨n + 1 + 1 + 1 + 1 + 1 + 1 + 1 + 1 + 1 + 1, 0, none⟩) 3 3, .int .u32 ((0 : Nat) : Int), .int .i64 5, .slice (some ⟨n + 1 + 1 + 1 + 1 + 1 + 1 + 1 + 1 + 1 + 1 + 1 + 1, 0, none⟩) 1 1, .slice none 0 0, .slice none 0 0, .slice none 0 0] klR5 := ⟨_, _, _, _, _, rfl, hN10, _, _, _, _, rfl, ⟨_, hD12, rfl, fun i h1 => by
  match i, h1 with
  | 0, _ => exact hN11⟩, SlAt.nil _, nm_nil _, SlAt.nil _⟩
 have hRC : RowC W (.slice (some ⟨n + 1 + 1 + 1 + 1 + 1 + 1 + 1 + 1 + 1 + 1 + 1 + 1 + 1, 0, none⟩) 5 5) klL := ⟨_, qaH (css := [[.slice (some ⟨n + 1 + 1 + 1 + 1, 0, none⟩) 2 2, .int .u32 0, .int .i64 1, .slice none 0 0, .slice none 0 0, .slice none 0 0, .slice (some ⟨n + 1, 0, none⟩) 4 4], [.slice (some ⟨n + 1 + 1 + 1 + 1 + 1, 0, none⟩) 2 2, .int .u32 0, .int .i64 2, .slice (some ⟨n + 1 + 1 + 1 + 1 + 1 + 1, 0, none⟩) 1 1, .slice none 0 0, .slice none 0 0, .slice none 0 0], [.slice (some ⟨n + 1 + 1 + 1, 0, none⟩) 3 3, .int .u32 0, .int .i64 1, .slice none 0 0, .slice none 0 0, .slice none 0 0, .slice (some ⟨n + 1, 0, none⟩) 4 4], [.slice (some ⟨n + 1 + 1 + 1 + 1 + 1 + 1 + 1, 0, none⟩) 2 2, .int .u32 0, .int .i64 39, .slice (some ⟨n + 1 + 1 + 1 + 1 + 1 + 1 + 1 + 1 + 1, 0, none⟩) 1 1, .slice none 0 0, .slice none 0 0, .slice none 0 0], [.slice (some ⟨n + 1 + 1 + 1 + 1 + 1 + 1 + 1 + 1 + 1 + 1, 0, none⟩) 3 3, .int .u32 0, .int .i64 5, .slice (some ⟨n + 1 + 1 + 1 + 1 + 1 + 1 + 1 + 1 + 1 + 1 + 1 + 1, 0, none⟩) 1 1, .slice none 0 0, .slice none 0 0, .slice none 0 0]]) k13, rfl, fun i h1 h2 => by
  match i, h1 with
  | 0, _ => exact q1
  | 1, _ => exact q2
  | 2, _ => exact q3
  | 3, _ => exact q4
  | 4, _ => exact q5⟩
 have hc := qh7 (.slice (some ⟨n, 0, none⟩) 1 1) (.slice (some ⟨n + 1 + 1 + 1 + 1 + 1 + 1 + 1 + 1 + 1 + 1 + 1 + 1 + 1, 0, none⟩) 5 5) klO klL hN0 ⟨by decide, by decide⟩ hRC kl_okL (by decide)
 rw [qmB] at hc
 rw [hn, hW]
 have HB := qH0 hB
 clear hB hN0 hN3 hN4 hN5 hN7 hN8 hN10 hN11 hDr hD6 hD9 hD12 q1 q2 q3 q4 q5 hRC k0 k1 k3 k4 k5 k6 k7 k8 k9 k10 k11 k12 k13 hW
 refine hc.mono ?_
 rintro e w2 ⟨za, zn, zc, v1, m, c, rfl, hZ, hb2⟩
 have hA2 := (Below.refl w2.heap.size w2).alloc (qN0) (.cells #[.slice za zn zc, .slice v1 m c] 57)
 obtain ⟨zb, hzb⟩ : ∃ zb, w2.heap.size = zb := ⟨_, rfl⟩
 obtain ⟨w3, hw3⟩ : ∃ w3, w2.alloc (.cells #[.slice za zn zc, .slice v1 m c] 57) = w3 := ⟨_, rfl⟩
 have hX := knew w2 (.cells #[.slice za zn zc, .slice v1 m c] 57)
 rw [hw3] at hA2 hX
 rw [hzb] at hX
 have hb3 := qB0 hb2 hA2
 have HB3 := qH0 (qB0 HB.out hb3)
 have HZ3 := qH0 (hZ.below hA2)
 have BZ3 := qH0 hX
 clear hc hZ hb2 hb3 hA2 hX HB
 have hA := (Below.refl w3.heap.size w3).alloc (qN0) (.cells #[.string ⟨#[65]⟩, .string ⟨#[111]⟩] 9)
 have hNA : NmAt (w3.alloc (.cells #[.string ⟨#[65]⟩, .string ⟨#[111]⟩] 9)) (.slice (some ⟨w3.heap.size, 0, none⟩) 2 2) [[65], [111]] := nm_lit' (l := [.string ⟨#[65]⟩, .string ⟨#[111]⟩]) (knew w3 _) rfl
 have hc := qbh (o := klO) (rs := klC) (q := [[65], [111]]) 1 (HZ3.out.below hA) hNA ⟨by decide, by decide⟩ (by decide) (qbj (by decide) kl_few)
 rw [kl_x] at hc
 have HAl := qH0 hA
 have y0 := kcell BZ3.out 0 _ rfl; have y1 := kcell BZ3.out 1 _ rfl
 clear hA hNA
 go_wp2_with fail
 clear hw3 hzb
 refine hc.mono ?_
 rintro e w4 ⟨cs, rfl, hk, hb1⟩
 obtain ⟨a1x, c1x, a2x, c2x, a4x, c4x, rfl⟩ : ∃ a1 c1 a2 c2 a4 c4, cs = [.int .i64 1, .slice a1 1 c1, .slice a2 0 c2, .bool false, .slice a4 0 c4] := (hk _ (FarKeep.refl _ _)).lens
 have hl := hk _ (FarKeep.refl _ _)
 have hb := qB0 HAl.out hb1
 clear hb1 hk hc HAl y0 y1
 have HB4 := qH0 (qB0 HB3.out hb)
 have HZ4 := qH0 (HZ3.out.below hb)
 have BZ4 := qH0 ((hb.block _ (qaa BZ3.out)).trans BZ3.out)
 clear HB3 HZ3 BZ3
 clear hb
 have hA := (Below.refl w4.heap.size w4).alloc (qN0) (.cells #[.int .i64 1, .slice a1x 1 c1x, .slice a2x 0 c2x, .bool false, .slice a4x 0 c4x] 84)
 obtain ⟨blkx, hx5⟩ : ∃ b, w4.heap.size = b := ⟨_, rfl⟩
 obtain ⟨w5, hW5⟩ : ∃ W, w4.alloc (.cells #[.int .i64 1, .slice a1x 1 c1x, .slice a2x 0 c2x, .bool false, .slice a4x 0 c4x] 84) = W := ⟨_, rfl⟩
 have hX := knew w4 (.cells #[.int .i64 1, .slice a1x 1 c1x, .slice a2x 0 c2x, .bool false, .slice a4x 0 c4x] 84)
 rw [hW5] at hA hX
 rw [hx5] at hX
 have HB5 := qH0 (qB0 HB4.out hA)
 have HZ5 := qH0 (HZ4.out.below hA)
 have BZ5 := qH0 ((hA.block _ (qaa BZ4.out)).trans BZ4.out)
 clear HB4 HZ4 BZ4
 have Bx5 := qH0 hX
 have Lx5 := qH0 (hl.below hA)
 clear hA hX hl
 have hA := (Below.refl w5.heap.size w5).alloc (qN0) (.cells #[.string ⟨#[113]⟩, .string ⟨#[115]⟩, .string ⟨#[111]⟩] 9)
 have hNA : NmAt (w5.alloc (.cells #[.string ⟨#[113]⟩, .string ⟨#[115]⟩, .string ⟨#[111]⟩] 9)) (.slice (some ⟨w5.heap.size, 0, none⟩) 3 3) [[113], [115], [111]] := nm_lit' (l := [.string ⟨#[113]⟩, .string ⟨#[115]⟩, .string ⟨#[111]⟩]) (knew w5 _) rfl
 have hc := qbh (o := klO) (rs := klC) (q := [[113], [115], [111]]) 1 (HZ5.out.below hA) hNA ⟨by decide, by decide⟩ (by decide) (qbj (by decide) kl_few)
 rw [kl_y] at hc
 have HAl := qH0 hA
 have y0 := kcell BZ5.out 0 _ rfl; have y1 := kcell BZ5.out 1 _ rfl
 clear hA hNA
 go_wp2_with fail
 clear hW5 hx5
 refine hc.mono ?_
 rintro e w6 ⟨cs, rfl, hk, hb1⟩
 obtain ⟨a1y, c1y, a2y, c2y, a4y, c4y, rfl⟩ : ∃ a1 c1 a2 c2 a4 c4, cs = [.int .i64 4, .slice a1 1 c1, .slice a2 2 c2, .bool false, .slice a4 1 c4] := (hk _ (FarKeep.refl _ _)).lens
 have hl := hk _ (FarKeep.refl _ _)
 obtain ⟨gb, gof, a5, c5, rfl, hg5⟩ := hl.glue0 rfl
 have hb := qB0 HAl.out hb1
 clear hb1 hk hc HAl y0 y1
 have HB6 := qH0 (qB0 HB5.out hb)
 have HZ6 := qH0 (HZ5.out.below hb)
 have Lx6 := qH0 (Lx5.out.below hb)
 have BZ6 := qH0 ((hb.block _ (qaa BZ5.out)).trans BZ5.out)
 have Bx6 := qH0 ((hb.block _ (qaa Bx5.out)).trans Bx5.out)
 clear HB5 HZ5 Lx5 BZ5 Bx5
 clear hb
 have hA := (Below.refl w6.heap.size w6).alloc (qN0) (.cells #[.int .i64 4, .slice a1y 1 c1y, .slice a2y 2 c2y, .bool false, .slice (some ⟨gb, gof, none⟩) 1 c4y] 84)
 obtain ⟨blky, hx7⟩ : ∃ b, w6.heap.size = b := ⟨_, rfl⟩
 obtain ⟨w7, hW7⟩ : ∃ W, w6.alloc (.cells #[.int .i64 4, .slice a1y 1 c1y, .slice a2y 2 c2y, .bool false, .slice (some ⟨gb, gof, none⟩) 1 c4y] 84) = W := ⟨_, rfl⟩
 have hX := knew w6 (.cells #[.int .i64 4, .slice a1y 1 c1y, .slice a2y 2 c2y, .bool false, .slice (some ⟨gb, gof, none⟩) 1 c4y] 84)
 rw [hW7] at hA hX
 rw [hx7] at hX
 have HB7 := qH0 (qB0 HB6.out hA)
 have HZ7 := qH0 (HZ6.out.below hA)
 have Lx7 := qH0 (Lx6.out.below hA)
 have BZ7 := qH0 ((hA.block _ (qaa BZ6.out)).trans BZ6.out)
 have Bx7 := qH0 ((hA.block _ (qaa Bx6.out)).trans Bx6.out)
 clear HB6 HZ6 Lx6 BZ6 Bx6
 have By7 := qH0 hX
 have Ly7 := qH0 (hl.below hA)
 have G7 := qH0 (fun W (h : Below w7.heap.size w7 W) => hg5 W (qB0 hA h))
 have HD7 := qH0 (Below.refl w7.heap.size w7)
 clear hg5
 clear hA hX hl
 have hA := (Below.refl w7.heap.size w7).alloc (qN0) (.cells #[.string ⟨#[112]⟩, .string ⟨#[100]⟩, .string ⟨#[111]⟩] 9)
 have hNA : NmAt (w7.alloc (.cells #[.string ⟨#[112]⟩, .string ⟨#[100]⟩, .string ⟨#[111]⟩] 9)) (.slice (some ⟨w7.heap.size, 0, none⟩) 3 3) [[112], [100], [111]] := nm_lit' (l := [.string ⟨#[112]⟩, .string ⟨#[100]⟩, .string ⟨#[111]⟩]) (knew w7 _) rfl
 have hc := qbh (o := klO) (rs := klC) (q := [[112], [100], [111]]) 1 (HZ7.out.below hA) hNA ⟨by decide, by decide⟩ (by decide) (qbj (by decide) kl_few)
 rw [kl_d] at hc
 have HAl := qH0 hA
 have y0 := kcell BZ7.out 0 _ rfl; have y1 := kcell BZ7.out 1 _ rfl
 clear hA hNA
 go_wp2_with fail
 clear hW7 hx7
 refine hc.mono ?_
 rintro e w8 ⟨cs, rfl, hk, hb1⟩
 obtain ⟨a1d, c1d, a2d, c2d, a4d, c4d, rfl⟩ : ∃ a1 c1 a2 c2 a4 c4, cs = [.int .i64 5, .slice a1 1 c1, .slice a2 2 c2, .bool false, .slice a4 0 c4] := (hk _ (FarKeep.refl _ _)).lens
 have hl := hk _ (FarKeep.refl _ _)
 have hb := qB0 HAl.out hb1
 clear hb1 hk hc HAl y0 y1
 have HB8 := qH0 (qB0 HB7.out hb)
 have HD8 := qH0 (qB0 HD7.out hb)
 clear HD7
 have HZ8 := qH0 (HZ7.out.below hb)
 have Lx8 := qH0 (Lx7.out.below hb)
 have Ly8 := qH0 (Ly7.out.below hb)
 have BZ8 := qH0 ((hb.block _ (qaa BZ7.out)).trans BZ7.out)
 have Bx8 := qH0 ((hb.block _ (qaa Bx7.out)).trans Bx7.out)
 have By8 := qH0 ((hb.block _ (qaa By7.out)).trans By7.out)
 clear HB7 HZ7 Lx7 Ly7 BZ7 Bx7 By7
 clear hb
 have hA := (Below.refl w8.heap.size w8).alloc (qN0) (.cells #[.int .i64 5, .slice a1d 1 c1d, .slice a2d 2 c2d, .bool false, .slice a4d 0 c4d] 84)
 obtain ⟨blkd, hx9⟩ : ∃ b, w8.heap.size = b := ⟨_, rfl⟩
 obtain ⟨w9, hW9⟩ : ∃ W, w8.alloc (.cells #[.int .i64 5, .slice a1d 1 c1d, .slice a2d 2 c2d, .bool false, .slice a4d 0 c4d] 84) = W := ⟨_, rfl⟩
 have hX := knew w8 (.cells #[.int .i64 5, .slice a1d 1 c1d, .slice a2d 2 c2d, .bool false, .slice a4d 0 c4d] 84)
 rw [hW9] at hA hX
 rw [hx9] at hX
 have HB9 := qH0 (qB0 HB8.out hA)
 have HD9 := qH0 (qB0 HD8.out hA)
 clear HD8
 have HZ9 := qH0 (HZ8.out.below hA)
 have Lx9 := qH0 (Lx8.out.below hA)
 have Ly9 := qH0 (Ly8.out.below hA)
 have BZ9 := qH0 ((hA.block _ (qaa BZ8.out)).trans BZ8.out)
 have Bx9 := qH0 ((hA.block _ (qaa Bx8.out)).trans Bx8.out)
 have By9 := qH0 ((hA.block _ (qaa By8.out)).trans By8.out)
 clear HB8 HZ8 Lx8 Ly8 BZ8 Bx8 By8
 have Bd9 := qH0 hX
 have Ld9 := qH0 (hl.below hA)
 clear hA hX hl
 have hA := (Below.refl w9.heap.size w9).alloc (qN0) (.cells #[.string ⟨#[112]⟩, .string ⟨#[119]⟩, .string ⟨#[111]⟩] 9)
 have hNA : NmAt (w9.alloc (.cells #[.string ⟨#[112]⟩, .string ⟨#[119]⟩, .string ⟨#[111]⟩] 9)) (.slice (some ⟨w9.heap.size, 0, none⟩) 3 3) [[112], [119], [111]] := nm_lit' (l := [.string ⟨#[112]⟩, .string ⟨#[119]⟩, .string ⟨#[111]⟩]) (knew w9 _) rfl
 have hc := qbh (o := klO) (rs := klC) (q := [[112], [119], [111]]) 1 (HZ9.out.below hA) hNA ⟨by decide, by decide⟩ (by decide) (qbj (by decide) kl_few)
 rw [kl_w] at hc
 have HAl := qH0 hA
 have y0 := kcell BZ9.out 0 _ rfl; have y1 := kcell BZ9.out 1 _ rfl
 clear hA hNA
 go_wp2_with fail
 clear hW9 hx9
 refine hc.mono ?_
 rintro e w10 ⟨cs, rfl, hk, hb1⟩
 obtain ⟨a1w, c1w, a2w, c2w, a4w, c4w, rfl⟩ : ∃ a1 c1 a2 c2 a4 c4, cs = [.int .i64 5, .slice a1 1 c1, .slice a2 1 c2, .bool true, .slice a4 0 c4] := (hk _ (FarKeep.refl _ _)).lens
 have hl := hk _ (FarKeep.refl _ _)
 have hb := qB0 HAl.out hb1
 clear hb1 hk hc HAl y0 y1
 have HB10 := qH0 (qB0 HB9.out hb)
 have HD10 := qH0 (qB0 HD9.out hb)
 clear HD9
 have HZ10 := qH0 (HZ9.out.below hb)
 have Lx10 := qH0 (Lx9.out.below hb)
 have Ly10 := qH0 (Ly9.out.below hb)
 have Ld10 := qH0 (Ld9.out.below hb)
 have BZ10 := qH0 ((hb.block _ (qaa BZ9.out)).trans BZ9.out)
 have Bx10 := qH0 ((hb.block _ (qaa Bx9.out)).trans Bx9.out)
 have By10 := qH0 ((hb.block _ (qaa By9.out)).trans By9.out)
 have Bd10 := qH0 ((hb.block _ (qaa Bd9.out)).trans Bd9.out)
 clear HB9 HZ9 Lx9 Ly9 Ld9 BZ9 Bx9 By9 Bd9
 clear hb
 have hA := (Below.refl w10.heap.size w10).alloc (qN0) (.cells #[.int .i64 5, .slice a1w 1 c1w, .slice a2w 1 c2w, .bool true, .slice a4w 0 c4w] 84)
 obtain ⟨blkw, hx11⟩ : ∃ b, w10.heap.size = b := ⟨_, rfl⟩
 obtain ⟨w11, hW11⟩ : ∃ W, w10.alloc (.cells #[.int .i64 5, .slice a1w 1 c1w, .slice a2w 1 c2w, .bool true, .slice a4w 0 c4w] 84) = W := ⟨_, rfl⟩
 have hX := knew w10 (.cells #[.int .i64 5, .slice a1w 1 c1w, .slice a2w 1 c2w, .bool true, .slice a4w 0 c4w] 84)
 rw [hW11] at hA hX
 rw [hx11] at hX
 have HB11 := qH0 (qB0 HB10.out hA)
 have HD11 := qH0 (qB0 HD10.out hA)
 clear HD10
 have HZ11 := qH0 (HZ10.out.below hA)
 have Lx11 := qH0 (Lx10.out.below hA)
 have Ly11 := qH0 (Ly10.out.below hA)
 have Ld11 := qH0 (Ld10.out.below hA)
 have BZ11 := qH0 ((hA.block _ (qaa BZ10.out)).trans BZ10.out)
 have Bx11 := qH0 ((hA.block _ (qaa Bx10.out)).trans Bx10.out)
 have By11 := qH0 ((hA.block _ (qaa By10.out)).trans By10.out)
 have Bd11 := qH0 ((hA.block _ (qaa Bd10.out)).trans Bd10.out)
 clear HB10 HZ10 Lx10 Ly10 Ld10 BZ10 Bx10 By10 Bd10
 have Bw11 := qH0 hX
 clear hA hX hl
 have hA := (Below.refl w11.heap.size w11).alloc (qN0) (.cells #[.string ⟨#[118]⟩, .string ⟨#[111]⟩] 9)
 have hNA : NmAt (w11.alloc (.cells #[.string ⟨#[118]⟩, .string ⟨#[111]⟩] 9)) (.slice (some ⟨w11.heap.size, 0, none⟩) 2 2) [[118], [111]] := nm_lit' (l := [.string ⟨#[118]⟩, .string ⟨#[111]⟩]) (knew w11 _) rfl
 have hc := qbh (o := klO) (rs := klC) (q := [[118], [111]]) 1 (HZ11.out.below hA) hNA ⟨by decide, by decide⟩ (by decide) (qbj (by decide) kl_few)
 rw [kl_n] at hc
 have HAl := qH0 hA
 have y0 := kcell BZ11.out 0 _ rfl; have y1 := kcell BZ11.out 1 _ rfl
 clear hA hNA
 go_wp2_with fail
 clear hW11 hx11
 refine hc.mono ?_
 rintro e w12 ⟨cs, rfl, hk, hb1⟩
 obtain ⟨a1n, c1n, a2n, c2n, a4n, c4n, rfl⟩ : ∃ a1 c1 a2 c2 a4 c4, cs = [.int .i64 3, .slice a1 0 c1, .slice a2 0 c2, .bool false, .slice a4 0 c4] := (hk _ (FarKeep.refl _ _)).lens
 have hl := hk _ (FarKeep.refl _ _)
 have hb := qB0 HAl.out hb1
 clear hb1 hk hc HAl y0 y1
 have HB12 := qH0 (qB0 HB11.out hb)
 have HD12 := qH0 (qB0 HD11.out hb)
 clear HD11
 have HZ12 := qH0 (HZ11.out.below hb)
 have Lx12 := qH0 (Lx11.out.below hb)
 have Ly12 := qH0 (Ly11.out.below hb)
 have Ld12 := qH0 (Ld11.out.below hb)
 have BZ12 := qH0 ((hb.block _ (qaa BZ11.out)).trans BZ11.out)
 have Bx12 := qH0 ((hb.block _ (qaa Bx11.out)).trans Bx11.out)
 have By12 := qH0 ((hb.block _ (qaa By11.out)).trans By11.out)
 have Bd12 := qH0 ((hb.block _ (qaa Bd11.out)).trans Bd11.out)
 have Bw12 := qH0 ((hb.block _ (qaa Bw11.out)).trans Bw11.out)
 clear HB11 HZ11 Lx11 Ly11 Ld11 BZ11 Bx11 By11 Bd11 Bw11
 clear hb
 have hA := (Below.refl w12.heap.size w12).alloc (qN0) (.cells #[.int .i64 3, .slice a1n 0 c1n, .slice a2n 0 c2n, .bool false, .slice a4n 0 c4n] 84)
 obtain ⟨blkn, hx13⟩ : ∃ b, w12.heap.size = b := ⟨_, rfl⟩
 obtain ⟨w13, hW13⟩ : ∃ W, w12.alloc (.cells #[.int .i64 3, .slice a1n 0 c1n, .slice a2n 0 c2n, .bool false, .slice a4n 0 c4n] 84) = W := ⟨_, rfl⟩
 have hX := knew w12 (.cells #[.int .i64 3, .slice a1n 0 c1n, .slice a2n 0 c2n, .bool false, .slice a4n 0 c4n] 84)
 rw [hW13] at hA hX
 rw [hx13] at hX
 have HB13 := qH0 (qB0 HB12.out hA)
 have HD13 := qH0 (qB0 HD12.out hA)
 clear HD12
 have HZ13 := qH0 (HZ12.out.below hA)
 have Lx13 := qH0 (Lx12.out.below hA)
 have Ly13 := qH0 (Ly12.out.below hA)
 have Ld13 := qH0 (Ld12.out.below hA)
 have BZ13 := qH0 ((hA.block _ (qaa BZ12.out)).trans BZ12.out)
 have Bx13 := qH0 ((hA.block _ (qaa Bx12.out)).trans Bx12.out)
 have By13 := qH0 ((hA.block _ (qaa By12.out)).trans By12.out)
 have Bd13 := qH0 ((hA.block _ (qaa Bd12.out)).trans Bd12.out)
 have Bw13 := qH0 ((hA.block _ (qaa Bw12.out)).trans Bw12.out)
 clear HB12 HZ12 Lx12 Ly12 Ld12 BZ12 Bx12 By12 Bd12 Bw12
 have Bn13 := qH0 hX
 clear hA hX hl
 have hA := (Below.refl w13.heap.size w13).alloc (qN0) (.cells #[.string ⟨#[119]⟩, .string ⟨#[111]⟩] 9)
 have hNA : NmAt (w13.alloc (.cells #[.string ⟨#[119]⟩, .string ⟨#[111]⟩] 9)) (.slice (some ⟨w13.heap.size, 0, none⟩) 2 2) [[119], [111]] := nm_lit' (l := [.string ⟨#[119]⟩, .string ⟨#[111]⟩]) (knew w13 _) rfl
 have hc := qbh (o := klO) (rs := klC) (q := [[119], [111]]) 1 (HZ13.out.below hA) hNA ⟨by decide, by decide⟩ (by decide) (qbj (by decide) kl_few)
 rw [kl_e] at hc
 have HAl := qH0 hA
 have y0 := kcell BZ13.out 0 _ rfl; have y1 := kcell BZ13.out 1 _ rfl
 clear hA hNA
 go_wp2_with fail
 clear hW13 hx13
 refine hc.mono ?_
 rintro e w14 ⟨cs, rfl, hk, hb1⟩
 obtain ⟨a1e, c1e, a2e, c2e, a4e, c4e, rfl⟩ : ∃ a1 c1 a2 c2 a4 c4, cs = [.int .i64 2, .slice a1 0 c1, .slice a2 0 c2, .bool false, .slice a4 0 c4] := (hk _ (FarKeep.refl _ _)).lens
 have hl := hk _ (FarKeep.refl _ _)
 have hb := qB0 HAl.out hb1
 clear hb1 hk hc HAl y0 y1
 have HB14 := qH0 (qB0 HB13.out hb)
 have HD14 := qH0 (qB0 HD13.out hb)
 clear HD13
 have HZ14 := qH0 (HZ13.out.below hb)
 have Lx14 := qH0 (Lx13.out.below hb)
 have Ly14 := qH0 (Ly13.out.below hb)
 have Ld14 := qH0 (Ld13.out.below hb)
 have BZ14 := qH0 ((hb.block _ (qaa BZ13.out)).trans BZ13.out)
 have Bx14 := qH0 ((hb.block _ (qaa Bx13.out)).trans Bx13.out)
 have By14 := qH0 ((hb.block _ (qaa By13.out)).trans By13.out)
 have Bd14 := qH0 ((hb.block _ (qaa Bd13.out)).trans Bd13.out)
 have Bw14 := qH0 ((hb.block _ (qaa Bw13.out)).trans Bw13.out)
 have Bn14 := qH0 ((hb.block _ (qaa Bn13.out)).trans Bn13.out)
 clear HB13 HZ13 Lx13 Ly13 Ld13 BZ13 Bx13 By13 Bd13 Bw13 Bn13
 clear hb
 have hA := (Below.refl w14.heap.size w14).alloc (qN0) (.cells #[.int .i64 2, .slice a1e 0 c1e, .slice a2e 0 c2e, .bool false, .slice a4e 0 c4e] 84)
 obtain ⟨blke, hx15⟩ : ∃ b, w14.heap.size = b := ⟨_, rfl⟩
 obtain ⟨w15, hW15⟩ : ∃ W, w14.alloc (.cells #[.int .i64 2, .slice a1e 0 c1e, .slice a2e 0 c2e, .bool false, .slice a4e 0 c4e] 84) = W := ⟨_, rfl⟩
 have hX := knew w14 (.cells #[.int .i64 2, .slice a1e 0 c1e, .slice a2e 0 c2e, .bool false, .slice a4e 0 c4e] 84)
 rw [hW15] at hA hX
 rw [hx15] at hX
 have HB15 := qH0 (qB0 HB14.out hA)
 have HD15 := qH0 (qB0 HD14.out hA)
 clear HD14
 have HZ15 := qH0 (HZ14.out.below hA)
 have Lx15 := qH0 (Lx14.out.below hA)
 have Ly15 := qH0 (Ly14.out.below hA)
 have Ld15 := qH0 (Ld14.out.below hA)
 have BZ15 := qH0 ((hA.block _ (qaa BZ14.out)).trans BZ14.out)
 have Bx15 := qH0 ((hA.block _ (qaa Bx14.out)).trans Bx14.out)
 have By15 := qH0 ((hA.block _ (qaa By14.out)).trans By14.out)
 have Bd15 := qH0 ((hA.block _ (qaa Bd14.out)).trans Bd14.out)
 have Bw15 := qH0 ((hA.block _ (qaa Bw14.out)).trans Bw14.out)
 have Bn15 := qH0 ((hA.block _ (qaa Bn14.out)).trans Bn14.out)
 clear HB14 HZ14 Lx14 Ly14 Ld14 BZ14 Bx14 By14 Bd14 Bw14 Bn14
 have Be15 := qH0 hX
 clear hA hX hl
 have hA := (Below.refl w15.heap.size w15).alloc (qN0) (.cells #[.string ⟨#[112]⟩] 9)
 have hNA : NmAt (w15.alloc (.cells #[.string ⟨#[112]⟩] 9)) (.slice (some ⟨w15.heap.size, 0, none⟩) 1 1) [[112]] := nm_lit' (l := [.string ⟨#[112]⟩]) (knew w15 _) rfl
 have hc := qbh (o := klO) (rs := klC) (q := [[112]]) 1 (HZ15.out.below hA) hNA ⟨by decide, by decide⟩ (by decide) (qbj (by decide) kl_few)
 rw [kl_r] at hc
 have HAl := qH0 hA
 have y0 := kcell BZ15.out 0 _ rfl; have y1 := kcell BZ15.out 1 _ rfl
 clear hA hNA
 go_wp2_with fail
 clear hW15 hx15
 refine hc.mono ?_
 rintro e w16 ⟨cs, rfl, hk, hb1⟩
 obtain ⟨a1r, c1r, a2r, c2r, a4r, c4r, rfl⟩ : ∃ a1 c1 a2 c2 a4 c4, cs = [.int .i64 7, .slice a1 0 c1, .slice a2 0 c2, .bool false, .slice a4 0 c4] := (hk _ (FarKeep.refl _ _)).lens
 have hl := hk _ (FarKeep.refl _ _)
 have hb := qB0 HAl.out hb1
 clear hb1 hk hc HAl y0 y1
 have HB16 := qH0 (qB0 HB15.out hb)
 have HD16 := qH0 (qB0 HD15.out hb)
 clear HD15
 have HZ16 := qH0 (HZ15.out.below hb)
 have Lx16 := qH0 (Lx15.out.below hb)
 have Ly16 := qH0 (Ly15.out.below hb)
 have Ld16 := qH0 (Ld15.out.below hb)
 have BZ16 := qH0 ((hb.block _ (qaa BZ15.out)).trans BZ15.out)
 have Bx16 := qH0 ((hb.block _ (qaa Bx15.out)).trans Bx15.out)
 have By16 := qH0 ((hb.block _ (qaa By15.out)).trans By15.out)
 have Bd16 := qH0 ((hb.block _ (qaa Bd15.out)).trans Bd15.out)
 have Bw16 := qH0 ((hb.block _ (qaa Bw15.out)).trans Bw15.out)
 have Bn16 := qH0 ((hb.block _ (qaa Bn15.out)).trans Bn15.out)
 have Be16 := qH0 ((hb.block _ (qaa Be15.out)).trans Be15.out)
 clear HB15 HZ15 Lx15 Ly15 Ld15 BZ15 Bx15 By15 Bd15 Bw15 Bn15 Be15
 clear hb
 have hA := (Below.refl w16.heap.size w16).alloc (qN0) (.cells #[.int .i64 7, .slice a1r 0 c1r, .slice a2r 0 c2r, .bool false, .slice a4r 0 c4r] 84)
 obtain ⟨blkr, hx17⟩ : ∃ b, w16.heap.size = b := ⟨_, rfl⟩
 obtain ⟨w17, hW17⟩ : ∃ W, w16.alloc (.cells #[.int .i64 7, .slice a1r 0 c1r, .slice a2r 0 c2r, .bool false, .slice a4r 0 c4r] 84) = W := ⟨_, rfl⟩
 have hX := knew w16 (.cells #[.int .i64 7, .slice a1r 0 c1r, .slice a2r 0 c2r, .bool false, .slice a4r 0 c4r] 84)
 rw [hW17] at hA hX
 rw [hx17] at hX
 have HB17 := qH0 (qB0 HB16.out hA)
 have HD17 := qH0 (qB0 HD16.out hA)
 clear HD16
 have HZ17 := qH0 (HZ16.out.below hA)
 have Lx17 := qH0 (Lx16.out.below hA)
 have Ly17 := qH0 (Ly16.out.below hA)
 have Ld17 := qH0 (Ld16.out.below hA)
 have BZ17 := qH0 ((hA.block _ (qaa BZ16.out)).trans BZ16.out)
 have Bx17 := qH0 ((hA.block _ (qaa Bx16.out)).trans Bx16.out)
 have By17 := qH0 ((hA.block _ (qaa By16.out)).trans By16.out)
 have Bd17 := qH0 ((hA.block _ (qaa Bd16.out)).trans Bd16.out)
 have Bw17 := qH0 ((hA.block _ (qaa Bw16.out)).trans Bw16.out)
 have Bn17 := qH0 ((hA.block _ (qaa Bn16.out)).trans Bn16.out)
 have Be17 := qH0 ((hA.block _ (qaa Be16.out)).trans Be16.out)
 clear HB16 HZ16 Lx16 Ly16 Ld16 BZ16 Bx16 By16 Bd16 Bw16 Bn16 Be16
 have Br17 := qH0 hX
 clear hA hX hl
 have HG0 := qH0 HD17.out
 have zx0 := kcell Bx17.out 0 _ rfl
 have zx1 := kcell Bx17.out 1 _ rfl
 have zx2 := kcell Bx17.out 2 _ rfl
 have zx3 := kcell Bx17.out 3 _ rfl
 have zx4 := kcell Bx17.out 4 _ rfl
 have zy0 := kcell By17.out 0 _ rfl
 have zy1 := kcell By17.out 1 _ rfl
 have zy2 := kcell By17.out 2 _ rfl
 have zy3 := kcell By17.out 3 _ rfl
 have zy4 := kcell By17.out 4 _ rfl
 have zd0 := kcell Bd17.out 0 _ rfl
 have zd2 := kcell Bd17.out 2 _ rfl
 have zw0 := kcell Bw17.out 0 _ rfl
 have zw2 := kcell Bw17.out 2 _ rfl
 have zw3 := kcell Bw17.out 3 _ rfl
 have zn0 := kcell Bn17.out 0 _ rfl
 have ze0 := kcell Be17.out 0 _ rfl
 have zr0 := kcell Br17.out 0 _ rfl
 have zg := G7.out _ HG0.out
 have hA := (Below.refl w17.heap.size w17).alloc (qN0) (.cells #[.string ⟨#[112]⟩, .string ⟨#[116]⟩] 9)
 have hNA : NmAt (w17.alloc (.cells #[.string ⟨#[112]⟩, .string ⟨#[116]⟩] 9)) (.slice (some ⟨w17.heap.size, 0, none⟩) 2 2) [[112], [116]] := nm_lit' (l := [.string ⟨#[112]⟩, .string ⟨#[116]⟩]) (knew w17 _) rfl
 have hnd : NmAt w17 (.slice a2d 2 c2d) [[112], [116]] := by
  obtain ⟨⟨_, _, _⟩, ⟨_, _, _⟩, ⟨_, _, _⟩, e, -, h, -⟩ := Ld17.out
  simp only [List.cons.injEq, and_true] at e
  rw [e.2.2.1]; exact h
 have hc := qbL (.slice a2d 2 c2d) (.slice (some ⟨w17.heap.size, 0, none⟩) 2 2) [[112], [116]] [[112], [116]] true (by decide) _ (hnd.below hA) hNA ⟨by decide, by decide⟩ ⟨by decide, by decide⟩
 have HAl := qH0 hA
 clear hA hNA hnd
 go_wp2_with fail
 clear hW17 hx17
 refine hc.mono ?_
 rintro e w18 ⟨rfl, hb1⟩
 have hb := qB0 HAl.out hb1
 clear hb1 hc HAl zx0 zx1 zx2 zx3 zx4 zy0 zy1 zy2 zy3 zy4 zd0 zd2 zw0 zw2 zw3 zn0 ze0 zr0 zg
 clear Ld17
 have HG1 := qH0 (qB0 HG0.out hb)
 have HB18 := qH0 (qB0 HB17.out hb)
 have HZ18 := qH0 (HZ17.out.below hb)
 have Lx18 := qH0 (Lx17.out.below hb)
 have Ly18 := qH0 (Ly17.out.below hb)
 have BZ18 := qH0 ((hb.block _ (qaa BZ17.out)).trans BZ17.out)
 have Bx18 := qH0 ((hb.block _ (qaa Bx17.out)).trans Bx17.out)
 have By18 := qH0 ((hb.block _ (qaa By17.out)).trans By17.out)
 have Bd18 := qH0 ((hb.block _ (qaa Bd17.out)).trans Bd17.out)
 have Bw18 := qH0 ((hb.block _ (qaa Bw17.out)).trans Bw17.out)
 have Bn18 := qH0 ((hb.block _ (qaa Bn17.out)).trans Bn17.out)
 have Be18 := qH0 ((hb.block _ (qaa Be17.out)).trans Be17.out)
 have Br18 := qH0 ((hb.block _ (qaa Br17.out)).trans Br17.out)
 clear HB17 HZ17 Lx17 Ly17 BZ17 Bx17 By17 Bd17 Bw17 Bn17 Be17 Br17
 clear hb HG0
 have zx0 := kcell Bx18.out 0 _ rfl
 have zx1 := kcell Bx18.out 1 _ rfl
 have zx2 := kcell Bx18.out 2 _ rfl
 have zx3 := kcell Bx18.out 3 _ rfl
 have zx4 := kcell Bx18.out 4 _ rfl
 have zy0 := kcell By18.out 0 _ rfl
 have zy1 := kcell By18.out 1 _ rfl
 have zy2 := kcell By18.out 2 _ rfl
 have zy3 := kcell By18.out 3 _ rfl
 have zy4 := kcell By18.out 4 _ rfl
 have zd0 := kcell Bd18.out 0 _ rfl
 have zd2 := kcell Bd18.out 2 _ rfl
 have zw0 := kcell Bw18.out 0 _ rfl
 have zw2 := kcell Bw18.out 2 _ rfl
 have zw3 := kcell Bw18.out 3 _ rfl
 have zn0 := kcell Bn18.out 0 _ rfl
 have ze0 := kcell Be18.out 0 _ rfl
 have zr0 := kcell Br18.out 0 _ rfl
 have zg := G7.out _ HG1.out
 have hkx : LkOK ⟨1, [klD1], [], false, []⟩ := by
  have h := qfe (o := klO) (rs := klC) (q := [[65], [111]]) 1 ⟨by decide, by decide⟩ kl_okD (by decide) (qbj (by decide) kl_few)
  rw [kl_x] at h; exact h
 have hky : LkOK ⟨4, [klD2], [[115], [111]], false, [([[110, 115], [115], [111]], [klD1])]⟩ := by
  have h := qfe (o := klO) (rs := klC) (q := [[113], [115], [111]]) 1 ⟨by decide, by decide⟩ kl_okD (by decide) (qbj (by decide) kl_few)
  rw [kl_y] at h; exact h
 have HKX := qH0 hkx; have HKY := qH0 hky
 clear hkx hky
 have hc := qej _ _ _ _ w18 Lx18.out Lx18.out HKX.out HKX.out
 rw [qc7] at hc
 go_wp2_with fail
 refine hc.mono ?_
 rintro e w19 ⟨rfl, hb⟩
 clear hc zx0 zx1 zx2 zx3 zx4 zy0 zy1 zy2 zy3 zy4 zd0 zd2 zw0 zw2 zw3 zn0 ze0 zr0 zg
 have HG2 := qH0 (qB0 HG1.out hb)
 have HB19 := qH0 (qB0 HB18.out hb)
 have HZ19 := qH0 (HZ18.out.below hb)
 have Lx19 := qH0 (Lx18.out.below hb)
 have Ly19 := qH0 (Ly18.out.below hb)
 have BZ19 := qH0 ((hb.block _ (qaa BZ18.out)).trans BZ18.out)
 have Bx19 := qH0 ((hb.block _ (qaa Bx18.out)).trans Bx18.out)
 have By19 := qH0 ((hb.block _ (qaa By18.out)).trans By18.out)
 have Bd19 := qH0 ((hb.block _ (qaa Bd18.out)).trans Bd18.out)
 have Bw19 := qH0 ((hb.block _ (qaa Bw18.out)).trans Bw18.out)
 have Bn19 := qH0 ((hb.block _ (qaa Bn18.out)).trans Bn18.out)
 have Be19 := qH0 ((hb.block _ (qaa Be18.out)).trans Be18.out)
 have Br19 := qH0 ((hb.block _ (qaa Br18.out)).trans Br18.out)
 clear HB18 HZ18 Lx18 Ly18 BZ18 Bx18 By18 Bd18 Bw18 Bn18 Be18 Br18
 clear hb HG1
 have zx0 := kcell Bx19.out 0 _ rfl
 have zx1 := kcell Bx19.out 1 _ rfl
 have zx2 := kcell Bx19.out 2 _ rfl
 have zx3 := kcell Bx19.out 3 _ rfl
 have zx4 := kcell Bx19.out 4 _ rfl
 have zy0 := kcell By19.out 0 _ rfl
 have zy1 := kcell By19.out 1 _ rfl
 have zy2 := kcell By19.out 2 _ rfl
 have zy3 := kcell By19.out 3 _ rfl
 have zy4 := kcell By19.out 4 _ rfl
 have zd0 := kcell Bd19.out 0 _ rfl
 have zd2 := kcell Bd19.out 2 _ rfl
 have zw0 := kcell Bw19.out 0 _ rfl
 have zw2 := kcell Bw19.out 2 _ rfl
 have zw3 := kcell Bw19.out 3 _ rfl
 have zn0 := kcell Bn19.out 0 _ rfl
 have ze0 := kcell Be19.out 0 _ rfl
 have zr0 := kcell Br19.out 0 _ rfl
 have zg := G7.out _ HG2.out
 have hc := qej _ _ _ _ w19 Lx19.out Ly19.out HKX.out HKY.out
 rw [show sameLk ⟨1, [klD1], [], false, []⟩ ⟨4, [klD2], [[115], [111]], false, [([[110, 115], [115], [111]], [klD1])]⟩ = false from rfl] at hc
 go_wp2_with fail
 refine hc.mono ?_
 rintro e w20 ⟨rfl, hb⟩
 have HBF := qH0 (qB0 HB19.out hb)
 clear hc hb zx0 zx1 zx2 zx3 zx4 zy0 zy1 zy2 zy3 zy4 zd0 zd2 zw0 zw2 zw3 zn0 ze0 zr0 zg
 go_wp2
 go_ret
 exact ⟨rfl, HBF.out⟩
end Go.Proofs.YtckammgnmgkieaaGreat
