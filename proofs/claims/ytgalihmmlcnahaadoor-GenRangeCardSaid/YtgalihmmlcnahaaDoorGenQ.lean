/-
  The document's ParseRange.
-/
import Derived.Test.YtgalihmmlcnahaaDoorGenP
namespace Go.Proofs.YtgalihmmlcnahaaDoor
open Go.RowKit Go.Shelf Go.Sort
set_option maxRecDepth 20000
set_option linter.unusedVariables false
set_option linter.unusedSimpArgs false

def rowV (nn : Nat → Nat) (k : Nat) : Array Value := #[.int .i64 ((if 0 < k then nn 0 else 0 : Nat) : Int), .int .i64 ((if 1 < k then nn 1 else 0 : Nat) : Int), .int .i64 ((if 2 < k then nn 2 else 1 : Nat) : Int)]
theorem rowV_set (nn : Nat → Nat) (k : Nat) (h : k < 3) : (rowV nn k).setIfInBounds k (.int .i64 (nn k : Int)) = rowV nn (k + 1) := by
  have hkk : k = 0 ∨ k = 1 ∨ k = 2 := by omega
  rcases hkk with rfl | rfl | rfl <;> simp [rowV]
theorem rowV_at (nn : Nat → Nat) (k : Nat) (h : k < 3) : ∃ x : Nat, (rowV nn k)[k]? = some (.int .i64 (x : Int)) := by
  have hkk : k = 0 ∨ k = 1 ∨ k = 2 := by omega
  rcases hkk with rfl | rfl | rfl <;> exact ⟨_, rfl⟩
def ovr (rr : Nat → Int) (k : Nat) : Bool := (List.range k).any (fun j => rr j != 0)
theorem ovr_succ (rr : Nat → Int) (k : Nat) : ovr rr (k + 1) = (ovr rr k || rr k != 0) := by simp [ovr, List.range_succ]
structure ParW (n n2 g m : Nat) (w : World) (tt : Nat → ByteArray) (nn : Nat → Nat) (rr : Nat → Int) (k : Nat) (wr : World) : Prop where
  hk : k ≤ m
  row : wr.heap[n2]? = some (.cells (rowV nn k) 2)
  box : wr.heap[n]? = some (.cells #[.int .i64 0, .int .i64 0, .int .i64 0] 28)
  below : Below n w wr
  txt : ∀ j, j < m → wr.cell? ⟨g, j, none⟩ = some (.string (tt j))
  no : ∀ j, j < k → rr j ≠ 2
theorem ParW.step {n n2 g m : Nat} {w : World} {tt : Nat → ByteArray} {nn : Nat → Nat} {rr : Nat → Int} {k : Nat} {wr : World} (h : ParW n n2 g m w tt nn rr k wr) (hkm : k < m) (hm : m ≤ 3) (h1 : n < n2) (h2 : g ≠ n2) (hr : rr k ≠ 2) :
    ParW n n2 g m w tt nn rr (k + 1) (wr.setCell ⟨n2, k, none⟩ (.int .i64 (nn k : Int))) where
  hk := by omega
  row := by rw [← rowV_set nn k (by omega)]; exact kset h.row k _
  box := (Below.heap_setCell _ ⟨n2, k, none⟩ _ n (show n ≠ n2 by omega)).trans h.box
  below := h.below.setCell (p := ⟨n2, k, none⟩) (Nat.le_of_lt h1) _
  txt := fun j hj => (World.cell?_of_block (a := ⟨g, j, none⟩) (Below.heap_setCell _ ⟨n2, k, none⟩ _ g (show g ≠ n2 from h2))).trans (h.txt j hj)
  no := fun j hj => by
    by_cases e : j = k
    · subst e; exact hr
    · exact h.no j (by omega)

theorem results_rngR {fn : Func} {t u : Tmp} (h : fn.results = #[.cell t 28, .tmp u]) (tmps : Array Value) (W : World) {a : Nat} {x y z v : Value} (h1 : x.oneCell' = true) (h2 : y.oneCell' = true) (h3 : z.oneCell' = true)
    (ht : tmps.getD t undef = .pointer (some ⟨a, 0, none⟩)) (hv : tmps.getD u undef = v) (hx : W.cell? ⟨a, 0, none⟩ = some x) (hy : W.cell? ⟨a, 1, none⟩ = some y) (hz : W.cell? ⟨a, 2, none⟩ = some z) : (results fn tmps).run Tryd.prog W = .ok (.tuple #[.agg #[x, y, z], v]) W := by
  have ht' : tmps[t]?.getD undef = .pointer (some ⟨a, 0, none⟩) := by rw [← ht]; simp
  have hv' : tmps[u]?.getD undef = v := by rw [← hv]; simp
  have hu : ∀ w, Sem.run Tryd.prog (underlying 28) w = .ok _ w := run_underlying Tryd.underlying28
  simp [results, h, ht', hv', loadVar, asAddr, go_sem, hu, hx, hy, hz, isAgg]
set_option maxRecDepth 100000 in
set_option maxHeartbeats 8000000 in
theorem ref_ParseRange (s : ByteArray) (w : World) (hs : s.size ≤ 1000000) :
    Calls Tryd.prog 8 #[.string s] w (RngPost (parseR s.data.toList) w) := by
  obtain ⟨l, hl⟩ : ∃ l, s.data.toList = l := ⟨_, rfl⟩
  have hC1 := fun W => ref_cut s 47 W hs
  have hlen : l.length = s.size := by rw [← hl]; simp
  rw [hl] at hC1 ⊢
  have hc47 := cutA_len 47 l
  obtain ⟨sb, hsb, hsbz, hsbv⟩ := str_of (cutA 47 l).1
  obtain ⟨ss, hss, hssz, hssv⟩ := str_of (stepL l)
  have hC2 := fun W => ref_cut sb 45 W (by omega)
  rw [hsb] at hC2
  have hc45 := cutA_len 45 (cutA 47 l).1
  obtain ⟨sa, hsa, hsaz, hsav⟩ := str_of (fromL l)
  obtain ⟨sz, hsz, hszz, hszv⟩ := str_of (toL l)
  have hstl : (stepL l).length ≤ 1000000 := by
    unfold stepL; split
    · omega
    · simp
  have hA : ∀ W, Calls Tryd.prog 16 #[.string sa, .int .i64 2147483647] W (NumPost sa.data.toList gM W) := fun W => ref_Number sa gM W (by unfold maxLen; unfold fromL at hsaz; omega) (by decide)
  have hZ : ∀ W, Calls Tryd.prog 16 #[.string sz, .int .i64 2147483647] W (NumPost sz.data.toList gM W) := fun W => ref_Number sz gM W (by unfold maxLen; unfold toL at hszz; omega) (by decide)
  have hS : ∀ W, Calls Tryd.prog 16 #[.string ss, .int .i64 2147483647] W (NumPost ss.data.toList gM W) := fun W => ref_Number ss gM W (by unfold maxLen; omega) (by decide)
  unfold NumPost at hA hZ hS
  rw [hsa] at hA
  rw [hsz] at hZ
  rw [hss] at hS
  have hno : (cutA 45 (cutA 47 l).1).2.2 = false → (numM (toL l) gM).2 = 2 := by
    intro h
    unfold toL
    rw [(cutA_not 45 _ h).2]
    rfl
  have hone : (cutA 47 l).2.2 = false → numM (stepL l) gM = (1, 0) := by
    intro h
    unfold stepL
    rw [h]
    rfl
  unfold parseR
  have ea := numM_err (fromL l) gM
  have ez := numM_err (toL l) gM
  have es := numM_err (stepL l) gM
  generalize numM (fromL l) gM = pa at *
  generalize numM (toL l) gM = pz at *
  generalize numM (stepL l) gM = ps at *
  obtain ⟨na, ra⟩ := pa
  obtain ⟨nz, rz⟩ := pz
  obtain ⟨ns, rs⟩ := ps
  have va : (⟨(fromL l).toArray⟩ : ByteArray) = sa := by unfold strV at hsav; injection hsav
  have vz : (⟨(toL l).toArray⟩ : ByteArray) = sz := by unfold strV at hszv; injection hszv
  have vs : (⟨(stepL l).toArray⟩ : ByteArray) = ss := by unfold strV at hssv; injection hssv
  have vb : (⟨(cutA 47 l).1.toArray⟩ : ByteArray) = sb := by unfold strV at hsbv; injection hsbv
  unfold fromL at va
  unfold toL at vz
  rw [va, vz] at hC2
  rw [vb] at hC1
  obtain ⟨has, hhas⟩ : ∃ b, (cutA 47 l).2.2 = b := ⟨_, rfl⟩
  obtain ⟨ok2, hok2⟩ : ∃ b, (cutA 45 (cutA 47 l).1).2.2 = b := ⟨_, rfl⟩
  obtain ⟨s2, hs2⟩ : ∃ t : ByteArray, (⟨(cutA 47 l).2.1.toArray⟩ : ByteArray) = t := ⟨_, rfl⟩
  rw [hhas, hs2] at hC1
  rw [hok2] at hC2 hno
  rw [hhas] at hone
  simp only at hno hone hA hZ hS ea ez es
  have hstep : (has = true ∧ s2 = ss) ∨ (has = false ∧ ns = 1 ∧ rs = 0) := by
    cases has
    · right; have := hone rfl; injection this with h1 h2; exact ⟨rfl, h1, h2⟩
    · left; refine ⟨rfl, ?_⟩; rw [← hs2, ← vs]; unfold stepL; rw [hhas]; rfl
  have HEA := Lib.hid ea; have HEZ := Lib.hid ez; have HES := Lib.hid es; have HST := Lib.hid hstep
  have HNO := Lib.hid hno
  clear hno hone hstep ea ez es va vz vs vb hhas hok2 hs2 hsa hsz hss hsb hsaz hszz hssz hsbz hsav hszv hssv hsbv hc45 hc47 hstl hl
  have HA := Lib.hid hA; have HZ := Lib.hid hZ; have HS := Lib.hid hS; have HC2 := Lib.hid hC2
  clear hA hZ hS hC2
  go_enter Tryd.func8, Tryd.ntmps8
  go_wp2_with fail
  have b0 : Below w.heap.size w (w.alloc (.cells #[.int .i64 0, .int .i64 0, .int .i64 0] 28)) := (Below.refl _ w).alloc (Nat.le_refl _) _
  refine (hC1 _).mono ?_
  rintro e w1 ⟨rfl, hb1⟩
  have B1 := Lib.hid (b0.trans (hb1.mono b0.size))
  have R1 : Hid (w1.heap[w.heap.size]? = some (.cells #[.int .i64 0, .int .i64 0, .int .i64 0] 28)) := Lib.hid ((hb1.block w.heap.size (by simp)).trans (knew w _))
  clear b0 hb1 hC1
  have hC2 := HC2.out
  go_wp2_with fail
  refine (hC2 _).mono ?_
  rintro e w2 ⟨rfl, hb2⟩
  have B2 := Lib.hid (B1.out.trans (hb2.mono B1.out.size))
  have R2 : Hid (w2.heap[w.heap.size]? = some (.cells #[.int .i64 0, .int .i64 0, .int .i64 0] 28)) := Lib.hid ((hb2.block w.heap.size (kblock_lt R1.out)).trans R1.out)
  clear hb2 R1 B1 hC2 HC2
  cases ok2
  · have q0 := kcell R2.out 0 (.int .i64 0) rfl
    have q1 := kcell R2.out 1 (.int .i64 0) rfl
    have q2 := kcell R2.out 2 (.int .i64 0) rfl
    have p0 := kfrozen R2.out 0
    have p1 := kfrozen R2.out 1
    have p2 := kfrozen R2.out 2
    go_wp2_with fail
    have r0 := kset R2.out 0 (.int .i64 0)
    have r1 := kset r0 1 (.int .i64 0)
    have r2 := kset r1 2 (.int .i64 0)
    refine bodyPost_ret (results_rngR rfl _ _ rfl rfl rfl rfl rfl (kcell r2 0 (.int .i64 0) rfl) (kcell r2 1 (.int .i64 0) rfl) (kcell r2 2 (.int .i64 0) rfl)) rfl ?_
    have hpa : parse3 (na, ra) (nz, rz) (ns, rs) = ((0, 0, 0), 2) := by unfold parse3; rw [if_pos (.inr (.inl (HNO.out (by trivial))))]
    rw [hpa]
    exact ⟨rfl, ((B2.out.setCell (p := ⟨w.heap.size, 0, none⟩) (Nat.le_refl _) _).setCell (p := ⟨w.heap.size, 1, none⟩) (Nat.le_refl _) _).setCell (p := ⟨w.heap.size, 2, none⟩) (Nat.le_refl _) _⟩
  clear HNO
  have hn2 : w.heap.size < w2.heap.size := kblock_lt R2.out
  obtain ⟨m, hm⟩ : ∃ m, (if has then 3 else 2) = m := ⟨_, rfl⟩
  obtain ⟨tt, htt⟩ : ∃ tt : Nat → ByteArray, (fun j => if j = 0 then sa else if j = 1 then sz else s2) = tt := ⟨_, rfl⟩
  have hlit := OwnG.lit (T := 9) (enc := strV) w2 w2.heap.size (Nat.le_refl _) [sa.data.toList, sz.data.toList] (by simp [maxLen])
  have HLIT := Lib.hid hlit
  clear hlit
  go_upto_if 34 with (fail)
  go_cut [10] (fun v wx => ∃ g c, v = .slice (some ⟨g, 0, none⟩) m c ∧ Below w2.heap.size w2 wx ∧ g < wx.heap.size ∧ w2.heap.size ≤ g ∧ Hid (∀ j, j < m → wx.cell? ⟨g, j, none⟩ = some (.string (tt j))))
  case first =>
    have hown : OwnG 9 strV (w2.alloc (.cells #[.string sa, .string sz] 9)) w2.heap.size (.slice (some ⟨w2.heap.size, 0, none⟩) 2 2) [sa.data.toList, sz.data.toList] := by
      have h := HLIT.out
      simpa [strV_of] using h
    cases has
    · obtain rfl : 2 = m := hm
      have HO := Lib.hid hown
      clear hown
      go_wp2_with fail
      go_meet
      obtain ⟨g, hg, hg1, hg2, hgc⟩ := HO.out.cells (by simp)
      obtain rfl : w2.heap.size = g := by simpa using hg
      refine ⟨w2.heap.size, 2, rfl, (Below.refl _ w2).alloc (Nat.le_refl _) _, hg2, Nat.le_refl _, Lib.hid fun j hj => ?_⟩
      rw [hgc j (by simpa using hj), ← htt]
      have hkk : j = 0 ∨ j = 1 := by omega
      rcases hkk with rfl | rfl <;> simp [strV_of]
    · obtain rfl : 3 = m := hm
      obtain ⟨W3, hW3⟩ : ∃ W, w2.alloc (.cells #[.string sa, .string sz] 9) = W := ⟨_, rfl⟩
      have HB3 : Hid (Below w2.heap.size w2 W3) := Lib.hid (by rw [← hW3]; exact (Below.refl _ w2).alloc (Nat.le_refl _) _)
      rw [hW3] at hown ⊢
      clear hW3
      obtain ⟨y, hy⟩ : ∃ y, s2.data.toList = y := ⟨_, rfl⟩
      have HC : Hid ([Value.string s2] = [y].map strV) := Lib.hid (by rw [← hy]; simp [strV_of])
      have HY := Lib.hid hy
      obtain ⟨xs, hxs⟩ : ∃ xs, [sa.data.toList, sz.data.toList] = xs := ⟨_, rfl⟩
      have hxl : xs.length = 2 := by rw [← hxs]; rfl
      have HXS := Lib.hid hxs; have HXL := Lib.hid hxl
      rw [hxs] at hown
      have HO := Lib.hid hown
      have HTT := Lib.hid htt
      clear hy hown hxs hxl HLIT htt
      go_wp2_with (at_builtin; refine wpl_append_g W3 rfl (.tmp 35) (.tmp 37) elemStr rfl strV_one w2.heap.size (.slice (some ⟨w2.heap.size, 0, none⟩) 2 2) xs rfl HO.out [.string s2] [y] HC.out 1 1 rfl rfl HB3.out.size (by have := HXL.out; unfold maxLen; simp; omega) (by have := HXL.out; simp; omega) ?_; intro v' w3 hown' hg'; have hB' := HB3.out.grown hg' HB3.out.size HO.out.base_le; obtain ⟨a', c', rfl⟩ := hown'.shape; have HO' := Lib.hid hown'; clear hown' hg')
      go_meet
      have h1 := HO'.out
      obtain ⟨g, hg, hg1, hg2, hgc⟩ := h1.cells (by simp)
      refine ⟨g, c', by rw [hg, HXL.out], hB', hg2, hg1, Lib.hid fun j hj => ?_⟩
      have hgj := hgc j (by rw [List.length_append, HXL.out]; exact hj)
      rw [hgj, ← HTT.out]
      have hx := HXS.out; have hyy := HY.out
      have hkk : j = 0 ∨ j = 1 ∨ j = 2 := by omega
      rcases hkk with rfl | rfl | rfl <;> simp [← hx, ← hyy, strV_of]
  case rest =>
  obtain ⟨g, c, rfl, hBx, hgx, hgg, HV⟩ := hcut
  rename World => W4
  obtain ⟨nn, hnn⟩ : ∃ nn : Nat → Nat, (fun j => if j = 0 then na else if j = 1 then nz else ns) = nn := ⟨_, rfl⟩
  obtain ⟨rr, hrr⟩ : ∃ rr : Nat → Int, (fun j => if j = 0 then ra else if j = 1 then rz else rs) = rr := ⟨_, rfl⟩
  have hm23 : (m = 2 ∧ has = false) ∨ (m = 3 ∧ has = true) := by cases has; exact .inl ⟨hm.symm, rfl⟩; exact .inr ⟨hm.symm, rfl⟩
  have hm3 : m ≤ 3 := by rcases hm23 with h | h <;> omega
  have HX : Hid (∀ k, k < m → ∀ W, Calls Tryd.prog 16 #[.string (tt k), .int .i64 2147483647] W fun e w' => e = .returned (.tuple #[.int .i64 (nn k : Int), .int .i64 (rr k)]) ∧ w' = W) := Lib.hid (by
    intro k hk W
    rw [← htt, ← hnn, ← hrr]
    have hkk : k = 0 ∨ k = 1 ∨ k = 2 := by omega
    rcases hkk with rfl | rfl | rfl
    · exact HA.out W
    · exact HZ.out W
    · rcases hm23 with h | ⟨h, h'⟩
      · omega
      · rcases HST.out with ⟨_, e⟩ | ⟨e, _⟩
        · simp only [e]; exact HS.out W
        · rw [h'] at e; cases e)
  have HR : Hid (∀ k, rr k = 0 ∨ rr k = 2 ∨ rr k = 7) := Lib.hid (by
    intro k
    rw [← hrr]
    simp only
    split
    · exact HEA.out
    · split
      · exact HEZ.out
      · exact HES.out)
  have HR2 : Hid (∀ k, rr k = 2 → ra = 2 ∨ rz = 2 ∨ rs = 2) := Lib.hid (by
    intro k
    rw [← hrr]
    simp only
    split
    · exact fun h => .inl h
    · split
      · exact fun h => .inr (.inl h)
      · exact fun h => .inr (.inr h))
  have HF : Hid (rowV nn m = #[.int .i64 (na : Int), .int .i64 (nz : Int), .int .i64 (ns : Int)] ∧ ovr rr m = (ra != 0 || rz != 0 || rs != 0) ∧ ((∀ j, j < m → rr j ≠ 2) → ra ≠ 2 ∧ rz ≠ 2 ∧ rs ≠ 2)) := Lib.hid (by
    rcases hm23 with ⟨h, h'⟩ | ⟨h, h'⟩
    · rcases HST.out with ⟨e, _⟩ | ⟨_, e1, e2⟩
      · rw [h'] at e; cases e
      · subst h e1 e2
        rw [← hnn, ← hrr]
        refine ⟨by simp [rowV], by simp [ovr, List.range_succ, Bool.or_assoc], fun hh => ⟨by simpa using hh 0 (by omega), by simpa using hh 1 (by omega), by decide⟩⟩
    · subst h
      rw [← hnn, ← hrr]
      refine ⟨by simp [rowV], by simp [ovr, List.range_succ, Bool.or_assoc], fun hh => ⟨by simpa using hh 0 (by omega), by simpa using hh 1 (by omega), by simpa using hh 2 (by omega)⟩⟩)
  have hnw4 : w.heap.size < W4.heap.size := Nat.lt_of_lt_of_le hn2 hBx.size
  have H0 : Hid (ParW w.heap.size W4.heap.size g m w tt nn rr 0 (W4.alloc (.cells #[.int .i64 0, .int .i64 0, .int .i64 1] 2))) := Lib.hid
    { hk := Nat.zero_le _
      row := knew W4 _
      box := (Below.heap_alloc _ _ _ hnw4).trans ((hBx.block w.heap.size hn2).trans R2.out)
      below := (B2.out.trans (hBx.mono (Nat.le_of_lt hn2))).alloc (Nat.le_of_lt hnw4) _
      txt := fun j hj => (World.cell?_of_block (a := ⟨g, j, none⟩) (Below.heap_alloc _ _ _ hgx)).trans (HV.out j hj)
      no := fun j hj => absurd hj (Nat.not_lt_zero _) }
  have hg4 : g ≠ W4.heap.size := by omega
  have HSTEP := Lib.hid (fun (k : Nat) (wr : World) (h : ParW w.heap.size W4.heap.size g m w tt nn rr k wr) (hkm : k < m) (hr : rr k ≠ 2) => h.step hkm hm3 hnw4 hg4 hr)
  clear hBx hgx hgg HV hnn hrr hm23 htt HA HZ HS HST HEA HEZ HES HLIT R2 B2 hm hnw4 hg4
  go_wp2_with fail
  go_loopw [12, 13] (fun v i wr => ∃ k : Nat, v = .bool (ovr rr k) ∧ i = .int .i64 k ∧ Hid (ParW w.heap.size W4.heap.size g m w tt nn rr k wr)) (fun _ i _ => m - (intOf i).toNat)
  case atStart => exact ⟨0, rfl, rfl, H0⟩
  case round =>
    obtain ⟨k, rfl, rfl, HP⟩ := hrel
    by_cases hlt : k < m
    · have hck := HP.out.txt k hlt
      have hX := HX.out k hlt wr
      have hi : (k : Int) < (m : Int) := by omega
      have hi3 : (k : Int) < 3 := by omega
      obtain ⟨x, hx⟩ := rowV_at nn k (by omega)
      have hd := kcell HP.out.row k _ hx
      have hfz := kfrozen HP.out.row k
      obtain ⟨ov, hov⟩ : ∃ b, ovr rr k = b := ⟨_, rfl⟩
      obtain ⟨tk, htk⟩ : ∃ x, tt k = x := ⟨_, rfl⟩
      obtain ⟨nk, hnk⟩ : ∃ x, nn k = x := ⟨_, rfl⟩
      have hr3 := HR.out k
      have HST2 := Lib.hid (fun h => HSTEP.out k wr HP.out hlt h)
      have HOS := Lib.hid (ovr_succ rr k)
      rw [htk] at hck hX
      rw [hnk] at hX
      rw [hov] at HOS ⊢
      have HNK := Lib.hid hnk
      have hHPb := Lib.hid HP.out.below
      have HPX := HP
      clear htk hnk hov hx HP
      rcases hr3 with hr | hr | hr
      · have HRR := Lib.hid hr
        rw [hr] at hX
        clear hr
        cases ov
        · go_wp2_with fail
          refine hX.mono ?_
          rintro e w3 ⟨rfl, rfl⟩
          clear hX
          go_wp2_with fail
          go_roundw
          case rel => exact ⟨k + 1, by rw [HOS.out, HRR.out]; rfl, by go_num, by rw [← HNK.out]; exact Lib.hid (HST2.out (by rw [HRR.out]; decide))⟩
          case measure => simp [intOf]; omega
        · go_wp2_with fail
          refine hX.mono ?_
          rintro e w3 ⟨rfl, rfl⟩
          clear hX
          go_wp2_with fail
          go_roundw
          case rel => exact ⟨k + 1, by rw [HOS.out, HRR.out]; rfl, by go_num, by rw [← HNK.out]; exact Lib.hid (HST2.out (by rw [HRR.out]; decide))⟩
          case measure => simp [intOf]; omega
      · have HPA : Hid (parse3 (na, ra) (nz, rz) (ns, rs) = ((0, 0, 0), 2)) := Lib.hid (by unfold parse3; rw [if_pos (HR2.out k hr)])
        rw [hr] at hX
        clear hr
        have RA := Lib.hid HPX.out.box
        have HB := Lib.hid HPX.out.below
        have q0 := kcell RA.out 0 (.int .i64 0) rfl
        have q1 := kcell RA.out 1 (.int .i64 0) rfl
        have q2 := kcell RA.out 2 (.int .i64 0) rfl
        have p0 := kfrozen RA.out 0
        have p1 := kfrozen RA.out 1
        have p2 := kfrozen RA.out 2
        go_wp2_with fail
        refine hX.mono ?_
        rintro e w3 ⟨rfl, rfl⟩
        clear hX
        go_wp2_with fail
        have r0 := kset RA.out 0 (.int .i64 0)
        have r1 := kset r0 1 (.int .i64 0)
        have r2 := kset r1 2 (.int .i64 0)
        refine bodyPost_ret (results_rngR rfl _ _ rfl rfl rfl rfl rfl (kcell r2 0 (.int .i64 0) rfl) (kcell r2 1 (.int .i64 0) rfl) (kcell r2 2 (.int .i64 0) rfl)) rfl ?_
        rw [HPA.out]
        exact ⟨rfl, ((HB.out.setCell (p := ⟨w.heap.size, 0, none⟩) (Nat.le_refl _) _).setCell (p := ⟨w.heap.size, 1, none⟩) (Nat.le_refl _) _).setCell (p := ⟨w.heap.size, 2, none⟩) (Nat.le_refl _) _⟩
      · have HRR := Lib.hid hr
        rw [hr] at hX
        clear hr
        cases ov
        · go_wp2_with fail
          refine hX.mono ?_
          rintro e w3 ⟨rfl, rfl⟩
          clear hX
          go_wp2_with fail
          go_roundw
          case rel => exact ⟨k + 1, by rw [HOS.out, HRR.out]; rfl, by go_num, by rw [← HNK.out]; exact Lib.hid (HST2.out (by rw [HRR.out]; decide))⟩
          case measure => simp [intOf]; omega
        · go_wp2_with fail
          refine hX.mono ?_
          rintro e w3 ⟨rfl, rfl⟩
          clear hX
          go_wp2_with fail
          go_roundw
          case rel => exact ⟨k + 1, by rw [HOS.out, HRR.out]; rfl, by go_num, by rw [← HNK.out]; exact Lib.hid (HST2.out (by rw [HRR.out]; decide))⟩
          case measure => simp [intOf]; omega
    · obtain rfl : k = m := by have := HP.out.hk; omega
      have HPX := HP
      clear HP
      have RA := Lib.hid HPX.out.box
      have HB := Lib.hid HPX.out.below
      have q0 := kcell RA.out 0 (.int .i64 0) rfl
      have q1 := kcell RA.out 1 (.int .i64 0) rfl
      have q2 := kcell RA.out 2 (.int .i64 0) rfl
      have p0 := kfrozen RA.out 0
      have p1 := kfrozen RA.out 1
      have p2 := kfrozen RA.out 2
      obtain ⟨f1, f2, f3⟩ := HF.out
      have HNO := Lib.hid (f3 HPX.out.no)
      have hrow := HPX.out.row
      rw [f1] at hrow
      have d0 := kcell hrow 0 (.int .i64 (na : Int)) rfl
      have d1 := kcell hrow 1 (.int .i64 (nz : Int)) rfl
      have d2 := kcell hrow 2 (.int .i64 (ns : Int)) rfl
      obtain ⟨ov, hov⟩ : ∃ b, ovr rr k = b := ⟨_, rfl⟩
      rw [hov] at f2 ⊢
      have HOV := Lib.hid f2
      clear hrow f1 f2 f3 hov HF HR2 HR HX HSTEP
      cases ov
      · have HOK : Hid (ra = 0 ∧ rz = 0 ∧ rs = 0) := Lib.hid (by have h := HOV.out; simp at h; exact ⟨h.1.1, h.1.2, h.2⟩)
        by_cases hza : nz < na
        · have HPA : Hid (parse3 (na, ra) (nz, rz) (ns, rs) = ((0, 0, 0), 1)) := Lib.hid (by obtain ⟨o1, o2, o3⟩ := HOK.out; unfold parse3; rw [if_neg (by simp [o1, o2, o3]), if_neg (by simp [o1, o2, o3]), if_pos (.inl hza)])
          have hi : (nz : Int) < (na : Int) := by omega
          go_wp2_with fail
          go_quiet (fail)
          obtain ⟨W5, h5⟩ : ∃ W, wr.drewN nq = W := ⟨_, rfl⟩
          rw [h5]
          replace RA : Hid (W5.heap[w.heap.size]? = some (.cells #[.int .i64 0, .int .i64 0, .int .i64 0] 28)) := by rw [← h5]; exact RA
          replace HB : Hid (Below w.heap.size w W5) := by rw [← h5]; exact Lib.hid (below_drewG HB.out _)
          replace d0 : W5.cell? ⟨W4.heap.size, 0, none⟩ = some (.int .i64 (na : Int)) := by rw [← h5]; exact d0
          replace d1 : W5.cell? ⟨W4.heap.size, 1, none⟩ = some (.int .i64 (nz : Int)) := by rw [← h5]; exact d1
          replace d2 : W5.cell? ⟨W4.heap.size, 2, none⟩ = some (.int .i64 (ns : Int)) := by rw [← h5]; exact d2
          clear q0 q1 q2 p0 p1 p2
          have q0 := kcell RA.out 0 (.int .i64 0) rfl
          have q1 := kcell RA.out 1 (.int .i64 0) rfl
          have q2 := kcell RA.out 2 (.int .i64 0) rfl
          have p0 := kfrozen RA.out 0
          have p1 := kfrozen RA.out 1
          have p2 := kfrozen RA.out 2
          clear h5
          go_wp2_with fail
          have r0 := kset RA.out 0 (.int .i64 0)
          have r1 := kset r0 1 (.int .i64 0)
          have r2 := kset r1 2 (.int .i64 0)
          refine bodyPost_ret (results_rngR rfl _ _ rfl rfl rfl rfl rfl (kcell r2 0 (.int .i64 0) rfl) (kcell r2 1 (.int .i64 0) rfl) (kcell r2 2 (.int .i64 0) rfl)) rfl ?_
          rw [HPA.out]
          exact ⟨rfl, ((HB.out.setCell (p := ⟨w.heap.size, 0, none⟩) (Nat.le_refl _) _).setCell (p := ⟨w.heap.size, 1, none⟩) (Nat.le_refl _) _).setCell (p := ⟨w.heap.size, 2, none⟩) (Nat.le_refl _) _⟩
        · have hi : ¬ (nz : Int) < (na : Int) := by omega
          by_cases hs0 : ns = 0
          · subst hs0
            have HPA : Hid (parse3 (na, ra) (nz, rz) (0, rs) = ((0, 0, 0), 1)) := Lib.hid (by obtain ⟨o1, o2, o3⟩ := HOK.out; unfold parse3; rw [if_neg (by simp [o1, o2, o3]), if_neg (by simp [o1, o2, o3]), if_pos (.inr rfl)])
            go_wp2_with fail
            go_quiet (fail)
            obtain ⟨W5, h5⟩ : ∃ W, wr.drewN nq = W := ⟨_, rfl⟩
            rw [h5]
            replace RA : Hid (W5.heap[w.heap.size]? = some (.cells #[.int .i64 0, .int .i64 0, .int .i64 0] 28)) := by rw [← h5]; exact RA
            replace HB : Hid (Below w.heap.size w W5) := by rw [← h5]; exact Lib.hid (below_drewG HB.out _)
            replace d0 : W5.cell? ⟨W4.heap.size, 0, none⟩ = some (.int .i64 (na : Int)) := by rw [← h5]; exact d0
            replace d1 : W5.cell? ⟨W4.heap.size, 1, none⟩ = some (.int .i64 (nz : Int)) := by rw [← h5]; exact d1
            replace d2 : W5.cell? ⟨W4.heap.size, 2, none⟩ = some (.int .i64 ((0 : Nat) : Int)) := by rw [← h5]; exact d2
            clear q0 q1 q2 p0 p1 p2
            have q0 := kcell RA.out 0 (.int .i64 0) rfl
            have q1 := kcell RA.out 1 (.int .i64 0) rfl
            have q2 := kcell RA.out 2 (.int .i64 0) rfl
            have p0 := kfrozen RA.out 0
            have p1 := kfrozen RA.out 1
            have p2 := kfrozen RA.out 2
            clear h5
            go_wp2_with fail
            have r0 := kset RA.out 0 (.int .i64 0)
            have r1 := kset r0 1 (.int .i64 0)
            have r2 := kset r1 2 (.int .i64 0)
            refine bodyPost_ret (results_rngR rfl _ _ rfl rfl rfl rfl rfl (kcell r2 0 (.int .i64 0) rfl) (kcell r2 1 (.int .i64 0) rfl) (kcell r2 2 (.int .i64 0) rfl)) rfl ?_
            rw [HPA.out]
            exact ⟨rfl, ((HB.out.setCell (p := ⟨w.heap.size, 0, none⟩) (Nat.le_refl _) _).setCell (p := ⟨w.heap.size, 1, none⟩) (Nat.le_refl _) _).setCell (p := ⟨w.heap.size, 2, none⟩) (Nat.le_refl _) _⟩
          · have HPA : Hid (parse3 (na, ra) (nz, rz) (ns, rs) = ((na, nz, ns), 0)) := Lib.hid (by obtain ⟨o1, o2, o3⟩ := HOK.out; unfold parse3; rw [if_neg (by simp [o1, o2, o3]), if_neg (by simp [o1, o2, o3]), if_neg (by omega)])
            have hsi : ((ns : Int) == 0) = false := by simpa using hs0
            have hsi2 : ¬ (ns : Int) = 0 := by omega
            clear hs0
            go_wp2_with fail
            go_quiet (fail)
            obtain ⟨W5, h5⟩ : ∃ W, wr.drewN nq = W := ⟨_, rfl⟩
            rw [h5]
            replace RA : Hid (W5.heap[w.heap.size]? = some (.cells #[.int .i64 0, .int .i64 0, .int .i64 0] 28)) := by rw [← h5]; exact RA
            replace HB : Hid (Below w.heap.size w W5) := by rw [← h5]; exact Lib.hid (below_drewG HB.out _)
            replace d0 : W5.cell? ⟨W4.heap.size, 0, none⟩ = some (.int .i64 (na : Int)) := by rw [← h5]; exact d0
            replace d1 : W5.cell? ⟨W4.heap.size, 1, none⟩ = some (.int .i64 (nz : Int)) := by rw [← h5]; exact d1
            replace d2 : W5.cell? ⟨W4.heap.size, 2, none⟩ = some (.int .i64 (ns : Int)) := by rw [← h5]; exact d2
            clear q0 q1 q2 p0 p1 p2
            have q0 := kcell RA.out 0 (.int .i64 0) rfl
            have q1 := kcell RA.out 1 (.int .i64 0) rfl
            have q2 := kcell RA.out 2 (.int .i64 0) rfl
            have p0 := kfrozen RA.out 0
            have p1 := kfrozen RA.out 1
            have p2 := kfrozen RA.out 2
            clear h5
            clear hsi hsi2 hi
            go_wp2_with fail
            refine kregion_tail 10 (by kernel_rfl) (by kernel_rfl) ?_
            simp only [List.take_succ_cons, List.take_zero, List.drop_succ_cons, List.drop_zero]
            obtain ⟨W6, h5⟩ : ∃ W, W5.drew = W := ⟨_, rfl⟩
            rw [h5]
            replace RA : Hid (W6.heap[w.heap.size]? = some (.cells #[.int .i64 0, .int .i64 0, .int .i64 0] 28)) := by rw [← h5]; exact RA
            replace HB : Hid (Below w.heap.size w W6) := by rw [← h5]; exact Lib.hid (kdrew HB.out)
            replace d0 : W6.cell? ⟨W4.heap.size, 0, none⟩ = some (.int .i64 (na : Int)) := by rw [← h5]; exact d0
            replace d1 : W6.cell? ⟨W4.heap.size, 1, none⟩ = some (.int .i64 (nz : Int)) := by rw [← h5]; exact d1
            replace d2 : W6.cell? ⟨W4.heap.size, 2, none⟩ = some (.int .i64 (ns : Int)) := by rw [← h5]; exact d2
            clear q0 q1 q2 p0 p1 p2
            have q0 := kcell RA.out 0 (.int .i64 0) rfl
            have q1 := kcell RA.out 1 (.int .i64 0) rfl
            have q2 := kcell RA.out 2 (.int .i64 0) rfl
            have p0 := kfrozen RA.out 0
            have p1 := kfrozen RA.out 1
            have p2 := kfrozen RA.out 2
            clear h5
            repeat still_step
            refine wpStill_nil ?_
            go_wp2_with fail
            have r0 := kset RA.out 0 (.int .i64 (na : Int))
            have r1 := kset r0 1 (.int .i64 (nz : Int))
            have r2 := kset r1 2 (.int .i64 (ns : Int))
            refine bodyPost_ret (results_rngR rfl _ _ rfl rfl rfl rfl rfl (kcell r2 0 (.int .i64 (na : Int)) rfl) (kcell r2 1 (.int .i64 (nz : Int)) rfl) (kcell r2 2 (.int .i64 (ns : Int)) rfl)) rfl ?_
            rw [HPA.out]
            exact ⟨rfl, ((HB.out.setCell (p := ⟨w.heap.size, 0, none⟩) (Nat.le_refl _) _).setCell (p := ⟨w.heap.size, 1, none⟩) (Nat.le_refl _) _).setCell (p := ⟨w.heap.size, 2, none⟩) (Nat.le_refl _) _⟩
      · have HPA : Hid (parse3 (na, ra) (nz, rz) (ns, rs) = ((0, 0, 0), 7)) := Lib.hid (by
          obtain ⟨n1, n2, n3⟩ := HNO.out
          have h := HOV.out
          unfold parse3
          rw [if_neg (by simp [n1, n2, n3]), if_pos (by simpa [Bool.or_eq_true, or_assoc] using h.symm)])
        go_wp2_with fail
        have r0 := kset RA.out 0 (.int .i64 0)
        have r1 := kset r0 1 (.int .i64 0)
        have r2 := kset r1 2 (.int .i64 0)
        refine bodyPost_ret (results_rngR rfl _ _ rfl rfl rfl rfl rfl (kcell r2 0 (.int .i64 0) rfl) (kcell r2 1 (.int .i64 0) rfl) (kcell r2 2 (.int .i64 0) rfl)) rfl ?_
        rw [HPA.out]
        exact ⟨rfl, ((HB.out.setCell (p := ⟨w.heap.size, 0, none⟩) (Nat.le_refl _) _).setCell (p := ⟨w.heap.size, 1, none⟩) (Nat.le_refl _) _).setCell (p := ⟨w.heap.size, 2, none⟩) (Nat.le_refl _) _⟩
end Go.Proofs.YtgalihmmlcnahaaDoor
