/-
  The document's DataText, type by type. (Written by wip/tools/gen15.py.)
-/
import Derived.Test.YtfcdajldpnomfaaGreatDoorMQ41
import Derived.Test.YtfcdajldpnomfaaGreatDoorMQ16
import Derived.Test.YtfcdajldpnomfaaGreatDoorMQ26
namespace Go.Proofs.YtfcdajldpnomfaaGreatDoor
set_option maxRecDepth 20000
open Go.RowKit Go.Shelf
set_option maxRecDepth 20000
theorem strs_of_y (y : List UInt8) : [Value.string ⟨y.toArray⟩] = [y].map strV := rfl
theorem sep_le (sep : List UInt8) (xs : Nm) (h1 : xs.length ≤ 1048576) (h2 : ∀ x ∈ xs, x.length ≤ 4195328) (h3 : sep.length ≤ 1) : (sepBy sep xs).length ≤ 140737488355328 := by
  have h := sepBy_len sep 4195328 xs h2
  have : xs.length * (4195328 + sep.length) ≤ 1048576 * 4195329 := Nat.mul_le_mul h1 (by omega)
  omega
theorem decs_le (l : List Nat) (h : ∀ n ∈ l, n < 2 ^ 32) : ∀ x ∈ l.map Lib.decDigits, x.length ≤ 4195328 := by
  intro x hx
  obtain ⟨n, hn, rfl⟩ := List.mem_map.1 hx
  have := h n hn
  have := dec_len n (by omega)
  omega

set_option maxRecDepth 100000 in
set_option maxHeartbeats 8000000 in
theorem reft_a (v : Value) (d : Dat) (w : World) (hA : DatAt w v d) (hk : DatFew d) (ht : d.ty = 1) :
    Calls Tryz.prog 44 #[v] w fun e w' => e = .returned (.string ⟨(textD d).toArray⟩) ∧ Below w.heap.size w w' := by
  have hM : textD d = sepBy [46] (d.raw.map fun c => Lib.decDigits c.toNat) := by unfold textD; rw [ht]; rfl
  obtain ⟨vn, vu, vt, vr, rfl, a1, a2, a3, a4⟩ := hA
  have HLE := Lib.hid (sep_le [46] (d.raw.map fun c => Lib.decDigits c.toNat) (by rw [List.length_map]; exact hk.1.2.2.2.2.2.2) (fun x hx => by
    obtain ⟨c, _, rfl⟩ := List.mem_map.1 hx
    have := dec_len c.toNat (by have := c.toNat_lt; omega)
    omega) (by simp))
  obtain ⟨ar, cr, rfl, _⟩ := id a4
  have hcell := fun W (hb : Below w.heap.size w W) j (hj : j < (d.raw.map bv).length) => a4.cell hb j hj
  obtain ⟨n, hn⟩ : ∃ n, d.raw.length = n := ⟨_, rfl⟩
  have HL := Lib.hid hn
  have hnb : n ≤ 1048576 := by have := hk.1.2.2.2.2.2.2; omega
  rw [List.length_map, hn]
  rw [ht]
  have HM := Lib.hid hM
  have hb0 : Below w.heap.size w (w.alloc (.cells #[.int .i64 1, vn, vu, vt, .slice ar n cr] 38)) := (Below.refl _ w).alloc (Nat.le_refl _) _
  have hbx := block_new w (.cells #[.int .i64 1, vn, vu, vt, .slice ar n cr] 38)
  obtain ⟨c0, c1, c2, c3, c4⟩ := cells5' hbx
  have HB0 := Lib.hid hb0
  have HBX := Lib.hid (fun (W : World) (hb : Below (w.alloc (.cells #[.int .i64 1, vn, vu, vt, .slice ar n cr] 38)).heap.size (w.alloc (.cells #[.int .i64 1, vn, vu, vt, .slice ar n cr] 38)) W) => cells5' ((hb.block w.heap.size (by simp)).trans hbx))
  clear hM hb0 hbx a1 a2 a3 a4 hn hk ht
  go_enter Tryz.func44, Tryz.ntmps44
  go_wp2_with fail
  obtain ⟨W0, hW0⟩ : ∃ W0, w.alloc (.cells #[.int .i64 1, vn, vu, vt, .slice ar n cr] 38) = W0 := ⟨_, rfl⟩
  rw [hW0] at HBX HB0 ⊢
  clear hW0 c0 c1 c2 c3 c4
  go_loopw [3, 4] (fun u i wr => ∃ (k : Nat) (done : Nm), i = .int .i64 k ∧ k ≤ n ∧ OwnG 9 strV wr W0.heap.size u done ∧ Below W0.heap.size W0 wr ∧ Hid (done = (d.raw.take k).map (fun c => Lib.decDigits c.toNat))) (fun _ i _ => n - (intOf i).toNat)
  case atStart => exact ⟨0, [], rfl, Nat.zero_le _, OwnG.nil _ _, Below.refl _ _, Lib.hid rfl⟩
  case round =>
    obtain ⟨k, done, rfl, hk0, hown, hB, HR⟩ := hrel
    obtain ⟨x0, x1, x2, x3, x4⟩ := HBX.out _ hB
    obtain ⟨au, cu, rfl⟩ := hown.shape
    have hdk : done.length = k := by rw [HR.out]; simp [HL.out]; omega
    have HD := Lib.hid hdk; clear hdk
    generalize hdl : done.length = dl at *
    have HDL := Lib.hid hdl; clear hdl
    have hBz := hB.size
    have hBw : Below w.heap.size w wr := HB0.out.trans (hB.mono HB0.out.size)
    by_cases hlt : k < n
    · have hkd : k < d.raw.length := by rw [HL.out]; exact hlt
      obtain ⟨g, off, rfl, hg, hc⟩ := hcell wr hBw k (by rw [List.length_map]; exact hkd)
      rw [List.getElem_map] at hc
      have hcc : (d.raw[k].toNat : Int) ≤ 255 := by have := d.raw[k].toNat_lt; omega
      have hc0 : (0 : Int) ≤ (d.raw[k].toNat : Int) := by omega
      have hT := ref_Decimal d.raw[k].toNat wr (by omega)
      have hsn := take_map_snoc (fun c : UInt8 => Lib.decDigits c.toNat) d.raw k hkd
      obtain ⟨y, hy⟩ : ∃ y, Lib.decDigits d.raw[k].toNat = y := ⟨_, rfl⟩
      simp only [hy] at hsn
      rw [hy] at hT
      unfold bv at hc
      clear hcell hy
      generalize d.raw[k] = x at *
      have HR2 := Lib.hid (show done ++ [y] = (d.raw.take (k + 1)).map (fun c => Lib.decDigits c.toNat) by rw [HR.out]; exact hsn)
      clear hsn HR
      go_wp2_with (first | (go_at_call 42; refine hT.mono ?_; rintro e w2 ⟨rfl, hb2⟩) | (at_builtin; refine wpl_append_g w2 rfl (.tmp 22) (.tmp 30) elemStr rfl strV_one W0.heap.size (.slice au dl cu) done rfl (hown.below hb2) [.string ⟨y.toArray⟩] [y] (strs_of_y y) 1 1 rfl rfl (Nat.le_trans hBz hb2.size) (by have := HD.out; have := HDL.out; unfold maxLen; simp; omega) (by have := HD.out; have := HDL.out; simp; omega) ?_; intro v3 w3 hown3 hg3; have hB3 : Below W0.heap.size W0 w3 := (hB.trans (hb2.mono hBz)).grown hg3 (Nat.le_trans hBz hb2.size) hown.base_le))
      go_roundw
      case rel => exact ⟨k + 1, done ++ [y], by go_num, by omega, hown3, hB3, HR2⟩
      case measure => simp [intOf]; omega
    · obtain rfl : k = n := by omega
      have H0 : Hid (done = d.raw.map (fun c => Lib.decDigits c.toNat)) := Lib.hid (by rw [HR.out, List.take_of_length_le (by rw [HL.out]; exact Nat.le_refl _)])
      have hJ := ref_Joined (.slice au dl cu) done [46] wr (HDL.out ▸ hown.nmAt.1) (by have := HD.out; have := HDL.out; omega) (by
        rw [H0.out]
        exact HLE.out)
      clear HR
      go_wp2_with (go_at_call 93; refine hJ.mono ?_; rintro e w2 ⟨rfl, hb2⟩)
      go_ret
      exact ⟨by rw [HM.out, H0.out]; rfl, hBw.trans (hb2.mono hBw.size)⟩

set_option maxRecDepth 100000 in
set_option maxHeartbeats 8000000 in
theorem reft_txt (v : Value) (d : Dat) (w : World) (hA : DatAt w v d) (hk : DatFew d) (ht : d.ty = 16) :
    Calls Tryz.prog 44 #[v] w fun e w' => e = .returned (.string ⟨(textD d).toArray⟩) ∧ Below w.heap.size w w' := by
  have hM : textD d = sepBy [32] (d.texts.map quotedM) := by unfold textD; rw [ht]; rfl
  obtain ⟨vn, vu, vt, vr, rfl, a1, a2, a3, a4⟩ := hA
  have HLE := Lib.hid (sep_le [32] (d.texts.map quotedM) (by rw [List.length_map]; have := hk.2.2.2.2; omega) (fun x hx => by
    obtain ⟨n, hn, rfl⟩ := List.mem_map.1 hx
    exact quotedM_few (hk.1.2.2.2.2.2.1.2 n hn)) (by simp))
  obtain ⟨ar, cr, rfl, _⟩ := id a3.1
  have hcell := fun W (hb : Below w.heap.size w W) j (hj : j < d.texts.length) => a3.1.cell hb j hj
  obtain ⟨n, hn⟩ : ∃ n, d.texts.length = n := ⟨_, rfl⟩
  have HL := Lib.hid hn
  have hnb : n ≤ 1048576 := by have := hk.2.2.2.2; omega
  have HXB := Lib.hid hk.1.2.2.2.2.2.1
  rw [hn]
  rw [ht]
  have HM := Lib.hid hM
  have hb0 : Below w.heap.size w (w.alloc (.cells #[.int .i64 16, vn, vu, .slice ar n cr, vr] 38)) := (Below.refl _ w).alloc (Nat.le_refl _) _
  have hbx := block_new w (.cells #[.int .i64 16, vn, vu, .slice ar n cr, vr] 38)
  obtain ⟨c0, c1, c2, c3, c4⟩ := cells5' hbx
  have HB0 := Lib.hid hb0
  have HBX := Lib.hid (fun (W : World) (hb : Below (w.alloc (.cells #[.int .i64 16, vn, vu, .slice ar n cr, vr] 38)).heap.size (w.alloc (.cells #[.int .i64 16, vn, vu, .slice ar n cr, vr] 38)) W) => cells5' ((hb.block w.heap.size (by simp)).trans hbx))
  clear hM hb0 hbx a1 a2 a3 a4 hn hk ht
  go_enter Tryz.func44, Tryz.ntmps44
  go_wp2_with fail
  obtain ⟨W0, hW0⟩ : ∃ W0, w.alloc (.cells #[.int .i64 16, vn, vu, .slice ar n cr, vr] 38) = W0 := ⟨_, rfl⟩
  rw [hW0] at HBX HB0 ⊢
  clear hW0 c0 c1 c2 c3 c4
  go_loopw [3, 6] (fun u i wr => ∃ (k : Nat) (done : Nm), i = .int .i64 k ∧ k ≤ n ∧ OwnG 9 strV wr W0.heap.size u done ∧ Below W0.heap.size W0 wr ∧ Hid (done = (d.texts.take k).map quotedM)) (fun _ i _ => n - (intOf i).toNat)
  case atStart => exact ⟨0, [], rfl, Nat.zero_le _, OwnG.nil _ _, Below.refl _ _, Lib.hid rfl⟩
  case round =>
    obtain ⟨k, done, rfl, hk0, hown, hB, HR⟩ := hrel
    obtain ⟨x0, x1, x2, x3, x4⟩ := HBX.out _ hB
    obtain ⟨au, cu, rfl⟩ := hown.shape
    have hdk : done.length = k := by rw [HR.out]; simp [HL.out]; omega
    have HD := Lib.hid hdk; clear hdk
    generalize hdl : done.length = dl at *
    have HDL := Lib.hid hdl; clear hdl
    have hBz := hB.size
    have hBw : Below w.heap.size w wr := HB0.out.trans (hB.mono HB0.out.size)
    by_cases hlt : k < n
    · have hkd : k < d.texts.length := by rw [HL.out]; exact hlt
      obtain ⟨g, off, rfl, hg, hc⟩ := hcell wr hBw k hkd
      obtain ⟨s, hs0, hsz, hsv⟩ := str_of d.texts[k]
      rw [hsv] at hc
      have hT := ref_quoted s wr (by have := HXB.out.2 _ (List.getElem_mem hkd); omega)
      rw [hs0] at hT
      have hsn := take_map_snoc quotedM d.texts k hkd
      obtain ⟨y, hy⟩ : ∃ y, quotedM d.texts[k] = y := ⟨_, rfl⟩
      rw [hy] at hsn hT
      clear hcell hy hs0 hsz hsv
      have HR2 := Lib.hid (show done ++ [y] = (d.texts.take (k + 1)).map quotedM by rw [HR.out]; exact hsn)
      clear hsn HR
      go_wp2_with (first | (go_at_call 95; refine hT.mono ?_; rintro e w2 ⟨rfl, hb2⟩) | (at_builtin; refine wpl_append_g w2 rfl (.tmp 74) (.tmp 81) elemStr rfl strV_one W0.heap.size (.slice au dl cu) done rfl (hown.below hb2) [.string ⟨y.toArray⟩] [y] (strs_of_y y) 1 1 rfl rfl (Nat.le_trans hBz hb2.size) (by have := HD.out; have := HDL.out; unfold maxLen; simp; omega) (by have := HD.out; have := HDL.out; simp; omega) ?_; intro v3 w3 hown3 hg3; have hB3 : Below W0.heap.size W0 w3 := (hB.trans (hb2.mono hBz)).grown hg3 (Nat.le_trans hBz hb2.size) hown.base_le))
      go_roundw
      case rel => exact ⟨k + 1, done ++ [y], by go_num, by omega, hown3, hB3, HR2⟩
      case measure => simp [intOf]; omega
    · obtain rfl : k = n := by omega
      have H0 : Hid (done = d.texts.map quotedM) := Lib.hid (by rw [HR.out, List.take_of_length_le (by rw [HL.out]; exact Nat.le_refl _)])
      have hJ := ref_Joined (.slice au dl cu) done [32] wr (HDL.out ▸ hown.nmAt.1) (by have := HD.out; have := HDL.out; omega) (by
        rw [H0.out]
        exact HLE.out)
      clear HR
      go_wp2_with (go_at_call 93; refine hJ.mono ?_; rintro e w2 ⟨rfl, hb2⟩)
      go_ret
      exact ⟨by rw [HM.out, H0.out]; rfl, hBw.trans (hb2.mono hBw.size)⟩

theorem step_append_g {α : Type} {T S : TypeId} {enc : α → Value} {bytes : Nat} {ops : Array Oper} {o : Oper} {a : Act} {K : Act → World → Prop} {Q : Exit → Act → World → Prop} {E : Prop} (W : World) (hgd : o.guard = none) (s x : Operand) (hE : ElemT T S bytes)
    (ho : o.op = .call { callee := .builtin .append, args := #[s, x], argTypes := #[S, S] }) (hone : ∀ x : α, (enc x).oneCell' = true)
    (base : Nat) (v : Value) (xs : List α) (hs : a.eval s = v) (hown : OwnG T enc W base v xs)
    (cells : List Value) (news : List α) (hcells : cells = news.map enc) (m c : Nat) (hx : a.eval x = .slice (some ⟨W.heap.size, 0, none⟩) m c) (hm : m = news.length)
    (hbase : base ≤ W.heap.size) (hk : xs.length + news.length ≤ maxLen) (hk2 : (xs.length + news.length) * bytes ≤ 140737488355328)
    (h : ∀ v' w', OwnG T enc w' base v' (xs ++ news) → (W.alloc (.cells cells.toArray T)).grownBy w' v.ownBlock → K (a.put o.dst v') w') :
    if Region.wanted o (yielded ops a.tmps) = true then Oper.wp Tryz.prog o a (W.alloc (.cells cells.toArray T)) K Q else E := by
  have hw : Region.wanted o (yielded ops a.tmps) = true := by simp [Region.wanted, hgd]
  rw [if_pos hw]
  subst hcells hm
  obtain ⟨ht, i, z, hi, hz, hz1, hz2, hzc⟩ := hE
  obtain ⟨av, cv, rfl⟩ := hown.shape
  obtain ⟨v', w', hr, h1, h2, _⟩ := run_append_own (P := Tryz.prog) (W.alloc (.cells (news.map enc).toArray T)) base S o.type T i z 1 bytes ht hi hz hz1 hz2 hzc (by decide) (.slice av xs.length cv) xs.length (xs.map enc) (hown.alloc _) ⟨W.heap.size, 0, none⟩ news.length c (news.map enc) (by simp) (cells_new W _ _) (by intro u hu; obtain ⟨y, _, rfl⟩ := List.mem_map.1 hu; exact hone y) hk hk2 (by simp; omega)
  unfold Oper.wp
  simp only [execOp, ho, resolve, invoke, builtin, Sem.run_bind, Sem.run_pure, Result.andThen_ok, List.map_toArray, List.map_cons, List.map_nil, hs, hx, hr]
  refine h v' w' ?_ h2
  unfold OwnG
  rw [List.length_append, List.map_append]
  exact h1

set_option maxRecDepth 100000 in
set_option maxHeartbeats 8000000 in
theorem reft_g (v : Value) (d : Dat) (w : World) (hA : DatAt w v d) (hk : DatFew d) (ht : d.ty = 28) :
    Calls Tryz.prog 44 #[v] w fun e w' => e = .returned (.string ⟨(textD d).toArray⟩) ∧ Below w.heap.size w w' := by
  have hM : textD d = sepBy [58] (hexes d.raw) := by unfold textD; rw [ht]; rfl
  obtain ⟨vn, vu, vt, vr, rfl, a1, a2, a3, a4⟩ := hA
  have HLE := Lib.hid (sep_le [58] (hexes d.raw) (by rw [hexes_len]; have := hk.1.2.2.2.2.2.2; omega) (fun x hx => by have := hexes_each _ x hx; omega) (by simp))
  obtain ⟨ar, cr, rfl, _⟩ := id a4
  have hcell := fun W (hb : Below w.heap.size w W) j (hj : j < (d.raw.map bv).length) => a4.cell hb j hj
  obtain ⟨n, hn⟩ : ∃ n, d.raw.length = n := ⟨_, rfl⟩
  have HL := Lib.hid hn
  have hnb : n ≤ 1048576 := by have := hk.1.2.2.2.2.2.2; omega
  rw [List.length_map, hn]
  rw [ht]
  have HM := Lib.hid hM
  have hb0 : Below w.heap.size w (w.alloc (.cells #[.int .i64 28, vn, vu, vt, .slice ar n cr] 38)) := (Below.refl _ w).alloc (Nat.le_refl _) _
  have hbx := block_new w (.cells #[.int .i64 28, vn, vu, vt, .slice ar n cr] 38)
  obtain ⟨c0, c1, c2, c3, c4⟩ := cells5' hbx
  have HB0 := Lib.hid hb0
  have HBX := Lib.hid (fun (W : World) (hb : Below (w.alloc (.cells #[.int .i64 28, vn, vu, vt, .slice ar n cr] 38)).heap.size (w.alloc (.cells #[.int .i64 28, vn, vu, vt, .slice ar n cr] 38)) W) => cells5' ((hb.block w.heap.size (by simp)).trans hbx))
  clear hM hb0 hbx a1 a2 a3 a4 hn hk ht
  go_enter Tryz.func44, Tryz.ntmps44
  go_wp2_with fail
  obtain ⟨W0, hW0⟩ : ∃ W0, w.alloc (.cells #[.int .i64 28, vn, vu, vt, .slice ar n cr] 38) = W0 := ⟨_, rfl⟩
  rw [hW0] at HBX HB0 ⊢
  clear hW0 c0 c1 c2 c3 c4
  go_loopw [3, 5] (fun u i wr => ∃ (k : Nat) (done : Nm), i = .int .i64 k ∧ k ≤ n ∧ OwnG 9 strV wr W0.heap.size u done ∧ Below W0.heap.size W0 wr ∧ Hid (k % 2 = 0 ∧ done = hexes (d.raw.take k))) (fun _ i _ => n - (intOf i).toNat)
  case atStart => exact ⟨0, [], rfl, Nat.zero_le _, OwnG.nil _ _, Below.refl _ _, Lib.hid ⟨rfl, rfl⟩⟩
  case round =>
    obtain ⟨k, done, rfl, hk0, hown, hB, HR⟩ := hrel
    obtain ⟨x0, x1, x2, x3, x4⟩ := HBX.out _ hB
    clear x0 x1 x2 x3
    obtain ⟨au, cu, rfl⟩ := hown.shape
    have hdk : done.length ≤ k := by rw [HR.out.2, hexes_len, List.length_take]; omega
    have HD := Lib.hid hdk; clear hdk
    generalize hdl : done.length = dl at *
    have HDL := Lib.hid hdl; clear hdl
    have hBz := hB.size
    have hBw : Below w.heap.size w wr := HB0.out.trans (hB.mono HB0.out.size)
    by_cases hlt : k + 1 < n
    · have hkd : k + 1 < d.raw.length := by rw [HL.out]; exact hlt
      obtain ⟨g, off, rfl, hg, hc1⟩ := hcell w (Below.refl _ _) k (by rw [List.length_map]; omega)
      obtain ⟨g2, off2, e2, _, hc2⟩ := hcell w (Below.refl _ _) (k + 1) (by rw [List.length_map]; exact hkd)
      cases e2
      rw [List.getElem_map] at hc1 hc2
      have hltI : (k : Int) + 1 < (n : Int) := by omega
      have hltJ : (k : Int) < (n : Int) := by omega
      have hnat : ((k : Int) + 1).toNat = k + 1 := by omega
      have hkp : (0 : Int) ≤ (k : Int) + 1 := by omega
      have hw1 : IntKind.i64.wrap ((k : Int) + 1) = (k : Int) + 1 := IntWalk.i64_in _ (by omega)
      have hHS := Lib.hid (show hexes (d.raw.take (k + 2)) = hexes (d.raw.take k) ++ [hexD (256 * (d.raw[k]'(by omega)).toNat + d.raw[k + 1].toNat)] from by
        have e : d.raw.take (k + 2) = d.raw.take k ++ [d.raw[k]'(by omega), d.raw[k + 1]] := by
          rw [List.take_succ_eq_append_getElem hkd, List.take_succ_eq_append_getElem (by omega : k < d.raw.length), List.append_assoc]; rfl
        rw [e, hexes_snoc _ _ _ (by rw [List.length_take]; have := HR.out.1; omega)])
      have hcc1 : ((d.raw[k]'(by omega)).toNat : Int) ≤ 255 := by have := (d.raw[k]'(by omega)).toNat_lt; omega
      have hcc2 : (d.raw[k + 1].toNat : Int) ≤ 255 := by have := d.raw[k + 1].toNat_lt; omega
      unfold bv at hc1 hc2
      clear hcell
      generalize (d.raw[k]'(by omega)) = x1 at *
      generalize d.raw[k + 1] = x2 at *
      have hwr : IntKind.i64.wrap (IntKind.i64.wrap (IntKind.i64.wrap (x1.toNat : Int) * 256) + IntKind.i64.wrap (x2.toNat : Int)) = ((256 * x1.toNat + x2.toNat : Nat) : Int) := by
        rw [IntWalk.i64_in (x1.toNat : Int) (by omega), IntWalk.i64_in (x2.toNat : Int) (by omega), IntWalk.i64_in ((x1.toNat : Int) * 256) (by omega), IntWalk.i64_in _ (by omega)]; omega
      have hT : ∀ W, Calls Tryz.prog 94 #[.int .i64 (IntKind.i64.wrap (IntKind.i64.wrap (IntKind.i64.wrap (x1.toNat : Int) * 256) + IntKind.i64.wrap (x2.toNat : Int))), .int .i64 1] W fun e w' => e = .returned (.string ⟨(hexD (256 * x1.toNat + x2.toNat)).toArray⟩) ∧ Below W.heap.size W w' := fun W => by
        rw [hwr, ← hexR_one]
        exact ref_hex (256 * x1.toNat + x2.toNat) 1 W (by omega) (by omega)
      clear hwr
      generalize hexD (256 * x1.toNat + x2.toNat) = y at *
      have HR2 := Lib.hid (show (k + 2) % 2 = 0 ∧ done ++ [y] = hexes (d.raw.take (k + 2)) from ⟨by have := HR.out.1; omega, by rw [hHS.out, HR.out.2]⟩)
      have HT := Lib.hid hT
      have KD : ∀ W : World, Below W0.heap.size W0 W → (W.cell? ⟨w.heap.size, 4, none⟩ = some (.slice (some ⟨g, off, none⟩) n cr) ∧ W.cell? ⟨g, off + k, none⟩ = some (.int .u8 (x1.toNat : Int)) ∧ W.cell? ⟨g, off + (k + 1), none⟩ = some (.int .u8 (x2.toNat : Int)) ∧ Below W0.heap.size W0 W) := fun W hb =>
        ⟨(HBX.out W hb).2.2.2.2, ((HB0.out.trans (hb.mono HB0.out.size)).cell (p := ⟨g, off + k, none⟩) hg).trans hc1, ((HB0.out.trans (hb.mono HB0.out.size)).cell (p := ⟨g, off + (k + 1), none⟩) hg).trans hc2, hb⟩
      have KS := Lib.hid (fun (W W' : World) (h : (W.cell? ⟨w.heap.size, 4, none⟩ = some (.slice (some ⟨g, off, none⟩) n cr) ∧ W.cell? ⟨g, off + k, none⟩ = some (.int .u8 (x1.toNat : Int)) ∧ W.cell? ⟨g, off + (k + 1), none⟩ = some (.int .u8 (x2.toNat : Int)) ∧ Below W0.heap.size W0 W)) (hb : Below W.heap.size W W') => KD W' (h.2.2.2.trans (hb.mono h.2.2.2.size)))
      have KR := Lib.hid (fun (W : World) (h : (W.cell? ⟨w.heap.size, 4, none⟩ = some (.slice (some ⟨g, off, none⟩) n cr) ∧ W.cell? ⟨g, off + k, none⟩ = some (.int .u8 (x1.toNat : Int)) ∧ W.cell? ⟨g, off + (k + 1), none⟩ = some (.int .u8 (x2.toNat : Int)) ∧ Below W0.heap.size W0 W)) => KD W.drew (below_drew1 h.2.2.2))
      have KA := Lib.hid (fun (W : World) (o : Obj) (h : (W.cell? ⟨w.heap.size, 4, none⟩ = some (.slice (some ⟨g, off, none⟩) n cr) ∧ W.cell? ⟨g, off + k, none⟩ = some (.int .u8 (x1.toNat : Int)) ∧ W.cell? ⟨g, off + (k + 1), none⟩ = some (.int .u8 (x2.toNat : Int)) ∧ Below W0.heap.size W0 W)) => KD (W.alloc o) (h.2.2.2.alloc h.2.2.2.size o))
      have KG := Lib.hid (fun (W W' : World) (v0 : Value) (zs : Nm) (h : (W.cell? ⟨w.heap.size, 4, none⟩ = some (.slice (some ⟨g, off, none⟩) n cr) ∧ W.cell? ⟨g, off + k, none⟩ = some (.int .u8 (x1.toNat : Int)) ∧ W.cell? ⟨g, off + (k + 1), none⟩ = some (.int .u8 (x2.toNat : Int)) ∧ Below W0.heap.size W0 W)) (ho : OwnG 9 strV W W0.heap.size v0 zs) (hg : W.grownBy W' v0.ownBlock) => KD W' (h.2.2.2.grown hg h.2.2.2.size ho.base_le))
      have HOW := Lib.hid (show OwnG 9 strV wr.drew W0.heap.size (.slice au dl cu) done from hown.drew)
      have hS := KD wr hB
      have HBB := Lib.hid hBz
      have HK1 := Lib.hid (show done.length + [y].length ≤ maxLen from by have := HD.out; have := HDL.out; unfold maxLen; simp; omega)
      have HK2 := Lib.hid (show (done.length + [y].length) * 16 ≤ 140737488355328 from by have := HD.out; have := HDL.out; simp; omega)
      clear hHS HR hT hc1 hc2 KD hown x4 hBw
      go_wp2_with fail
      go_region_held3 (fun W => (W.cell? ⟨w.heap.size, 4, none⟩ = some (.slice (some ⟨g, off, none⟩) n cr) ∧ W.cell? ⟨g, off + k, none⟩ = some (.int .u8 (x1.toNat : Int)) ∧ W.cell? ⟨g, off + (k + 1), none⟩ = some (.int .u8 (x2.toNat : Int)) ∧ Below W0.heap.size W0 W)) (first | assumption | exact KR.out _ (by assumption) | exact KA.out _ _ (by assumption)) (first
        | ((with_reducible refine (HT.out _).mono ?_); rintro e w2 ⟨rfl, hb2⟩; have hS2 := KS.out _ _ (by assumption) hb2; have ho2 := OwnG.below HOW.out hb2)
        | (have hq := ho2; clear hq; refine step_append_g w2 (by rfl) _ _ elemStr (by rfl) strV_one W0.heap.size (.slice au dl cu) done (by rfl) ho2 [.string ⟨y.toArray⟩] [y] (strs_of_y y) 1 1 (by rfl) rfl (Nat.le_trans HBB.out hb2.size) HK1.out HK2.out ?_; intro v3 w3 ho3 hg3; have hS3 := KG.out _ _ _ _ (by assumption) (ho2.alloc _) hg3))
      all_goals
        rename_i hSe
        have hB3 := hSe.2.2.2
        clear hSe hS3
        go_wp2_with fail
        go_roundw
        case rel => exact ⟨k + 2, done ++ [y], by go_num, by omega, ho3, hB3, HR2⟩
        case measure => simp [intOf]; omega
    · have hltI : ¬ (k : Int) + 1 < (n : Int) := by omega
      have H0 : Hid (done = hexes d.raw) := Lib.hid (by
        rw [HR.out.2]
        by_cases he : k = n
        · rw [List.take_of_length_le (by rw [HL.out, he]; exact Nat.le_refl _)]
        · have hkd : k < d.raw.length := by rw [HL.out]; omega
          have e : d.raw = d.raw.take k ++ [d.raw[k]] := by
            conv => lhs; rw [← List.take_append_drop k d.raw]
            congr 1
            rw [List.drop_eq_getElem_cons hkd, List.drop_of_length_le (by rw [HL.out]; omega)]
          conv => rhs; rw [e]
          rw [hexes_odd _ _ (by rw [List.length_take]; have := HR.out.1; omega)])
      have hJ := ref_Joined (.slice au dl cu) done [58] wr (HDL.out ▸ hown.nmAt.1) (by have := HD.out; have := HDL.out; omega) (by
        rw [H0.out]
        exact HLE.out)
      clear HR
      go_wp2_with (go_at_call 93; refine hJ.mono ?_; rintro e w2 ⟨rfl, hb2⟩)
      go_ret
      exact ⟨by rw [HM.out, H0.out]; rfl, hBw.trans (hb2.mono hBw.size)⟩

set_option maxRecDepth 100000 in
set_option maxHeartbeats 8000000 in
theorem reft_mx (v : Value) (d : Dat) (w : World) (hA : DatAt w v d) (hk : DatFew d) (ht : d.ty = 15) (m : Nat) (nm : Nm) (hnu : d.nums = [m]) (hna : d.names = [nm]) :
    Calls Tryz.prog 44 #[v] w fun e w' => e = .returned (.string ⟨(textD d).toArray⟩) ∧ Below w.heap.size w w' := by
  have hM : textD d = Lib.decDigits m ++ [32] ++ textN nm := by unfold textD; rw [ht, hnu, hna]; simp [sepBy]
  obtain ⟨vn, vu, vt, vr, rfl, a1, a2, a3, a4⟩ := hA
  obtain ⟨vs, s1, sl, s2⟩ := id a1
  obtain ⟨an, cn, rfl, q1⟩ := id s1
  obtain ⟨aw, cw, rfl, q2⟩ := id a2
  clear q1 q2
  have hvl : vs.length = 1 := by rw [sl, hna]; rfl
  obtain ⟨g, off, rfl, hg, hc1⟩ := s1.cell (Below.refl _ w) 0 (by omega)
  obtain ⟨g2, off2, rfl, hg2, hc2⟩ := a2.cell (Below.refl _ w) 0 (by rw [List.length_map, hnu]; simp)
  have hm32 : m < 2 ^ 32 := hk.1.2.2.2.2.1 m (by rw [hnu]; simp)
  have hnmok : NmOK nm := hk.1.2.2.1 nm (by rw [hna]; simp)
  have hnfew : nm.length ≤ 1024 ∧ ∀ x ∈ nm, x.length ≤ 1024 := hk.2.2.1 nm (by rw [hna]; simp)
  have hn0 : NmAt w vs[0] nm := by
    have h := s2 0 (by omega)
    have e : d.names[0]'(by rw [hna]; simp) = nm := by simp [hna]
    rw [e] at h; exact h
  obtain ⟨⟨pa, pc, ep, q3⟩, q4⟩ := id hn0
  clear q3 q4
  rw [ep] at hc1 hn0
  rw [List.getElem_map] at hc2
  have e2 : d.nums[0]'(by rw [hnu]; simp) = m := by simp [hnu]
  rw [e2] at hc2
  unfold u32V at hc2
  rw [Nat.add_zero] at hc1 hc2
  rw [List.length_map, hvl, show d.nums.length = 1 by rw [hnu]; rfl]
  obtain ⟨pn, hpn⟩ : ∃ n, nm.length = n := ⟨_, rfl⟩
  rw [hpn] at hc1 hn0
  have hm0 : (0 : Int) ≤ (m : Int) := by omega
  have hm1 : (m : Int) ≤ 4294967295 := by omega
  have hwm : IntKind.i64.wrap (m : Int) = (m : Int) := IntWalk.i64_in _ (by omega)
  have hTD := fun W => ref_Decimal m W (by omega)
  have hTN := fun W (hb : Below w.heap.size w W) => ref_NameText (.slice pa pn pc) nm W (hn0.below hb).1 hnmok
  have htl := textN_few hnfew
  have hdl := dec_len m (by omega)
  obtain ⟨y, hy⟩ : ∃ y, Lib.decDigits m = y := ⟨_, rfl⟩
  obtain ⟨z, hz⟩ : ∃ z, textN nm = z := ⟨_, rfl⟩
  rw [hy] at hTD hdl hM
  simp only [hz] at hTN
  rw [hz] at htl hM
  have A1 : ∀ W, (Op.stringOp .add ⟨y.toArray⟩ ⟨#[32]⟩).run Tryz.prog W = .ok (.string ⟨(y ++ [32]).toArray⟩) W := fun W => by
    rw [run_string_add_sum (P := Tryz.prog) W ⟨y.toArray⟩ ⟨#[32]⟩ (by rw [mk_size]; show _ + 1 ≤ _; omega)]
    have e : (⟨y.toArray⟩ : ByteArray) ++ ⟨#[32]⟩ = ⟨(y ++ [32]).toArray⟩ := mk_append y [32]
    rw [e]
  have A2 : ∀ W, (Op.stringOp .add ⟨(y ++ [32]).toArray⟩ ⟨z.toArray⟩).run Tryz.prog W = .ok (.string ⟨(y ++ [32] ++ z).toArray⟩) W := fun W => by
    have h := run_string_add_sum (P := Tryz.prog) W (⟨(y ++ [32]).toArray⟩ : ByteArray) (⟨z.toArray⟩ : ByteArray) (by rw [mk_size, mk_size]; simp; omega)
    rw [mk_append] at h
    exact h
  clear hy hz e2 ep hn0 hnmok hnfew htl hdl hnu hna hpn hvl s1 s2 sl
  rw [ht]
  have HM := Lib.hid hM
  have hb0 : Below w.heap.size w (w.alloc (.cells #[.int .i64 15, .slice (some ⟨g, off, none⟩) 1 cn, .slice (some ⟨g2, off2, none⟩) 1 cw, vt, vr] 38)) := (Below.refl _ w).alloc (Nat.le_refl _) _
  have hbx := block_new w (.cells #[.int .i64 15, .slice (some ⟨g, off, none⟩) 1 cn, .slice (some ⟨g2, off2, none⟩) 1 cw, vt, vr] 38)
  obtain ⟨c0, c1, c2, c3, c4⟩ := cells5' hbx
  have HB0 := Lib.hid hb0
  have HBX := Lib.hid (fun (W : World) (hb : Below (w.alloc (.cells #[.int .i64 15, .slice (some ⟨g, off, none⟩) 1 cn, .slice (some ⟨g2, off2, none⟩) 1 cw, vt, vr] 38)).heap.size (w.alloc (.cells #[.int .i64 15, .slice (some ⟨g, off, none⟩) 1 cn, .slice (some ⟨g2, off2, none⟩) 1 cw, vt, vr] 38)) W) => cells5' ((hb.block w.heap.size (by simp)).trans hbx))
  clear hM hb0 hbx a1 a2 a3 a4 hk ht
  go_enter Tryz.func44, Tryz.ntmps44
  have HTD := Lib.hid hTD; have HTN := Lib.hid hTN
  clear hTD hTN
  go_wp2_with fail
  obtain ⟨W0, hW0⟩ : ∃ W0, w.alloc (.cells #[.int .i64 15, .slice (some ⟨g, off, none⟩) 1 cn, .slice (some ⟨g2, off2, none⟩) 1 cw, vt, vr] 38) = W0 := ⟨_, rfl⟩
  rw [hW0] at HBX HB0 ⊢
  clear hW0 c0 c1 c2 c3 c4
  have KD : ∀ W : World, Below W0.heap.size W0 W → (W.cell? ⟨w.heap.size, 1, none⟩ = some (.slice (some ⟨g, off, none⟩) 1 cn) ∧ W.cell? ⟨w.heap.size, 2, none⟩ = some (.slice (some ⟨g2, off2, none⟩) 1 cw) ∧ W.cell? ⟨g, off, none⟩ = some (.slice pa pn pc) ∧ W.cell? ⟨g2, off2, none⟩ = some (.int .u32 (m : Int)) ∧ Below W0.heap.size W0 W) := fun W hb =>
    ⟨(HBX.out W hb).2.1, (HBX.out W hb).2.2.1, ((HB0.out.trans (hb.mono HB0.out.size)).cell (p := ⟨g, off, none⟩) hg).trans hc1, ((HB0.out.trans (hb.mono HB0.out.size)).cell (p := ⟨g2, off2, none⟩) hg2).trans hc2, hb⟩
  have KS := Lib.hid (fun (W W' : World) (h : (W.cell? ⟨w.heap.size, 1, none⟩ = some (.slice (some ⟨g, off, none⟩) 1 cn) ∧ W.cell? ⟨w.heap.size, 2, none⟩ = some (.slice (some ⟨g2, off2, none⟩) 1 cw) ∧ W.cell? ⟨g, off, none⟩ = some (.slice pa pn pc) ∧ W.cell? ⟨g2, off2, none⟩ = some (.int .u32 (m : Int)) ∧ Below W0.heap.size W0 W)) (hb : Below W.heap.size W W') => KD W' (h.2.2.2.2.trans (hb.mono h.2.2.2.2.size)))
  have KR := Lib.hid (fun (W : World) (h : (W.cell? ⟨w.heap.size, 1, none⟩ = some (.slice (some ⟨g, off, none⟩) 1 cn) ∧ W.cell? ⟨w.heap.size, 2, none⟩ = some (.slice (some ⟨g2, off2, none⟩) 1 cw) ∧ W.cell? ⟨g, off, none⟩ = some (.slice pa pn pc) ∧ W.cell? ⟨g2, off2, none⟩ = some (.int .u32 (m : Int)) ∧ Below W0.heap.size W0 W)) => KD W.drew (below_drew1 h.2.2.2.2))
  have KT := Lib.hid (fun (W : World) (h : (W.cell? ⟨w.heap.size, 1, none⟩ = some (.slice (some ⟨g, off, none⟩) 1 cn) ∧ W.cell? ⟨w.heap.size, 2, none⟩ = some (.slice (some ⟨g2, off2, none⟩) 1 cw) ∧ W.cell? ⟨g, off, none⟩ = some (.slice pa pn pc) ∧ W.cell? ⟨g2, off2, none⟩ = some (.int .u32 (m : Int)) ∧ Below W0.heap.size W0 W)) => HTN.out W (HB0.out.trans (h.2.2.2.2.mono HB0.out.size)))
  have hS := KD W0 (Below.refl _ _)
  have HBE := Lib.hid (fun (W : World) (h : (W.cell? ⟨w.heap.size, 1, none⟩ = some (.slice (some ⟨g, off, none⟩) 1 cn) ∧ W.cell? ⟨w.heap.size, 2, none⟩ = some (.slice (some ⟨g2, off2, none⟩) 1 cw) ∧ W.cell? ⟨g, off, none⟩ = some (.slice pa pn pc) ∧ W.cell? ⟨g2, off2, none⟩ = some (.int .u32 (m : Int)) ∧ Below W0.heap.size W0 W)) => HB0.out.trans (h.2.2.2.2.mono HB0.out.size))
  clear KD hc1 hc2 hg hg2 HTN
  go_region_held3 (fun W => (W.cell? ⟨w.heap.size, 1, none⟩ = some (.slice (some ⟨g, off, none⟩) 1 cn) ∧ W.cell? ⟨w.heap.size, 2, none⟩ = some (.slice (some ⟨g2, off2, none⟩) 1 cw) ∧ W.cell? ⟨g, off, none⟩ = some (.slice pa pn pc) ∧ W.cell? ⟨g2, off2, none⟩ = some (.int .u32 (m : Int)) ∧ Below W0.heap.size W0 W)) (first | assumption | exact KR.out _ (by assumption)) (first
    | ((with_reducible refine (HTD.out _).mono ?_); rintro e w2 ⟨rfl, hb2⟩; have hS2 := KS.out _ _ (by assumption) hb2)
    | ((with_reducible refine (KT.out _ (by assumption)).mono ?_); rintro e w2 ⟨rfl, hb2⟩; have hS2 := KS.out _ _ (by assumption) hb2))
  all_goals
    rename_i hSe
    go_wp2_with fail
    go_ret
    exact ⟨by rw [HM.out, List.append_assoc]; rfl, HBE.out _ hSe⟩

theorem hexs_snoc (l : List UInt8) (c : UInt8) : (l ++ [c]).flatMap hex2 = l.flatMap hex2 ++ hex2 c := by simp

set_option maxRecDepth 100000 in
set_option maxHeartbeats 8000000 in
theorem reft_n2 (v : Value) (d : Dat) (w : World) (hA : DatAt w v d) (hk : DatFew d) (ht : d.ty = 2) :
    Calls Tryz.prog 44 #[v] w fun e w' => e = .returned (.string ⟨(textD d).toArray⟩) ∧ Below w.heap.size w w' := by
  have hM : textD d = sepBy [32] (d.names.map textN ++ d.nums.map Lib.decDigits) := by unfold textD; rw [ht]; rfl
  obtain ⟨vn, vu, vt, vr, rfl, a1, a2, a3, a4⟩ := hA
  have HLE := Lib.hid (sep_le [32] (d.names.map textN ++ d.nums.map Lib.decDigits) (by have h1 := hk.2.1; have h2 := hk.2.2.2.1; simp; omega) (parts_few hk) (by simp))
  obtain ⟨vs, s1, sl, s2⟩ := id a1
  obtain ⟨an, cn, rfl, _⟩ := id s1
  obtain ⟨aw, cw, rfl, _⟩ := id a2
  have hcn := fun W (hb : Below w.heap.size w W) j (hj : j < vs.length) => s1.cell hb j hj
  have hnm : ∀ W, Below w.heap.size w W → ∀ j (h1 : j < vs.length) (h2 : j < d.names.length), NmAt W vs[j] d.names[j] := fun W hb j h1 _ => (s2 j h1).below hb
  have hcu := fun W (hb : Below w.heap.size w W) j (hj : j < (d.nums.map u32V).length) => a2.cell hb j hj
  obtain ⟨n1, hn1⟩ : ∃ n, d.names.length = n := ⟨_, rfl⟩
  obtain ⟨n2, hn2⟩ : ∃ n, d.nums.length = n := ⟨_, rfl⟩
  have HL1 := Lib.hid hn1; have HL2 := Lib.hid hn2; have HV1 := Lib.hid (sl.trans hn1)
  have hnb1 : n1 ≤ 1024 := by have := hk.2.1; omega
  have hnb2 : n2 ≤ 1024 := by have := hk.2.2.2.1; omega
  have HNOK := Lib.hid hk.1.2.2.1; have HNB := Lib.hid hk.1.2.2.2.2.1; have HCN := Lib.hid hcn; have HNM := Lib.hid hnm; have HCU := Lib.hid hcu
  have HPF := Lib.hid (parts_few hk)
  rw [List.length_map, sl, hn1, hn2]
  rw [ht]
  have HM := Lib.hid hM
  have hb0 : Below w.heap.size w (w.alloc (.cells #[.int .i64 2, .slice an n1 cn, .slice aw n2 cw, vt, vr] 38)) := (Below.refl _ w).alloc (Nat.le_refl _) _
  have hbx := block_new w (.cells #[.int .i64 2, .slice an n1 cn, .slice aw n2 cw, vt, vr] 38)
  obtain ⟨c0, c1, c2, c3, c4⟩ := cells5' hbx
  have HB0 := Lib.hid hb0
  have HBX := Lib.hid (fun (W : World) (hb : Below (w.alloc (.cells #[.int .i64 2, .slice an n1 cn, .slice aw n2 cw, vt, vr] 38)).heap.size (w.alloc (.cells #[.int .i64 2, .slice an n1 cn, .slice aw n2 cw, vt, vr] 38)) W) => cells5' ((hb.block w.heap.size (by simp)).trans hbx))
  clear hM hb0 hbx a1 a2 a3 a4 hn1 hn2 hk ht sl s1 s2 hcn hnm hcu
  go_enter Tryz.func44, Tryz.ntmps44
  go_wp2_with fail
  obtain ⟨W0, hW0⟩ : ∃ W0, w.alloc (.cells #[.int .i64 2, .slice an n1 cn, .slice aw n2 cw, vt, vr] 38) = W0 := ⟨_, rfl⟩
  rw [hW0] at HBX HB0 ⊢
  clear hW0 c0 c1 c2 c3 c4
  go_loopw [3, 7] (fun u i wr => ∃ (k : Nat) (done : Nm), i = .int .i64 k ∧ k ≤ n1 ∧ OwnG 9 strV wr W0.heap.size u done ∧ Below W0.heap.size W0 wr ∧ Hid (done = (d.names.take k).map textN)) (fun _ i _ => n1 - (intOf i).toNat)
  case atStart => exact ⟨0, [], rfl, Nat.zero_le _, OwnG.nil _ _, Below.refl _ _, Lib.hid rfl⟩
  case round =>
    obtain ⟨k, done, rfl, hk0, hown, hB, HR⟩ := hrel
    obtain ⟨x0, x1, x2, x3, x4⟩ := HBX.out _ hB
    obtain ⟨au, cu, rfl⟩ := hown.shape
    have hdk : done.length = k := by rw [HR.out, List.length_map, List.length_take]; have := HL1.out; omega
    have HD := Lib.hid hdk; clear hdk
    generalize hdl : done.length = dl at *
    have HDL := Lib.hid hdl; clear hdl
    have hBz := hB.size
    have hBw : Below w.heap.size w wr := HB0.out.trans (hB.mono HB0.out.size)
    by_cases hlt : k < n1
    · have hkd : k < d.names.length := by rw [HL1.out]; exact hlt
      have hkv : k < vs.length := by rw [HV1.out]; exact hlt
      obtain ⟨g, off, rfl, hg, hc⟩ := HCN.out wr hBw k hkv
      have hnk := HNM.out wr hBw k hkv hkd
      obtain ⟨⟨pa, pc, ep, _⟩, _⟩ := id hnk
      rw [ep] at hc hnk
      have hT := ref_NameText (.slice pa d.names[k].length pc) d.names[k] wr hnk.1 (HNOK.out _ (List.getElem_mem hkd))
      have hsn := take_map_snoc textN d.names k hkd
      obtain ⟨y, hy⟩ : ∃ y, textN d.names[k] = y := ⟨_, rfl⟩
      rw [hy] at hsn hT
      obtain ⟨pn, hpn⟩ : ∃ n, d.names[k].length = n := ⟨_, rfl⟩
      rw [hpn] at hc hT
      clear hy hpn ep hnk
      have HR2 := Lib.hid (show done ++ [y] = (d.names.take (k + 1)).map textN by rw [HR.out]; exact hsn)
      clear hsn HR
      go_wp2_with (first | (go_at_call 41; refine hT.mono ?_; rintro e w2 ⟨rfl, hb2⟩) | (at_builtin; refine wpl_append_g w2 rfl (.tmp 113) (.tmp 120) elemStr rfl strV_one W0.heap.size (.slice au dl cu) done rfl (hown.below hb2) [.string ⟨y.toArray⟩] [y] (strs_of_y y) 1 1 rfl rfl (Nat.le_trans hBz hb2.size) (by have := HD.out; have := HDL.out; unfold maxLen; simp; omega) (by have := HD.out; have := HDL.out; simp; omega) ?_; intro v3 w3 hown3 hg3; have hB3 : Below W0.heap.size W0 w3 := (hB.trans (hb2.mono hBz)).grown hg3 (Nat.le_trans hBz hb2.size) hown.base_le))
      go_roundw
      case rel => exact ⟨k + 1, done ++ [y], by go_num, by omega, hown3, hB3, HR2⟩
      case measure => simp [intOf]; omega
    · obtain rfl : k = n1 := by omega
      have H1 := Lib.hid (show done = d.names.map textN from by rw [HR.out, List.take_of_length_le (by rw [HL1.out]; exact Nat.le_refl _)])
      have HBs := Lib.hid hB
      obtain ⟨WS, hWS⟩ : ∃ W, wr = W := ⟨_, rfl⟩
      rw [hWS] at hown hB HBs hBw hBz x0 x1 x2 x3 x4 ⊢
      clear hWS HR HD wr
      go_wp2_with fail
      go_loopw [3, 8] (fun u i wr => ∃ (j : Nat) (don2 : Nm), i = .int .i64 j ∧ j ≤ n2 ∧ OwnG 9 strV wr W0.heap.size u don2 ∧ Below W0.heap.size W0 wr ∧ Hid (don2 = done ++ (d.nums.take j).map Lib.decDigits)) (fun _ i _ => n2 - (intOf i).toNat)
      case atStart => exact ⟨0, done, rfl, Nat.zero_le _, HDL.out ▸ hown, HBs.out, Lib.hid (by simp)⟩
      case round =>
        clear x0 x1 x2 x3 x4 hown hB hBw hBz
        obtain ⟨j, don2, rfl, hj0, hown, hB, HR⟩ := hrel
        obtain ⟨x0, x1, x2, x3, x4⟩ := HBX.out _ hB
        obtain ⟨ax, cx, rfl⟩ := hown.shape
        have hdk : don2.length = dl + j := by rw [HR.out, List.length_append, HDL.out, List.length_map, List.length_take]; have := HL2.out; omega
        have HD := Lib.hid hdk; clear hdk
        generalize hdl : don2.length = dm at *
        have HDM := Lib.hid hdl; clear hdl
        have hdn : dl = k := by rw [← HDL.out, H1.out, List.length_map]; exact HL1.out
        have HDN := Lib.hid hdn; clear hdn
        have hBz := hB.size
        have hBw : Below w.heap.size w wr := HB0.out.trans (hB.mono HB0.out.size)
        by_cases hlt2 : j < n2
        · have hkd : j < d.nums.length := by rw [HL2.out]; exact hlt2
          obtain ⟨g2, off2, rfl, hg2, hc2⟩ := HCU.out wr hBw j (by rw [List.length_map]; exact hkd)
          rw [List.getElem_map] at hc2
          have hmb := HNB.out _ (List.getElem_mem hkd)
          have hm0 : (0 : Int) ≤ (d.nums[j] : Int) := by omega
          have hm1 : (d.nums[j] : Int) ≤ 4294967295 := by omega
          have hT := ref_Decimal d.nums[j] wr (by omega)
          have hsn := take_map_snoc Lib.decDigits d.nums j hkd
          obtain ⟨y, hy⟩ : ∃ y, Lib.decDigits d.nums[j] = y := ⟨_, rfl⟩
          rw [hy] at hsn hT
          unfold u32V at hc2
          have hwm : IntKind.i64.wrap (d.nums[j] : Int) = (d.nums[j] : Int) := IntWalk.i64_in _ (by omega)
          clear hy hmb
          generalize d.nums[j] = m at *
          have HR2 := Lib.hid (show don2 ++ [y] = done ++ (d.nums.take (j + 1)).map Lib.decDigits by rw [HR.out, List.append_assoc]; congr 1)
          clear hsn HR
          go_wp2_with (first | (go_at_call 42; refine hT.mono ?_; rintro e w2 ⟨rfl, hb2⟩) | (at_builtin; refine wpl_append_g w2 rfl (.tmp 129) (.tmp 137) elemStr rfl strV_one W0.heap.size (.slice ax dm cx) don2 rfl (hown.below hb2) [.string ⟨y.toArray⟩] [y] (strs_of_y y) 1 1 rfl rfl (Nat.le_trans hBz hb2.size) (by have := HD.out; have := HDM.out; have := HDN.out; unfold maxLen; simp; omega) (by have := HD.out; have := HDM.out; have := HDN.out; simp; omega) ?_; intro v3 w3 hown3 hg3; have hB3 : Below W0.heap.size W0 w3 := (hB.trans (hb2.mono hBz)).grown hg3 (Nat.le_trans hBz hb2.size) hown.base_le))
          go_roundw
          case rel => exact ⟨j + 1, don2 ++ [y], by go_num, by omega, hown3, hB3, HR2⟩
          case measure => simp [intOf]; omega
        · obtain rfl : j = n2 := by omega
          have H0 : Hid (don2 = d.names.map textN ++ d.nums.map Lib.decDigits) := Lib.hid (by rw [HR.out, H1.out, List.take_of_length_le (by rw [HL2.out]; exact Nat.le_refl _)])
          have hJ := ref_Joined (.slice ax dm cx) don2 [32] wr (HDM.out ▸ hown.nmAt.1) (by have := HD.out; have := HDM.out; have := HDN.out; omega) (by
            rw [H0.out]
            exact HLE.out)
          clear HR
          go_wp2_with (go_at_call 93; refine hJ.mono ?_; rintro e w2 ⟨rfl, hb2⟩)
          go_ret
          exact ⟨by rw [HM.out, H0.out]; rfl, hBw.trans (hb2.mono hBw.size)⟩

set_option maxRecDepth 100000 in
set_option maxHeartbeats 8000000 in
theorem reft_n5 (v : Value) (d : Dat) (w : World) (hA : DatAt w v d) (hk : DatFew d) (ht : d.ty = 5) :
    Calls Tryz.prog 44 #[v] w fun e w' => e = .returned (.string ⟨(textD d).toArray⟩) ∧ Below w.heap.size w w' := by
  have hM : textD d = sepBy [32] (d.names.map textN ++ d.nums.map Lib.decDigits) := by unfold textD; rw [ht]; rfl
  obtain ⟨vn, vu, vt, vr, rfl, a1, a2, a3, a4⟩ := hA
  have HLE := Lib.hid (sep_le [32] (d.names.map textN ++ d.nums.map Lib.decDigits) (by have h1 := hk.2.1; have h2 := hk.2.2.2.1; simp; omega) (parts_few hk) (by simp))
  obtain ⟨vs, s1, sl, s2⟩ := id a1
  obtain ⟨an, cn, rfl, _⟩ := id s1
  obtain ⟨aw, cw, rfl, _⟩ := id a2
  have hcn := fun W (hb : Below w.heap.size w W) j (hj : j < vs.length) => s1.cell hb j hj
  have hnm : ∀ W, Below w.heap.size w W → ∀ j (h1 : j < vs.length) (h2 : j < d.names.length), NmAt W vs[j] d.names[j] := fun W hb j h1 _ => (s2 j h1).below hb
  have hcu := fun W (hb : Below w.heap.size w W) j (hj : j < (d.nums.map u32V).length) => a2.cell hb j hj
  obtain ⟨n1, hn1⟩ : ∃ n, d.names.length = n := ⟨_, rfl⟩
  obtain ⟨n2, hn2⟩ : ∃ n, d.nums.length = n := ⟨_, rfl⟩
  have HL1 := Lib.hid hn1; have HL2 := Lib.hid hn2; have HV1 := Lib.hid (sl.trans hn1)
  have hnb1 : n1 ≤ 1024 := by have := hk.2.1; omega
  have hnb2 : n2 ≤ 1024 := by have := hk.2.2.2.1; omega
  have HNOK := Lib.hid hk.1.2.2.1; have HNB := Lib.hid hk.1.2.2.2.2.1; have HCN := Lib.hid hcn; have HNM := Lib.hid hnm; have HCU := Lib.hid hcu
  have HPF := Lib.hid (parts_few hk)
  rw [List.length_map, sl, hn1, hn2]
  rw [ht]
  have HM := Lib.hid hM
  have hb0 : Below w.heap.size w (w.alloc (.cells #[.int .i64 5, .slice an n1 cn, .slice aw n2 cw, vt, vr] 38)) := (Below.refl _ w).alloc (Nat.le_refl _) _
  have hbx := block_new w (.cells #[.int .i64 5, .slice an n1 cn, .slice aw n2 cw, vt, vr] 38)
  obtain ⟨c0, c1, c2, c3, c4⟩ := cells5' hbx
  have HB0 := Lib.hid hb0
  have HBX := Lib.hid (fun (W : World) (hb : Below (w.alloc (.cells #[.int .i64 5, .slice an n1 cn, .slice aw n2 cw, vt, vr] 38)).heap.size (w.alloc (.cells #[.int .i64 5, .slice an n1 cn, .slice aw n2 cw, vt, vr] 38)) W) => cells5' ((hb.block w.heap.size (by simp)).trans hbx))
  clear hM hb0 hbx a1 a2 a3 a4 hn1 hn2 hk ht sl s1 s2 hcn hnm hcu
  go_enter Tryz.func44, Tryz.ntmps44
  go_wp2_with fail
  obtain ⟨W0, hW0⟩ : ∃ W0, w.alloc (.cells #[.int .i64 5, .slice an n1 cn, .slice aw n2 cw, vt, vr] 38) = W0 := ⟨_, rfl⟩
  rw [hW0] at HBX HB0 ⊢
  clear hW0 c0 c1 c2 c3 c4
  go_loopw [3, 7] (fun u i wr => ∃ (k : Nat) (done : Nm), i = .int .i64 k ∧ k ≤ n1 ∧ OwnG 9 strV wr W0.heap.size u done ∧ Below W0.heap.size W0 wr ∧ Hid (done = (d.names.take k).map textN)) (fun _ i _ => n1 - (intOf i).toNat)
  case atStart => exact ⟨0, [], rfl, Nat.zero_le _, OwnG.nil _ _, Below.refl _ _, Lib.hid rfl⟩
  case round =>
    obtain ⟨k, done, rfl, hk0, hown, hB, HR⟩ := hrel
    obtain ⟨x0, x1, x2, x3, x4⟩ := HBX.out _ hB
    obtain ⟨au, cu, rfl⟩ := hown.shape
    have hdk : done.length = k := by rw [HR.out, List.length_map, List.length_take]; have := HL1.out; omega
    have HD := Lib.hid hdk; clear hdk
    generalize hdl : done.length = dl at *
    have HDL := Lib.hid hdl; clear hdl
    have hBz := hB.size
    have hBw : Below w.heap.size w wr := HB0.out.trans (hB.mono HB0.out.size)
    by_cases hlt : k < n1
    · have hkd : k < d.names.length := by rw [HL1.out]; exact hlt
      have hkv : k < vs.length := by rw [HV1.out]; exact hlt
      obtain ⟨g, off, rfl, hg, hc⟩ := HCN.out wr hBw k hkv
      have hnk := HNM.out wr hBw k hkv hkd
      obtain ⟨⟨pa, pc, ep, _⟩, _⟩ := id hnk
      rw [ep] at hc hnk
      have hT := ref_NameText (.slice pa d.names[k].length pc) d.names[k] wr hnk.1 (HNOK.out _ (List.getElem_mem hkd))
      have hsn := take_map_snoc textN d.names k hkd
      obtain ⟨y, hy⟩ : ∃ y, textN d.names[k] = y := ⟨_, rfl⟩
      rw [hy] at hsn hT
      obtain ⟨pn, hpn⟩ : ∃ n, d.names[k].length = n := ⟨_, rfl⟩
      rw [hpn] at hc hT
      clear hy hpn ep hnk
      have HR2 := Lib.hid (show done ++ [y] = (d.names.take (k + 1)).map textN by rw [HR.out]; exact hsn)
      clear hsn HR
      go_wp2_with (first | (go_at_call 41; refine hT.mono ?_; rintro e w2 ⟨rfl, hb2⟩) | (at_builtin; refine wpl_append_g w2 rfl (.tmp 113) (.tmp 120) elemStr rfl strV_one W0.heap.size (.slice au dl cu) done rfl (hown.below hb2) [.string ⟨y.toArray⟩] [y] (strs_of_y y) 1 1 rfl rfl (Nat.le_trans hBz hb2.size) (by have := HD.out; have := HDL.out; unfold maxLen; simp; omega) (by have := HD.out; have := HDL.out; simp; omega) ?_; intro v3 w3 hown3 hg3; have hB3 : Below W0.heap.size W0 w3 := (hB.trans (hb2.mono hBz)).grown hg3 (Nat.le_trans hBz hb2.size) hown.base_le))
      go_roundw
      case rel => exact ⟨k + 1, done ++ [y], by go_num, by omega, hown3, hB3, HR2⟩
      case measure => simp [intOf]; omega
    · obtain rfl : k = n1 := by omega
      have H1 := Lib.hid (show done = d.names.map textN from by rw [HR.out, List.take_of_length_le (by rw [HL1.out]; exact Nat.le_refl _)])
      have HBs := Lib.hid hB
      obtain ⟨WS, hWS⟩ : ∃ W, wr = W := ⟨_, rfl⟩
      rw [hWS] at hown hB HBs hBw hBz x0 x1 x2 x3 x4 ⊢
      clear hWS HR HD wr
      go_wp2_with fail
      go_loopw [3, 8] (fun u i wr => ∃ (j : Nat) (don2 : Nm), i = .int .i64 j ∧ j ≤ n2 ∧ OwnG 9 strV wr W0.heap.size u don2 ∧ Below W0.heap.size W0 wr ∧ Hid (don2 = done ++ (d.nums.take j).map Lib.decDigits)) (fun _ i _ => n2 - (intOf i).toNat)
      case atStart => exact ⟨0, done, rfl, Nat.zero_le _, HDL.out ▸ hown, HBs.out, Lib.hid (by simp)⟩
      case round =>
        clear x0 x1 x2 x3 x4 hown hB hBw hBz
        obtain ⟨j, don2, rfl, hj0, hown, hB, HR⟩ := hrel
        obtain ⟨x0, x1, x2, x3, x4⟩ := HBX.out _ hB
        obtain ⟨ax, cx, rfl⟩ := hown.shape
        have hdk : don2.length = dl + j := by rw [HR.out, List.length_append, HDL.out, List.length_map, List.length_take]; have := HL2.out; omega
        have HD := Lib.hid hdk; clear hdk
        generalize hdl : don2.length = dm at *
        have HDM := Lib.hid hdl; clear hdl
        have hdn : dl = k := by rw [← HDL.out, H1.out, List.length_map]; exact HL1.out
        have HDN := Lib.hid hdn; clear hdn
        have hBz := hB.size
        have hBw : Below w.heap.size w wr := HB0.out.trans (hB.mono HB0.out.size)
        by_cases hlt2 : j < n2
        · have hkd : j < d.nums.length := by rw [HL2.out]; exact hlt2
          obtain ⟨g2, off2, rfl, hg2, hc2⟩ := HCU.out wr hBw j (by rw [List.length_map]; exact hkd)
          rw [List.getElem_map] at hc2
          have hmb := HNB.out _ (List.getElem_mem hkd)
          have hm0 : (0 : Int) ≤ (d.nums[j] : Int) := by omega
          have hm1 : (d.nums[j] : Int) ≤ 4294967295 := by omega
          have hT := ref_Decimal d.nums[j] wr (by omega)
          have hsn := take_map_snoc Lib.decDigits d.nums j hkd
          obtain ⟨y, hy⟩ : ∃ y, Lib.decDigits d.nums[j] = y := ⟨_, rfl⟩
          rw [hy] at hsn hT
          unfold u32V at hc2
          have hwm : IntKind.i64.wrap (d.nums[j] : Int) = (d.nums[j] : Int) := IntWalk.i64_in _ (by omega)
          clear hy hmb
          generalize d.nums[j] = m at *
          have HR2 := Lib.hid (show don2 ++ [y] = done ++ (d.nums.take (j + 1)).map Lib.decDigits by rw [HR.out, List.append_assoc]; congr 1)
          clear hsn HR
          go_wp2_with (first | (go_at_call 42; refine hT.mono ?_; rintro e w2 ⟨rfl, hb2⟩) | (at_builtin; refine wpl_append_g w2 rfl (.tmp 129) (.tmp 137) elemStr rfl strV_one W0.heap.size (.slice ax dm cx) don2 rfl (hown.below hb2) [.string ⟨y.toArray⟩] [y] (strs_of_y y) 1 1 rfl rfl (Nat.le_trans hBz hb2.size) (by have := HD.out; have := HDM.out; have := HDN.out; unfold maxLen; simp; omega) (by have := HD.out; have := HDM.out; have := HDN.out; simp; omega) ?_; intro v3 w3 hown3 hg3; have hB3 : Below W0.heap.size W0 w3 := (hB.trans (hb2.mono hBz)).grown hg3 (Nat.le_trans hBz hb2.size) hown.base_le))
          go_roundw
          case rel => exact ⟨j + 1, don2 ++ [y], by go_num, by omega, hown3, hB3, HR2⟩
          case measure => simp [intOf]; omega
        · obtain rfl : j = n2 := by omega
          have H0 : Hid (don2 = d.names.map textN ++ d.nums.map Lib.decDigits) := Lib.hid (by rw [HR.out, H1.out, List.take_of_length_le (by rw [HL2.out]; exact Nat.le_refl _)])
          have hJ := ref_Joined (.slice ax dm cx) don2 [32] wr (HDM.out ▸ hown.nmAt.1) (by have := HD.out; have := HDM.out; have := HDN.out; omega) (by
            rw [H0.out]
            exact HLE.out)
          clear HR
          go_wp2_with (go_at_call 93; refine hJ.mono ?_; rintro e w2 ⟨rfl, hb2⟩)
          go_ret
          exact ⟨by rw [HM.out, H0.out]; rfl, hBw.trans (hb2.mono hBw.size)⟩

set_option maxRecDepth 100000 in
set_option maxHeartbeats 8000000 in
theorem reft_n12 (v : Value) (d : Dat) (w : World) (hA : DatAt w v d) (hk : DatFew d) (ht : d.ty = 12) :
    Calls Tryz.prog 44 #[v] w fun e w' => e = .returned (.string ⟨(textD d).toArray⟩) ∧ Below w.heap.size w w' := by
  have hM : textD d = sepBy [32] (d.names.map textN ++ d.nums.map Lib.decDigits) := by unfold textD; rw [ht]; rfl
  obtain ⟨vn, vu, vt, vr, rfl, a1, a2, a3, a4⟩ := hA
  have HLE := Lib.hid (sep_le [32] (d.names.map textN ++ d.nums.map Lib.decDigits) (by have h1 := hk.2.1; have h2 := hk.2.2.2.1; simp; omega) (parts_few hk) (by simp))
  obtain ⟨vs, s1, sl, s2⟩ := id a1
  obtain ⟨an, cn, rfl, _⟩ := id s1
  obtain ⟨aw, cw, rfl, _⟩ := id a2
  have hcn := fun W (hb : Below w.heap.size w W) j (hj : j < vs.length) => s1.cell hb j hj
  have hnm : ∀ W, Below w.heap.size w W → ∀ j (h1 : j < vs.length) (h2 : j < d.names.length), NmAt W vs[j] d.names[j] := fun W hb j h1 _ => (s2 j h1).below hb
  have hcu := fun W (hb : Below w.heap.size w W) j (hj : j < (d.nums.map u32V).length) => a2.cell hb j hj
  obtain ⟨n1, hn1⟩ : ∃ n, d.names.length = n := ⟨_, rfl⟩
  obtain ⟨n2, hn2⟩ : ∃ n, d.nums.length = n := ⟨_, rfl⟩
  have HL1 := Lib.hid hn1; have HL2 := Lib.hid hn2; have HV1 := Lib.hid (sl.trans hn1)
  have hnb1 : n1 ≤ 1024 := by have := hk.2.1; omega
  have hnb2 : n2 ≤ 1024 := by have := hk.2.2.2.1; omega
  have HNOK := Lib.hid hk.1.2.2.1; have HNB := Lib.hid hk.1.2.2.2.2.1; have HCN := Lib.hid hcn; have HNM := Lib.hid hnm; have HCU := Lib.hid hcu
  have HPF := Lib.hid (parts_few hk)
  rw [List.length_map, sl, hn1, hn2]
  rw [ht]
  have HM := Lib.hid hM
  have hb0 : Below w.heap.size w (w.alloc (.cells #[.int .i64 12, .slice an n1 cn, .slice aw n2 cw, vt, vr] 38)) := (Below.refl _ w).alloc (Nat.le_refl _) _
  have hbx := block_new w (.cells #[.int .i64 12, .slice an n1 cn, .slice aw n2 cw, vt, vr] 38)
  obtain ⟨c0, c1, c2, c3, c4⟩ := cells5' hbx
  have HB0 := Lib.hid hb0
  have HBX := Lib.hid (fun (W : World) (hb : Below (w.alloc (.cells #[.int .i64 12, .slice an n1 cn, .slice aw n2 cw, vt, vr] 38)).heap.size (w.alloc (.cells #[.int .i64 12, .slice an n1 cn, .slice aw n2 cw, vt, vr] 38)) W) => cells5' ((hb.block w.heap.size (by simp)).trans hbx))
  clear hM hb0 hbx a1 a2 a3 a4 hn1 hn2 hk ht sl s1 s2 hcn hnm hcu
  go_enter Tryz.func44, Tryz.ntmps44
  go_wp2_with fail
  obtain ⟨W0, hW0⟩ : ∃ W0, w.alloc (.cells #[.int .i64 12, .slice an n1 cn, .slice aw n2 cw, vt, vr] 38) = W0 := ⟨_, rfl⟩
  rw [hW0] at HBX HB0 ⊢
  clear hW0 c0 c1 c2 c3 c4
  go_loopw [3, 7] (fun u i wr => ∃ (k : Nat) (done : Nm), i = .int .i64 k ∧ k ≤ n1 ∧ OwnG 9 strV wr W0.heap.size u done ∧ Below W0.heap.size W0 wr ∧ Hid (done = (d.names.take k).map textN)) (fun _ i _ => n1 - (intOf i).toNat)
  case atStart => exact ⟨0, [], rfl, Nat.zero_le _, OwnG.nil _ _, Below.refl _ _, Lib.hid rfl⟩
  case round =>
    obtain ⟨k, done, rfl, hk0, hown, hB, HR⟩ := hrel
    obtain ⟨x0, x1, x2, x3, x4⟩ := HBX.out _ hB
    obtain ⟨au, cu, rfl⟩ := hown.shape
    have hdk : done.length = k := by rw [HR.out, List.length_map, List.length_take]; have := HL1.out; omega
    have HD := Lib.hid hdk; clear hdk
    generalize hdl : done.length = dl at *
    have HDL := Lib.hid hdl; clear hdl
    have hBz := hB.size
    have hBw : Below w.heap.size w wr := HB0.out.trans (hB.mono HB0.out.size)
    by_cases hlt : k < n1
    · have hkd : k < d.names.length := by rw [HL1.out]; exact hlt
      have hkv : k < vs.length := by rw [HV1.out]; exact hlt
      obtain ⟨g, off, rfl, hg, hc⟩ := HCN.out wr hBw k hkv
      have hnk := HNM.out wr hBw k hkv hkd
      obtain ⟨⟨pa, pc, ep, _⟩, _⟩ := id hnk
      rw [ep] at hc hnk
      have hT := ref_NameText (.slice pa d.names[k].length pc) d.names[k] wr hnk.1 (HNOK.out _ (List.getElem_mem hkd))
      have hsn := take_map_snoc textN d.names k hkd
      obtain ⟨y, hy⟩ : ∃ y, textN d.names[k] = y := ⟨_, rfl⟩
      rw [hy] at hsn hT
      obtain ⟨pn, hpn⟩ : ∃ n, d.names[k].length = n := ⟨_, rfl⟩
      rw [hpn] at hc hT
      clear hy hpn ep hnk
      have HR2 := Lib.hid (show done ++ [y] = (d.names.take (k + 1)).map textN by rw [HR.out]; exact hsn)
      clear hsn HR
      go_wp2_with (first | (go_at_call 41; refine hT.mono ?_; rintro e w2 ⟨rfl, hb2⟩) | (at_builtin; refine wpl_append_g w2 rfl (.tmp 113) (.tmp 120) elemStr rfl strV_one W0.heap.size (.slice au dl cu) done rfl (hown.below hb2) [.string ⟨y.toArray⟩] [y] (strs_of_y y) 1 1 rfl rfl (Nat.le_trans hBz hb2.size) (by have := HD.out; have := HDL.out; unfold maxLen; simp; omega) (by have := HD.out; have := HDL.out; simp; omega) ?_; intro v3 w3 hown3 hg3; have hB3 : Below W0.heap.size W0 w3 := (hB.trans (hb2.mono hBz)).grown hg3 (Nat.le_trans hBz hb2.size) hown.base_le))
      go_roundw
      case rel => exact ⟨k + 1, done ++ [y], by go_num, by omega, hown3, hB3, HR2⟩
      case measure => simp [intOf]; omega
    · obtain rfl : k = n1 := by omega
      have H1 := Lib.hid (show done = d.names.map textN from by rw [HR.out, List.take_of_length_le (by rw [HL1.out]; exact Nat.le_refl _)])
      have HBs := Lib.hid hB
      obtain ⟨WS, hWS⟩ : ∃ W, wr = W := ⟨_, rfl⟩
      rw [hWS] at hown hB HBs hBw hBz x0 x1 x2 x3 x4 ⊢
      clear hWS HR HD wr
      go_wp2_with fail
      go_loopw [3, 8] (fun u i wr => ∃ (j : Nat) (don2 : Nm), i = .int .i64 j ∧ j ≤ n2 ∧ OwnG 9 strV wr W0.heap.size u don2 ∧ Below W0.heap.size W0 wr ∧ Hid (don2 = done ++ (d.nums.take j).map Lib.decDigits)) (fun _ i _ => n2 - (intOf i).toNat)
      case atStart => exact ⟨0, done, rfl, Nat.zero_le _, HDL.out ▸ hown, HBs.out, Lib.hid (by simp)⟩
      case round =>
        clear x0 x1 x2 x3 x4 hown hB hBw hBz
        obtain ⟨j, don2, rfl, hj0, hown, hB, HR⟩ := hrel
        obtain ⟨x0, x1, x2, x3, x4⟩ := HBX.out _ hB
        obtain ⟨ax, cx, rfl⟩ := hown.shape
        have hdk : don2.length = dl + j := by rw [HR.out, List.length_append, HDL.out, List.length_map, List.length_take]; have := HL2.out; omega
        have HD := Lib.hid hdk; clear hdk
        generalize hdl : don2.length = dm at *
        have HDM := Lib.hid hdl; clear hdl
        have hdn : dl = k := by rw [← HDL.out, H1.out, List.length_map]; exact HL1.out
        have HDN := Lib.hid hdn; clear hdn
        have hBz := hB.size
        have hBw : Below w.heap.size w wr := HB0.out.trans (hB.mono HB0.out.size)
        by_cases hlt2 : j < n2
        · have hkd : j < d.nums.length := by rw [HL2.out]; exact hlt2
          obtain ⟨g2, off2, rfl, hg2, hc2⟩ := HCU.out wr hBw j (by rw [List.length_map]; exact hkd)
          rw [List.getElem_map] at hc2
          have hmb := HNB.out _ (List.getElem_mem hkd)
          have hm0 : (0 : Int) ≤ (d.nums[j] : Int) := by omega
          have hm1 : (d.nums[j] : Int) ≤ 4294967295 := by omega
          have hT := ref_Decimal d.nums[j] wr (by omega)
          have hsn := take_map_snoc Lib.decDigits d.nums j hkd
          obtain ⟨y, hy⟩ : ∃ y, Lib.decDigits d.nums[j] = y := ⟨_, rfl⟩
          rw [hy] at hsn hT
          unfold u32V at hc2
          have hwm : IntKind.i64.wrap (d.nums[j] : Int) = (d.nums[j] : Int) := IntWalk.i64_in _ (by omega)
          clear hy hmb
          generalize d.nums[j] = m at *
          have HR2 := Lib.hid (show don2 ++ [y] = done ++ (d.nums.take (j + 1)).map Lib.decDigits by rw [HR.out, List.append_assoc]; congr 1)
          clear hsn HR
          go_wp2_with (first | (go_at_call 42; refine hT.mono ?_; rintro e w2 ⟨rfl, hb2⟩) | (at_builtin; refine wpl_append_g w2 rfl (.tmp 129) (.tmp 137) elemStr rfl strV_one W0.heap.size (.slice ax dm cx) don2 rfl (hown.below hb2) [.string ⟨y.toArray⟩] [y] (strs_of_y y) 1 1 rfl rfl (Nat.le_trans hBz hb2.size) (by have := HD.out; have := HDM.out; have := HDN.out; unfold maxLen; simp; omega) (by have := HD.out; have := HDM.out; have := HDN.out; simp; omega) ?_; intro v3 w3 hown3 hg3; have hB3 : Below W0.heap.size W0 w3 := (hB.trans (hb2.mono hBz)).grown hg3 (Nat.le_trans hBz hb2.size) hown.base_le))
          go_roundw
          case rel => exact ⟨j + 1, don2 ++ [y], by go_num, by omega, hown3, hB3, HR2⟩
          case measure => simp [intOf]; omega
        · obtain rfl : j = n2 := by omega
          have H0 : Hid (don2 = d.names.map textN ++ d.nums.map Lib.decDigits) := Lib.hid (by rw [HR.out, H1.out, List.take_of_length_le (by rw [HL2.out]; exact Nat.le_refl _)])
          have hJ := ref_Joined (.slice ax dm cx) don2 [32] wr (HDM.out ▸ hown.nmAt.1) (by have := HD.out; have := HDM.out; have := HDN.out; omega) (by
            rw [H0.out]
            exact HLE.out)
          clear HR
          go_wp2_with (go_at_call 93; refine hJ.mono ?_; rintro e w2 ⟨rfl, hb2⟩)
          go_ret
          exact ⟨by rw [HM.out, H0.out]; rfl, hBw.trans (hb2.mono hBw.size)⟩

set_option maxRecDepth 100000 in
set_option maxHeartbeats 8000000 in
theorem reft_n39 (v : Value) (d : Dat) (w : World) (hA : DatAt w v d) (hk : DatFew d) (ht : d.ty = 39) :
    Calls Tryz.prog 44 #[v] w fun e w' => e = .returned (.string ⟨(textD d).toArray⟩) ∧ Below w.heap.size w w' := by
  have hM : textD d = sepBy [32] (d.names.map textN ++ d.nums.map Lib.decDigits) := by unfold textD; rw [ht]; rfl
  obtain ⟨vn, vu, vt, vr, rfl, a1, a2, a3, a4⟩ := hA
  have HLE := Lib.hid (sep_le [32] (d.names.map textN ++ d.nums.map Lib.decDigits) (by have h1 := hk.2.1; have h2 := hk.2.2.2.1; simp; omega) (parts_few hk) (by simp))
  obtain ⟨vs, s1, sl, s2⟩ := id a1
  obtain ⟨an, cn, rfl, _⟩ := id s1
  obtain ⟨aw, cw, rfl, _⟩ := id a2
  have hcn := fun W (hb : Below w.heap.size w W) j (hj : j < vs.length) => s1.cell hb j hj
  have hnm : ∀ W, Below w.heap.size w W → ∀ j (h1 : j < vs.length) (h2 : j < d.names.length), NmAt W vs[j] d.names[j] := fun W hb j h1 _ => (s2 j h1).below hb
  have hcu := fun W (hb : Below w.heap.size w W) j (hj : j < (d.nums.map u32V).length) => a2.cell hb j hj
  obtain ⟨n1, hn1⟩ : ∃ n, d.names.length = n := ⟨_, rfl⟩
  obtain ⟨n2, hn2⟩ : ∃ n, d.nums.length = n := ⟨_, rfl⟩
  have HL1 := Lib.hid hn1; have HL2 := Lib.hid hn2; have HV1 := Lib.hid (sl.trans hn1)
  have hnb1 : n1 ≤ 1024 := by have := hk.2.1; omega
  have hnb2 : n2 ≤ 1024 := by have := hk.2.2.2.1; omega
  have HNOK := Lib.hid hk.1.2.2.1; have HNB := Lib.hid hk.1.2.2.2.2.1; have HCN := Lib.hid hcn; have HNM := Lib.hid hnm; have HCU := Lib.hid hcu
  have HPF := Lib.hid (parts_few hk)
  rw [List.length_map, sl, hn1, hn2]
  rw [ht]
  have HM := Lib.hid hM
  have hb0 : Below w.heap.size w (w.alloc (.cells #[.int .i64 39, .slice an n1 cn, .slice aw n2 cw, vt, vr] 38)) := (Below.refl _ w).alloc (Nat.le_refl _) _
  have hbx := block_new w (.cells #[.int .i64 39, .slice an n1 cn, .slice aw n2 cw, vt, vr] 38)
  obtain ⟨c0, c1, c2, c3, c4⟩ := cells5' hbx
  have HB0 := Lib.hid hb0
  have HBX := Lib.hid (fun (W : World) (hb : Below (w.alloc (.cells #[.int .i64 39, .slice an n1 cn, .slice aw n2 cw, vt, vr] 38)).heap.size (w.alloc (.cells #[.int .i64 39, .slice an n1 cn, .slice aw n2 cw, vt, vr] 38)) W) => cells5' ((hb.block w.heap.size (by simp)).trans hbx))
  clear hM hb0 hbx a1 a2 a3 a4 hn1 hn2 hk ht sl s1 s2 hcn hnm hcu
  go_enter Tryz.func44, Tryz.ntmps44
  go_wp2_with fail
  obtain ⟨W0, hW0⟩ : ∃ W0, w.alloc (.cells #[.int .i64 39, .slice an n1 cn, .slice aw n2 cw, vt, vr] 38) = W0 := ⟨_, rfl⟩
  rw [hW0] at HBX HB0 ⊢
  clear hW0 c0 c1 c2 c3 c4
  go_loopw [3, 7] (fun u i wr => ∃ (k : Nat) (done : Nm), i = .int .i64 k ∧ k ≤ n1 ∧ OwnG 9 strV wr W0.heap.size u done ∧ Below W0.heap.size W0 wr ∧ Hid (done = (d.names.take k).map textN)) (fun _ i _ => n1 - (intOf i).toNat)
  case atStart => exact ⟨0, [], rfl, Nat.zero_le _, OwnG.nil _ _, Below.refl _ _, Lib.hid rfl⟩
  case round =>
    obtain ⟨k, done, rfl, hk0, hown, hB, HR⟩ := hrel
    obtain ⟨x0, x1, x2, x3, x4⟩ := HBX.out _ hB
    obtain ⟨au, cu, rfl⟩ := hown.shape
    have hdk : done.length = k := by rw [HR.out, List.length_map, List.length_take]; have := HL1.out; omega
    have HD := Lib.hid hdk; clear hdk
    generalize hdl : done.length = dl at *
    have HDL := Lib.hid hdl; clear hdl
    have hBz := hB.size
    have hBw : Below w.heap.size w wr := HB0.out.trans (hB.mono HB0.out.size)
    by_cases hlt : k < n1
    · have hkd : k < d.names.length := by rw [HL1.out]; exact hlt
      have hkv : k < vs.length := by rw [HV1.out]; exact hlt
      obtain ⟨g, off, rfl, hg, hc⟩ := HCN.out wr hBw k hkv
      have hnk := HNM.out wr hBw k hkv hkd
      obtain ⟨⟨pa, pc, ep, _⟩, _⟩ := id hnk
      rw [ep] at hc hnk
      have hT := ref_NameText (.slice pa d.names[k].length pc) d.names[k] wr hnk.1 (HNOK.out _ (List.getElem_mem hkd))
      have hsn := take_map_snoc textN d.names k hkd
      obtain ⟨y, hy⟩ : ∃ y, textN d.names[k] = y := ⟨_, rfl⟩
      rw [hy] at hsn hT
      obtain ⟨pn, hpn⟩ : ∃ n, d.names[k].length = n := ⟨_, rfl⟩
      rw [hpn] at hc hT
      clear hy hpn ep hnk
      have HR2 := Lib.hid (show done ++ [y] = (d.names.take (k + 1)).map textN by rw [HR.out]; exact hsn)
      clear hsn HR
      go_wp2_with (first | (go_at_call 41; refine hT.mono ?_; rintro e w2 ⟨rfl, hb2⟩) | (at_builtin; refine wpl_append_g w2 rfl (.tmp 113) (.tmp 120) elemStr rfl strV_one W0.heap.size (.slice au dl cu) done rfl (hown.below hb2) [.string ⟨y.toArray⟩] [y] (strs_of_y y) 1 1 rfl rfl (Nat.le_trans hBz hb2.size) (by have := HD.out; have := HDL.out; unfold maxLen; simp; omega) (by have := HD.out; have := HDL.out; simp; omega) ?_; intro v3 w3 hown3 hg3; have hB3 : Below W0.heap.size W0 w3 := (hB.trans (hb2.mono hBz)).grown hg3 (Nat.le_trans hBz hb2.size) hown.base_le))
      go_roundw
      case rel => exact ⟨k + 1, done ++ [y], by go_num, by omega, hown3, hB3, HR2⟩
      case measure => simp [intOf]; omega
    · obtain rfl : k = n1 := by omega
      have H1 := Lib.hid (show done = d.names.map textN from by rw [HR.out, List.take_of_length_le (by rw [HL1.out]; exact Nat.le_refl _)])
      have HBs := Lib.hid hB
      obtain ⟨WS, hWS⟩ : ∃ W, wr = W := ⟨_, rfl⟩
      rw [hWS] at hown hB HBs hBw hBz x0 x1 x2 x3 x4 ⊢
      clear hWS HR HD wr
      go_wp2_with fail
      go_loopw [3, 8] (fun u i wr => ∃ (j : Nat) (don2 : Nm), i = .int .i64 j ∧ j ≤ n2 ∧ OwnG 9 strV wr W0.heap.size u don2 ∧ Below W0.heap.size W0 wr ∧ Hid (don2 = done ++ (d.nums.take j).map Lib.decDigits)) (fun _ i _ => n2 - (intOf i).toNat)
      case atStart => exact ⟨0, done, rfl, Nat.zero_le _, HDL.out ▸ hown, HBs.out, Lib.hid (by simp)⟩
      case round =>
        clear x0 x1 x2 x3 x4 hown hB hBw hBz
        obtain ⟨j, don2, rfl, hj0, hown, hB, HR⟩ := hrel
        obtain ⟨x0, x1, x2, x3, x4⟩ := HBX.out _ hB
        obtain ⟨ax, cx, rfl⟩ := hown.shape
        have hdk : don2.length = dl + j := by rw [HR.out, List.length_append, HDL.out, List.length_map, List.length_take]; have := HL2.out; omega
        have HD := Lib.hid hdk; clear hdk
        generalize hdl : don2.length = dm at *
        have HDM := Lib.hid hdl; clear hdl
        have hdn : dl = k := by rw [← HDL.out, H1.out, List.length_map]; exact HL1.out
        have HDN := Lib.hid hdn; clear hdn
        have hBz := hB.size
        have hBw : Below w.heap.size w wr := HB0.out.trans (hB.mono HB0.out.size)
        by_cases hlt2 : j < n2
        · have hkd : j < d.nums.length := by rw [HL2.out]; exact hlt2
          obtain ⟨g2, off2, rfl, hg2, hc2⟩ := HCU.out wr hBw j (by rw [List.length_map]; exact hkd)
          rw [List.getElem_map] at hc2
          have hmb := HNB.out _ (List.getElem_mem hkd)
          have hm0 : (0 : Int) ≤ (d.nums[j] : Int) := by omega
          have hm1 : (d.nums[j] : Int) ≤ 4294967295 := by omega
          have hT := ref_Decimal d.nums[j] wr (by omega)
          have hsn := take_map_snoc Lib.decDigits d.nums j hkd
          obtain ⟨y, hy⟩ : ∃ y, Lib.decDigits d.nums[j] = y := ⟨_, rfl⟩
          rw [hy] at hsn hT
          unfold u32V at hc2
          have hwm : IntKind.i64.wrap (d.nums[j] : Int) = (d.nums[j] : Int) := IntWalk.i64_in _ (by omega)
          clear hy hmb
          generalize d.nums[j] = m at *
          have HR2 := Lib.hid (show don2 ++ [y] = done ++ (d.nums.take (j + 1)).map Lib.decDigits by rw [HR.out, List.append_assoc]; congr 1)
          clear hsn HR
          go_wp2_with (first | (go_at_call 42; refine hT.mono ?_; rintro e w2 ⟨rfl, hb2⟩) | (at_builtin; refine wpl_append_g w2 rfl (.tmp 129) (.tmp 137) elemStr rfl strV_one W0.heap.size (.slice ax dm cx) don2 rfl (hown.below hb2) [.string ⟨y.toArray⟩] [y] (strs_of_y y) 1 1 rfl rfl (Nat.le_trans hBz hb2.size) (by have := HD.out; have := HDM.out; have := HDN.out; unfold maxLen; simp; omega) (by have := HD.out; have := HDM.out; have := HDN.out; simp; omega) ?_; intro v3 w3 hown3 hg3; have hB3 : Below W0.heap.size W0 w3 := (hB.trans (hb2.mono hBz)).grown hg3 (Nat.le_trans hBz hb2.size) hown.base_le))
          go_roundw
          case rel => exact ⟨j + 1, don2 ++ [y], by go_num, by omega, hown3, hB3, HR2⟩
          case measure => simp [intOf]; omega
        · obtain rfl : j = n2 := by omega
          have H0 : Hid (don2 = d.names.map textN ++ d.nums.map Lib.decDigits) := Lib.hid (by rw [HR.out, H1.out, List.take_of_length_le (by rw [HL2.out]; exact Nat.le_refl _)])
          have hJ := ref_Joined (.slice ax dm cx) don2 [32] wr (HDM.out ▸ hown.nmAt.1) (by have := HD.out; have := HDM.out; have := HDN.out; omega) (by
            rw [H0.out]
            exact HLE.out)
          clear HR
          go_wp2_with (go_at_call 93; refine hJ.mono ?_; rintro e w2 ⟨rfl, hb2⟩)
          go_ret
          exact ⟨by rw [HM.out, H0.out]; rfl, hBw.trans (hb2.mono hBw.size)⟩

set_option maxRecDepth 100000 in
set_option maxHeartbeats 8000000 in
theorem reft_n6 (v : Value) (d : Dat) (w : World) (hA : DatAt w v d) (hk : DatFew d) (ht : d.ty = 6) :
    Calls Tryz.prog 44 #[v] w fun e w' => e = .returned (.string ⟨(textD d).toArray⟩) ∧ Below w.heap.size w w' := by
  have hM : textD d = sepBy [32] (d.names.map textN ++ d.nums.map Lib.decDigits) := by unfold textD; rw [ht]; rfl
  obtain ⟨vn, vu, vt, vr, rfl, a1, a2, a3, a4⟩ := hA
  have HLE := Lib.hid (sep_le [32] (d.names.map textN ++ d.nums.map Lib.decDigits) (by have h1 := hk.2.1; have h2 := hk.2.2.2.1; simp; omega) (parts_few hk) (by simp))
  obtain ⟨vs, s1, sl, s2⟩ := id a1
  obtain ⟨an, cn, rfl, _⟩ := id s1
  obtain ⟨aw, cw, rfl, _⟩ := id a2
  have hcn := fun W (hb : Below w.heap.size w W) j (hj : j < vs.length) => s1.cell hb j hj
  have hnm : ∀ W, Below w.heap.size w W → ∀ j (h1 : j < vs.length) (h2 : j < d.names.length), NmAt W vs[j] d.names[j] := fun W hb j h1 _ => (s2 j h1).below hb
  have hcu := fun W (hb : Below w.heap.size w W) j (hj : j < (d.nums.map u32V).length) => a2.cell hb j hj
  obtain ⟨n1, hn1⟩ : ∃ n, d.names.length = n := ⟨_, rfl⟩
  obtain ⟨n2, hn2⟩ : ∃ n, d.nums.length = n := ⟨_, rfl⟩
  have HL1 := Lib.hid hn1; have HL2 := Lib.hid hn2; have HV1 := Lib.hid (sl.trans hn1)
  have hnb1 : n1 ≤ 1024 := by have := hk.2.1; omega
  have hnb2 : n2 ≤ 1024 := by have := hk.2.2.2.1; omega
  have HNOK := Lib.hid hk.1.2.2.1; have HNB := Lib.hid hk.1.2.2.2.2.1; have HCN := Lib.hid hcn; have HNM := Lib.hid hnm; have HCU := Lib.hid hcu
  have HPF := Lib.hid (parts_few hk)
  rw [List.length_map, sl, hn1, hn2]
  rw [ht]
  have HM := Lib.hid hM
  have hb0 : Below w.heap.size w (w.alloc (.cells #[.int .i64 6, .slice an n1 cn, .slice aw n2 cw, vt, vr] 38)) := (Below.refl _ w).alloc (Nat.le_refl _) _
  have hbx := block_new w (.cells #[.int .i64 6, .slice an n1 cn, .slice aw n2 cw, vt, vr] 38)
  obtain ⟨c0, c1, c2, c3, c4⟩ := cells5' hbx
  have HB0 := Lib.hid hb0
  have HBX := Lib.hid (fun (W : World) (hb : Below (w.alloc (.cells #[.int .i64 6, .slice an n1 cn, .slice aw n2 cw, vt, vr] 38)).heap.size (w.alloc (.cells #[.int .i64 6, .slice an n1 cn, .slice aw n2 cw, vt, vr] 38)) W) => cells5' ((hb.block w.heap.size (by simp)).trans hbx))
  clear hM hb0 hbx a1 a2 a3 a4 hn1 hn2 hk ht sl s1 s2 hcn hnm hcu
  go_enter Tryz.func44, Tryz.ntmps44
  go_wp2_with fail
  obtain ⟨W0, hW0⟩ : ∃ W0, w.alloc (.cells #[.int .i64 6, .slice an n1 cn, .slice aw n2 cw, vt, vr] 38) = W0 := ⟨_, rfl⟩
  rw [hW0] at HBX HB0 ⊢
  clear hW0 c0 c1 c2 c3 c4
  go_loopw [3, 7] (fun u i wr => ∃ (k : Nat) (done : Nm), i = .int .i64 k ∧ k ≤ n1 ∧ OwnG 9 strV wr W0.heap.size u done ∧ Below W0.heap.size W0 wr ∧ Hid (done = (d.names.take k).map textN)) (fun _ i _ => n1 - (intOf i).toNat)
  case atStart => exact ⟨0, [], rfl, Nat.zero_le _, OwnG.nil _ _, Below.refl _ _, Lib.hid rfl⟩
  case round =>
    obtain ⟨k, done, rfl, hk0, hown, hB, HR⟩ := hrel
    obtain ⟨x0, x1, x2, x3, x4⟩ := HBX.out _ hB
    obtain ⟨au, cu, rfl⟩ := hown.shape
    have hdk : done.length = k := by rw [HR.out, List.length_map, List.length_take]; have := HL1.out; omega
    have HD := Lib.hid hdk; clear hdk
    generalize hdl : done.length = dl at *
    have HDL := Lib.hid hdl; clear hdl
    have hBz := hB.size
    have hBw : Below w.heap.size w wr := HB0.out.trans (hB.mono HB0.out.size)
    by_cases hlt : k < n1
    · have hkd : k < d.names.length := by rw [HL1.out]; exact hlt
      have hkv : k < vs.length := by rw [HV1.out]; exact hlt
      obtain ⟨g, off, rfl, hg, hc⟩ := HCN.out wr hBw k hkv
      have hnk := HNM.out wr hBw k hkv hkd
      obtain ⟨⟨pa, pc, ep, _⟩, _⟩ := id hnk
      rw [ep] at hc hnk
      have hT := ref_NameText (.slice pa d.names[k].length pc) d.names[k] wr hnk.1 (HNOK.out _ (List.getElem_mem hkd))
      have hsn := take_map_snoc textN d.names k hkd
      obtain ⟨y, hy⟩ : ∃ y, textN d.names[k] = y := ⟨_, rfl⟩
      rw [hy] at hsn hT
      obtain ⟨pn, hpn⟩ : ∃ n, d.names[k].length = n := ⟨_, rfl⟩
      rw [hpn] at hc hT
      clear hy hpn ep hnk
      have HR2 := Lib.hid (show done ++ [y] = (d.names.take (k + 1)).map textN by rw [HR.out]; exact hsn)
      clear hsn HR
      go_wp2_with (first | (go_at_call 41; refine hT.mono ?_; rintro e w2 ⟨rfl, hb2⟩) | (at_builtin; refine wpl_append_g w2 rfl (.tmp 113) (.tmp 120) elemStr rfl strV_one W0.heap.size (.slice au dl cu) done rfl (hown.below hb2) [.string ⟨y.toArray⟩] [y] (strs_of_y y) 1 1 rfl rfl (Nat.le_trans hBz hb2.size) (by have := HD.out; have := HDL.out; unfold maxLen; simp; omega) (by have := HD.out; have := HDL.out; simp; omega) ?_; intro v3 w3 hown3 hg3; have hB3 : Below W0.heap.size W0 w3 := (hB.trans (hb2.mono hBz)).grown hg3 (Nat.le_trans hBz hb2.size) hown.base_le))
      go_roundw
      case rel => exact ⟨k + 1, done ++ [y], by go_num, by omega, hown3, hB3, HR2⟩
      case measure => simp [intOf]; omega
    · obtain rfl : k = n1 := by omega
      have H1 := Lib.hid (show done = d.names.map textN from by rw [HR.out, List.take_of_length_le (by rw [HL1.out]; exact Nat.le_refl _)])
      have HBs := Lib.hid hB
      obtain ⟨WS, hWS⟩ : ∃ W, wr = W := ⟨_, rfl⟩
      rw [hWS] at hown hB HBs hBw hBz x0 x1 x2 x3 x4 ⊢
      clear hWS HR HD wr
      go_wp2_with fail
      go_loopw [3, 8] (fun u i wr => ∃ (j : Nat) (don2 : Nm), i = .int .i64 j ∧ j ≤ n2 ∧ OwnG 9 strV wr W0.heap.size u don2 ∧ Below W0.heap.size W0 wr ∧ Hid (don2 = done ++ (d.nums.take j).map Lib.decDigits)) (fun _ i _ => n2 - (intOf i).toNat)
      case atStart => exact ⟨0, done, rfl, Nat.zero_le _, HDL.out ▸ hown, HBs.out, Lib.hid (by simp)⟩
      case round =>
        clear x0 x1 x2 x3 x4 hown hB hBw hBz
        obtain ⟨j, don2, rfl, hj0, hown, hB, HR⟩ := hrel
        obtain ⟨x0, x1, x2, x3, x4⟩ := HBX.out _ hB
        obtain ⟨ax, cx, rfl⟩ := hown.shape
        have hdk : don2.length = dl + j := by rw [HR.out, List.length_append, HDL.out, List.length_map, List.length_take]; have := HL2.out; omega
        have HD := Lib.hid hdk; clear hdk
        generalize hdl : don2.length = dm at *
        have HDM := Lib.hid hdl; clear hdl
        have hdn : dl = k := by rw [← HDL.out, H1.out, List.length_map]; exact HL1.out
        have HDN := Lib.hid hdn; clear hdn
        have hBz := hB.size
        have hBw : Below w.heap.size w wr := HB0.out.trans (hB.mono HB0.out.size)
        by_cases hlt2 : j < n2
        · have hkd : j < d.nums.length := by rw [HL2.out]; exact hlt2
          obtain ⟨g2, off2, rfl, hg2, hc2⟩ := HCU.out wr hBw j (by rw [List.length_map]; exact hkd)
          rw [List.getElem_map] at hc2
          have hmb := HNB.out _ (List.getElem_mem hkd)
          have hm0 : (0 : Int) ≤ (d.nums[j] : Int) := by omega
          have hm1 : (d.nums[j] : Int) ≤ 4294967295 := by omega
          have hT := ref_Decimal d.nums[j] wr (by omega)
          have hsn := take_map_snoc Lib.decDigits d.nums j hkd
          obtain ⟨y, hy⟩ : ∃ y, Lib.decDigits d.nums[j] = y := ⟨_, rfl⟩
          rw [hy] at hsn hT
          unfold u32V at hc2
          have hwm : IntKind.i64.wrap (d.nums[j] : Int) = (d.nums[j] : Int) := IntWalk.i64_in _ (by omega)
          clear hy hmb
          generalize d.nums[j] = m at *
          have HR2 := Lib.hid (show don2 ++ [y] = done ++ (d.nums.take (j + 1)).map Lib.decDigits by rw [HR.out, List.append_assoc]; congr 1)
          clear hsn HR
          go_wp2_with (first | (go_at_call 42; refine hT.mono ?_; rintro e w2 ⟨rfl, hb2⟩) | (at_builtin; refine wpl_append_g w2 rfl (.tmp 129) (.tmp 137) elemStr rfl strV_one W0.heap.size (.slice ax dm cx) don2 rfl (hown.below hb2) [.string ⟨y.toArray⟩] [y] (strs_of_y y) 1 1 rfl rfl (Nat.le_trans hBz hb2.size) (by have := HD.out; have := HDM.out; have := HDN.out; unfold maxLen; simp; omega) (by have := HD.out; have := HDM.out; have := HDN.out; simp; omega) ?_; intro v3 w3 hown3 hg3; have hB3 : Below W0.heap.size W0 w3 := (hB.trans (hb2.mono hBz)).grown hg3 (Nat.le_trans hBz hb2.size) hown.base_le))
          go_roundw
          case rel => exact ⟨j + 1, don2 ++ [y], by go_num, by omega, hown3, hB3, HR2⟩
          case measure => simp [intOf]; omega
        · obtain rfl : j = n2 := by omega
          have H0 : Hid (don2 = d.names.map textN ++ d.nums.map Lib.decDigits) := Lib.hid (by rw [HR.out, H1.out, List.take_of_length_le (by rw [HL2.out]; exact Nat.le_refl _)])
          have hJ := ref_Joined (.slice ax dm cx) don2 [32] wr (HDM.out ▸ hown.nmAt.1) (by have := HD.out; have := HDM.out; have := HDN.out; omega) (by
            rw [H0.out]
            exact HLE.out)
          clear HR
          go_wp2_with (go_at_call 93; refine hJ.mono ?_; rintro e w2 ⟨rfl, hb2⟩)
          go_ret
          exact ⟨by rw [HM.out, H0.out]; rfl, hBw.trans (hb2.mono hBw.size)⟩

set_option maxRecDepth 100000 in
set_option maxHeartbeats 8000000 in
theorem reft_o (v : Value) (d : Dat) (w : World) (hA : DatAt w v d) (hk : DatFew d) (ht : d.ty ≠ 1 ∧ d.ty ≠ 28 ∧ d.ty ≠ 2 ∧ d.ty ≠ 5 ∧ d.ty ≠ 12 ∧ d.ty ≠ 39 ∧ d.ty ≠ 6 ∧ d.ty ≠ 15 ∧ d.ty ≠ 16) :
    Calls Tryz.prog 44 #[v] w fun e w' => e = .returned (.string ⟨(textD d).toArray⟩) ∧ Below w.heap.size w w' := by
  have hM : textD d = octetWordsM d.raw := by (obtain ⟨h1, h2, h3, h4, h5, h6, h7, h8, h9⟩ := ht; unfold textD; rw [if_neg h1, if_neg h2, if_neg (by simp [*]), if_neg h8, if_neg h9])
  obtain ⟨vn, vu, vt, vr, rfl, a1, a2, a3, a4⟩ := hA
  have n1 : (d.ty == 1) = false := by simp; omega
  have n28 : (d.ty == 28) = false := by simp; omega
  have n2 : (d.ty == 2) = false := by simp; omega
  have n5 : (d.ty == 5) = false := by simp; omega
  have n12 : (d.ty == 12) = false := by simp; omega
  have n39 : (d.ty == 39) = false := by simp; omega
  have n6 : (d.ty == 6) = false := by simp; omega
  have n15 : (d.ty == 15) = false := by simp; omega
  have n16 : (d.ty == 16) = false := by simp; omega
  obtain ⟨ar, cr, rfl, _⟩ := id a4
  have hcell := fun W (hb : Below w.heap.size w W) j (hj : j < (d.raw.map bv).length) => a4.cell hb j hj
  obtain ⟨n, hn⟩ : ∃ n, d.raw.length = n := ⟨_, rfl⟩
  have HL := Lib.hid hn
  have hnb : n ≤ 1048576 := by have := hk.1.2.2.2.2.2.2; omega
  rw [List.length_map, hn]
  have hdl := dec_len n (by omega)
  have hT := fun W => ref_Decimal n W (by omega)
  have hn0i : (0 : Int) ≤ (n : Int) := by omega
  have hwn : IntKind.i64.wrap (n : Int) = (n : Int) := IntWalk.i64_in _ (by omega)
  obtain ⟨y, hy⟩ : ∃ y, Lib.decDigits n = y := ⟨_, rfl⟩
  rw [hy] at hT hdl
  have hO : octetWordsM d.raw = [92, 35, 32] ++ y ++ (if d.raw = [] then [] else 32 :: d.raw.flatMap hex2) := by unfold octetWordsM; rw [hn, hy]
  rw [hO] at hM
  have A1 : ∀ W, (Op.stringOp .add ⟨#[92, 35, 32]⟩ ⟨y.toArray⟩).run Tryz.prog W = .ok (.string ⟨(92 :: 35 :: 32 :: y).toArray⟩) W := fun W => by
    have h := run_string_add_sum (P := Tryz.prog) W (⟨#[92, 35, 32]⟩ : ByteArray) (⟨y.toArray⟩ : ByteArray) (by rw [mk_size y]; show 3 + _ ≤ _; omega)
    have e : (⟨#[92, 35, 32]⟩ : ByteArray) ++ ⟨y.toArray⟩ = ⟨(92 :: 35 :: 32 :: y).toArray⟩ := mk_append [92, 35, 32] y
    rw [e] at h; exact h
  have A2 : ∀ W, (Op.stringOp .add ⟨(92 :: 35 :: 32 :: y).toArray⟩ ⟨#[32]⟩).run Tryz.prog W = .ok (.string ⟨(92 :: 35 :: 32 :: (y ++ [32])).toArray⟩) W := fun W => by
    have h := run_string_add_sum (P := Tryz.prog) W (⟨(92 :: 35 :: 32 :: y).toArray⟩ : ByteArray) (⟨#[32]⟩ : ByteArray) (by rw [mk_size]; show _ + 1 ≤ _; simp; omega)
    have e : (⟨(92 :: 35 :: 32 :: y).toArray⟩ : ByteArray) ++ ⟨#[32]⟩ = ⟨(92 :: 35 :: 32 :: (y ++ [32])).toArray⟩ := mk_append (92 :: 35 :: 32 :: y) [32]
    rw [e] at h; exact h
  have hDL := Lib.hid hdl
  clear hO hy hn hdl
  generalize d.ty = x at *
  have HM := Lib.hid hM
  have hb0 : Below w.heap.size w (w.alloc (.cells #[.int .i64 x, vn, vu, vt, .slice ar n cr] 38)) := (Below.refl _ w).alloc (Nat.le_refl _) _
  have hbx := block_new w (.cells #[.int .i64 x, vn, vu, vt, .slice ar n cr] 38)
  obtain ⟨c0, c1, c2, c3, c4⟩ := cells5' hbx
  have HB0 := Lib.hid hb0
  have HBX := Lib.hid (fun (W : World) (hb : Below (w.alloc (.cells #[.int .i64 x, vn, vu, vt, .slice ar n cr] 38)).heap.size (w.alloc (.cells #[.int .i64 x, vn, vu, vt, .slice ar n cr] 38)) W) => cells5' ((hb.block w.heap.size (by simp)).trans hbx))
  clear hM hb0 hbx a1 a2 a3 a4 hk ht
  have HT := Lib.hid hT
  have HA4 := Lib.hid hcell
  have hcs : (n = 0 ∧ Hid (textD d = (92 :: 35 :: 32 :: y) ++ d.raw.flatMap hex2)) ∨ ((0 : Int) < (n : Int) ∧ Hid (textD d = (92 :: 35 :: 32 :: (y ++ [32])) ++ d.raw.flatMap hex2)) := by
    by_cases hz : n = 0
    · have e : d.raw = [] := List.eq_nil_of_length_eq_zero (by rw [HL.out]; exact hz)
      exact .inl ⟨hz, Lib.hid (by rw [HM.out, if_pos e, e]; simp)⟩
    · have e : d.raw ≠ [] := fun e => hz (by rw [← HL.out, e]; rfl)
      exact .inr ⟨by omega, Lib.hid (by rw [HM.out, if_neg e]; simp)⟩
  clear hT HM hcell
  rcases hcs with ⟨hz, HPD⟩ | ⟨hpos, HPD⟩
  · subst hz
    go_enter Tryz.func44, Tryz.ntmps44
    go_wp2_with (go_at_call 42; refine (HT.out _).mono ?_; rintro e w2 ⟨rfl, hb2⟩; obtain ⟨x0, x1, x2, x3, x4⟩ := HBX.out _ hb2)
    have HB2 := Lib.hid (HB0.out.trans (hb2.mono HB0.out.size))
    have HBX2 := Lib.hid (fun (W : World) (hb : Below w2.heap.size w2 W) => HBX.out W (hb2.trans (hb.mono hb2.size)))
    clear x0 x1 x2 x3 x4 c0 c1 c2 c3 c4 hb2 A1 A2 HBX HB0 n1 n28 n2 n5 n12 n39 n6 n15 n16
    go_loopw [9, 10] (fun u i wr => u = .string ⟨(92 :: 35 :: 32 :: y).toArray⟩ ∧ i = .int .i64 0 ∧ Below w2.heap.size w2 wr) (fun _ _ _ => 0)
    case atStart => exact ⟨rfl, rfl, Below.refl _ _⟩
    case round =>
      obtain ⟨rfl, rfl, hB⟩ := hrel
      obtain ⟨x0, x1, x2, x3, x4⟩ := HBX2.out _ hB
      have hBw : Below w.heap.size w wr := HB2.out.trans (hB.mono HB2.out.size)
      have HE := Lib.hid (show textD d = 92 :: 35 :: 32 :: y from by rw [HPD.out, List.eq_nil_of_length_eq_zero HL.out]; simp)
      go_wp2_with fail
      go_ret
      exact ⟨by rw [HE.out]; rfl, hBw⟩
  · go_enter Tryz.func44, Tryz.ntmps44
    go_wp2_with (go_at_call 42; refine (HT.out _).mono ?_; rintro e w2 ⟨rfl, hb2⟩; obtain ⟨x0, x1, x2, x3, x4⟩ := HBX.out _ hb2)
    have HB2 := Lib.hid (HB0.out.trans (hb2.mono HB0.out.size))
    have HBX2 := Lib.hid (fun (W : World) (hb : Below w2.heap.size w2 W) => HBX.out W (hb2.trans (hb.mono hb2.size)))
    clear x0 x1 x2 x3 x4 c0 c1 c2 c3 c4 hb2 A1 A2 HBX HB0 n1 n28 n2 n5 n12 n39 n6 n15 n16
    have hdc : decide (0 < n) = true := decide_eq_true (by omega)
    rw [hdc]
    clear hdc
    go_loopw [9, 10] (fun u i wr => ∃ (k : Nat) (T : List UInt8), i = .int .i64 k ∧ u = .string ⟨T.toArray⟩ ∧ k ≤ n ∧ Below w2.heap.size w2 wr ∧ Hid (T.length ≤ 100 + 2 * k ∧ T = (92 :: 35 :: 32 :: (y ++ [32])) ++ (d.raw.take k).flatMap hex2)) (fun _ i _ => n - (intOf i).toNat)
    case atStart => exact ⟨0, 92 :: 35 :: 32 :: (y ++ [32]), rfl, rfl, Nat.zero_le _, Below.refl _ _, Lib.hid ⟨by have := hDL.out; simp; omega, by simp⟩⟩
    case round =>
      obtain ⟨k, T, rfl, rfl, hk0, hB, HR⟩ := hrel
      obtain ⟨x0, x1, x2, x3, x4⟩ := HBX2.out _ hB
      have hBz := hB.size
      have hBw : Below w.heap.size w wr := HB2.out.trans (hB.mono HB2.out.size)
      by_cases hlt : k < n
      · have hkd : k < d.raw.length := by rw [HL.out]; exact hlt
        obtain ⟨g, off, rfl, hg, hc⟩ := HA4.out wr hBw k (by rw [List.length_map]; exact hkd)
        rw [List.getElem_map] at hc
        have hcc : (d.raw[k].toNat : Int) ≤ 255 := by have := d.raw[k].toNat_lt; omega
        have hc0 : (0 : Int) ≤ (d.raw[k].toNat : Int) := by omega
        have hX := fun W => ref_hex d.raw[k].toNat 2 W (by omega) (by omega)
        rw [hexR_two] at hX
        have hsn : (d.raw.take (k + 1)).flatMap hex2 = (d.raw.take k).flatMap hex2 ++ hex2 d.raw[k] := by rw [List.take_succ_eq_append_getElem hkd, hexs_snoc]
        have hl2 : (hex2 d.raw[k]).length = 2 := rfl
        unfold bv at hc
        generalize d.raw[k] = x at *
        have HR2 := Lib.hid (show (T ++ hex2 x).length ≤ 100 + 2 * (k + 1) ∧ T ++ hex2 x = (92 :: 35 :: 32 :: (y ++ [32])) ++ (d.raw.take (k + 1)).flatMap hex2 from ⟨by have := HR.out.1; rw [List.length_append, hl2]; omega, by rw [hsn, ← List.append_assoc, ← HR.out.2]⟩)
        have hTl := HR.out.1
        have a1 := fun W => run_string_add_sum (P := Tryz.prog) W ⟨T.toArray⟩ ⟨(hex2 x).toArray⟩ (by rw [mk_size, mk_size, hl2]; omega)
        rw [mk_append] at a1
        clear hsn hl2 HR hTl
        generalize hZ : T ++ hex2 x = Z at *
        generalize hex2 x = y2 at *
        clear hZ
        go_wp2_with (go_at_call 94; refine (hX _).mono ?_; rintro e w3 ⟨rfl, hb3⟩; have hB3 := hB.trans (hb3.mono hBz))
        go_roundw
        case rel => exact ⟨k + 1, Z, by go_num, rfl, by omega, hB3, HR2⟩
        case measure => simp [intOf]; omega
      · obtain rfl : k = n := by omega
        have HE := Lib.hid (show textD d = T from by rw [HPD.out, HR.out.2, List.take_of_length_le (by rw [HL.out]; exact Nat.le_refl _)])
        go_wp2_with fail
        go_ret
        exact ⟨by rw [HE.out]; rfl, hBw⟩

theorem ref_DataText (v : Value) (d : Dat) (w : World) (hA : DatAt w v d) (hk : DatFew d) (hc : countedM d = true) :
    Calls Tryz.prog 44 #[v] w fun e w' => e = .returned (.string ⟨(textD d).toArray⟩) ∧ Below w.heap.size w w' := by
  by_cases h1 : d.ty = 1
  · exact reft_a v d w hA hk h1
  by_cases h28 : d.ty = 28
  · exact reft_g v d w hA hk h28
  by_cases h2 : d.ty = 2
  · exact reft_n2 v d w hA hk h2
  by_cases h5 : d.ty = 5
  · exact reft_n5 v d w hA hk h5
  by_cases h12 : d.ty = 12
  · exact reft_n12 v d w hA hk h12
  by_cases h39 : d.ty = 39
  · exact reft_n39 v d w hA hk h39
  by_cases h6 : d.ty = 6
  · exact reft_n6 v d w hA hk h6
  by_cases h15 : d.ty = 15
  · have e := countedM_lit d 1 1 0 (by rw [h15]; rfl) (by rw [h15]; decide)
    rw [hc] at e
    obtain ⟨e1, e2, _⟩ := of_decide_eq_true e.symm
    obtain ⟨nm, hna⟩ := List.length_eq_one_iff.1 e1
    obtain ⟨m, hnu⟩ := List.length_eq_one_iff.1 e2
    exact reft_mx v d w hA hk h15 m nm hnu hna
  by_cases h16 : d.ty = 16
  · exact reft_txt v d w hA hk h16
  exact reft_o v d w hA hk ⟨h1, h28, h2, h5, h12, h39, h6, h15, h16⟩
end Go.Proofs.YtfcdajldpnomfaaGreatDoor

