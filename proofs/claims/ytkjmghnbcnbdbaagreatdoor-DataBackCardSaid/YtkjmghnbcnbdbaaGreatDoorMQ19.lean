/-
  strings.Join over rows of texts; rdata.dotted.
-/
import Derived.Test.YtkjmghnbcnbdbaaGreatDoorMQ36
import Derived.Test.YtkjmghnbcnbdbaaGreatDoorMQ01
import Derived.ArgAppend
import Derived.Lib.SlBytesConst
import Derived.Test.YtkjmghnbcnbdbaaGreatDoorMQ05
namespace Go.Proofs.YtkjmghnbcnbdbaaGreatDoor
open Go.RowKit Go.Shelf
set_option maxRecDepth 20000

theorem sepBy_cons (sep x : List UInt8) (r : Nm) (h : r ≠ []) : sepBy sep (x :: r) = x ++ sep ++ sepBy sep r := by
  cases r with
  | nil => exact absurd rfl h
  | cons y t => rfl
theorem sepBy_join (sep : List UInt8) : ∀ xs : Nm, Lib.join xs sep = sepBy sep xs
  | [] => rfl
  | [x] => by rw [Lib.join_one]; rfl
  | x :: y :: r => by
    have ih := sepBy_join sep (y :: r)
    have e : Lib.join (x :: y :: r) sep = x ++ sep ++ Lib.join (y :: r) sep := by
      unfold Lib.join
      simp [List.intercalate, List.intersperse]
    rw [e, ih]; rfl
theorem sepBy_len (sep : List UInt8) (B : Nat) : ∀ xs : Nm, (∀ x ∈ xs, x.length ≤ B) → (sepBy sep xs).length ≤ xs.length * (B + sep.length)
  | [], _ => by simp [sepBy]
  | [x], h => by have := h x (by simp); simp [sepBy]; omega
  | x :: y :: r, h => by
    have h1 := h x (by simp)
    have h2 := sepBy_len sep B (y :: r) (fun z hz => h z (by simp [hz]))
    have e : (sepBy sep (x :: y :: r)).length = x.length + sep.length + (sepBy sep (y :: r)).length := by simp [sepBy]; omega
    rw [e]
    have e2 : (x :: y :: r).length * (B + sep.length) = (B + sep.length) + (y :: r).length * (B + sep.length) := by
      rw [List.length_cons, Nat.add_mul]; omega
    omega
theorem join_nm (v : Value) (xs : Nm) (sep : ByteArray) (w : World) (hA : NmAt w v xs) (hN : xs.length ≤ 1048576) (hlen : (sepBy sep.data.toList xs).length ≤ 140737488355328) :
    Calls Tryz.prog 29 #[v, .string sep] w fun e w' => e = .returned (.string ⟨(sepBy sep.data.toList xs).toArray⟩) ∧ Below w.heap.size w w' := by
  obtain ⟨⟨a, c, rfl, hx⟩, ⟨a', n', c', e, hc, _⟩⟩ := hA
  cases e
  rcases hx with rfl | ⟨b, off, rfl, hb, hcell⟩
  · refine (Tryz.strings_Join_none a c sep w).mono ?_
    rintro e w' ⟨rfl, rfl⟩
    exact ⟨rfl, Below.refl _ _⟩
  · have hm : (xs.map fun l => (⟨l.toArray⟩ : ByteArray)).map (·.data.toList) = xs := by rw [List.map_map]; simp [Function.comp_def]
    have h := Tryz.strings_Join b off c (xs.map fun l => (⟨l.toArray⟩ : ByteArray)) sep w (fun j x hx => by
        rw [List.getElem?_map] at hx
        cases hj : xs[j]? with
        | none => rw [hj] at hx; simp at hx
        | some l =>
          rw [hj] at hx
          have hx : (⟨l.toArray⟩ : ByteArray) = x := by simpa using hx
          obtain ⟨hjl, hjv⟩ := List.getElem?_eq_some_iff.1 hj
          rw [hcell j hjl, hjv, ← hx]; rfl) hb (by rw [List.length_map]; omega) (by rw [List.length_map]; exact hc) (by rw [hm, sepBy_join]; exact hlen)
    rw [List.length_map, hm, sepBy_join] at h
    exact h

set_option maxHeartbeats 4000000 in
theorem rdata_dotted (v : Value) (raw : List UInt8) (w : World) (hA : SlAt w v (raw.map bv)) (hk : raw.length ≤ 1048576) (hT0 : Tab w) :
    Calls Tryz.prog 27 #[v] w fun e w' => e = .returned (.string ⟨(sepBy [46] (raw.map fun c => Lib.decDigits c.toNat)).toArray⟩) ∧ Below w.heap.size w w' := by
  obtain ⟨an, cn, rfl, _⟩ := id hA
  have hcell := fun W (hb : Below w.heap.size w W) j (hj : j < (raw.map bv).length) => hA.cell hb j hj
  obtain ⟨n, hn⟩ : ∃ n, raw.length = n := ⟨_, rfl⟩
  have HL := Lib.hid hn
  have hnb : n ≤ 1048576 := by omega
  rw [List.length_map, hn]
  clear hn hk hA
  go_enter Tryz.func27, Tryz.ntmps27
  go_wp2_with fail
  go_loopw [3, 8] (fun u i wr => ∃ (k : Nat) (done : Nm), i = .int .i64 k ∧ k ≤ n ∧ OwnG 9 strV wr w.heap.size u done ∧ Below w.heap.size w wr ∧ Hid (done = (raw.take k).map fun c => Lib.decDigits c.toNat)) (fun _ i _ => n - (intOf i).toNat)
  case atStart => exact ⟨0, [], rfl, Nat.zero_le _, OwnG.nil _ _, Below.refl _ _, Lib.hid rfl⟩
  case round =>
    obtain ⟨k, done, rfl, hk0, hown, hB, HR⟩ := hrel
    obtain ⟨au, cu, rfl⟩ := hown.shape
    have hdk : done.length = k := by rw [HR.out]; simp [HL.out]; omega
    have HD := Lib.hid hdk; clear hdk
    generalize hdl : done.length = dl at *
    have HDL := Lib.hid hdl; clear hdl
    have hBz := hB.size
    by_cases hlt : k < n
    · have hkd : k < raw.length := by rw [HL.out]; exact hlt
      obtain ⟨g, off, rfl, hg, hc⟩ := hcell wr hB k (by rw [List.length_map]; exact hkd)
      rw [List.getElem_map] at hc
      have hcc : (raw[k].toNat : Int) ≤ 255 := by have := raw[k].toNat_lt; omega
      have hc0 : (0 : Int) ≤ (raw[k].toNat : Int) := by omega
      have hT := strconv_Itoa (raw[k].toNat : Int) (by omega) (by omega) wr (hT0.below hB)
      rw [Lib.itoa_nonneg] at hT
      have hsn := take_map_snoc (fun c : UInt8 => Lib.decDigits c.toNat) raw k hkd
      have hy' : ∃ y, Lib.decDigits raw[k].toNat = y := ⟨_, rfl⟩
      obtain ⟨y, hy⟩ := hy'
      simp only [hy] at hsn
      rw [hy] at hT
      obtain ⟨sx, hy0, _, _⟩ := str_of y
      rw [str_name hy0] at hT
      unfold bv at hc
      clear hcell hy
      generalize raw[k] = x at *
      have HC := Lib.hid (show [Value.string sx] = [y].map strV by rw [← hy0]; simp [strV])
      have HR2 := Lib.hid (show done ++ [y] = (raw.take (k + 1)).map fun c => Lib.decDigits c.toNat by rw [HR.out]; exact hsn)
      clear hsn hy0 HR
      go_wp2_with (first | (go_at_call 62; refine hT.mono ?_; rintro e w2 ⟨rfl, hb2⟩) | (at_builtin; refine wpl_append_g w2 rfl (.tmp 12) (.tmp 16) elemStr rfl strV_one w.heap.size (.slice au dl cu) done rfl (hown.below hb2) [.string sx] [y] HC.out 1 1 rfl rfl (Nat.le_trans hBz hb2.size) (by have := HD.out; have := HDL.out; unfold maxLen; simp; omega) (by have := HD.out; have := HDL.out; simp; omega) ?_; intro v3 w3 hown3 hg3; have hB3 : Below w.heap.size w w3 := (hB.trans (hb2.mono hBz)).grown hg3 (Nat.le_trans hBz hb2.size) hown.base_le))
      go_roundw
      case rel => exact ⟨k + 1, done ++ [y], by go_num, by omega, hown3, hB3, HR2⟩
      case measure => simp [intOf]; omega
    · obtain rfl : k = n := by omega
      have H0 : Hid (done = raw.map fun c => Lib.decDigits c.toNat) := Lib.hid (by rw [HR.out, List.take_of_length_le (by rw [HL.out]; exact Nat.le_refl _)])
      have hJ := join_nm (.slice au dl cu) done ⟨#[46]⟩ wr hown.nmAt (by have := HD.out; have := HDL.out; omega) (by
        have := sepBy_len [46] 20 done (fun x hx => by
          rw [H0.out] at hx
          obtain ⟨c, _, rfl⟩ := List.mem_map.1 hx
          have h1 := dec_len c.toNat (by have := c.toNat_lt; omega)
          omega)
        have e : (⟨#[46]⟩ : ByteArray).data.toList = [46] := rfl
        rw [e]
        have h1 := HD.out; have h2 := HDL.out
        simp only [List.length_singleton] at this
        omega)
      clear HR hcell
      go_wp2_with (go_at_call 29; refine hJ.mono ?_; rintro e w2 ⟨rfl, hb2⟩)
      go_ret
      exact ⟨by rw [H0.out]; rfl, hB.trans (hb2.mono hBz)⟩
end Go.Proofs.YtkjmghnbcnbdbaaGreatDoor

/-
  rdata.octetWords.
-/
namespace Go.Proofs.YtkjmghnbcnbdbaaGreatDoor
open Go.RowKit Go.Shelf
set_option maxRecDepth 20000

theorem append_int (base : Nat) (v : Value) (xs : List UInt8) (n : Nat) (w0 w : World) (hT : Tab w0) (hb : w0.heap.size = base) (hB : Below base w0 w) (hown : OwnG 5 bv w base v xs) (hx : xs.length ≤ 1048576) (hn : n ≤ 1048576) :
    Calls Tryz.prog 69 #[v, .int .i64 n, .int .i64 10] w fun e w' => ∃ v', e = .returned v' ∧ OwnG 5 bv w' base v' (xs ++ Lib.decDigits n) ∧ Below base w w' := by
  subst hb
  refine (Tryz.strconv_AppendInt_10 w0.heap.size xs.length (n : Int) (by omega) (by omega) v (xs.map bv) w hown hB.size (by omega) (fun W' hb => (Lib.tabBelow_of_tabIs hT) W' (hB.trans hb))).mono ?_
  rintro e w' ⟨v', rfl, ho, hb, _⟩
  refine ⟨v', rfl, ?_, hb⟩
  rw [Lib.itoa_nonneg] at ho
  unfold OwnG
  rw [List.length_append, List.map_append]
  exact ho
theorem hexC_index (n : Nat) (h : n < 16) : ([48, 49, 50, 51, 52, 53, 54, 55, 56, 57, 97, 98, 99, 100, 101, 102] : List UInt8)[n]'(by simp only [List.length_cons, List.length_nil]; omega) = hexC n := by
  have key : ∀ m : Fin 16, ([48, 49, 50, 51, 52, 53, 54, 55, 56, 57, 97, 98, 99, 100, 101, 102] : List UInt8)[m.val]'(by have := m.isLt; simp only [List.length_cons, List.length_nil]; omega) = hexC m.val := by decide
  exact key ⟨n, h⟩
theorem hex2_len (l : List UInt8) : (l.flatMap hex2).length = 2 * l.length := by
  induction l with
  | nil => rfl
  | cons c r ih => simp only [List.flatMap_cons, List.length_append, ih, hex2, List.length_cons, List.length_nil]; omega

theorem cell_of_blockM {W : World} {B : Nat} {cs : Array Value} {t : TypeId} {fr : Nat × Nat} (h : W.heap[B]? = some (.cells cs t fr)) (j : Nat) (v : Value) (hv : cs[j]? = some v) : W.cell? ⟨B, j, none⟩ = some v := by
  simp only [World.cell?, h]
  simpa using hv
theorem and15 (x : UInt8) : bits .and .u8 (x.toNat : Int) 15 = (x.toNat : Int) % 16 := by
  have h := x.toNat_lt
  have e : bits .and .u8 (x.toNat : Int) ((15 : Nat) : Int) = ((x.toNat &&& 15 : Nat) : Int) := u8_and_nat _ _ (by omega) (by omega)
  have e2 : x.toNat &&& 15 = x.toNat % 16 := Nat.and_two_pow_sub_one_eq_mod x.toNat 4
  rw [e2] at e
  exact e
theorem digs (n : Int) (k : Nat) (hk : k < 16) (hn : n = k) (h : n.toNat < (⟨#[48, 49, 50, 51, 52, 53, 54, 55, 56, 57, 97, 98, 99, 100, 101, 102]⟩ : ByteArray).size) : (⟨#[48, 49, 50, 51, 52, 53, 54, 55, 56, 57, 97, 98, 99, 100, 101, 102]⟩ : ByteArray)[n.toNat]'h = hexC k := by
  subst hn
  exact hexC_index k hk
theorem lit_olds (w : World) (C : List Value) (E : TypeId) (fr : Nat × Nat) (o : Obj) : ∀ b, some (⟨w.heap.size, 0, none⟩ : Addr) = some b → ∀ (j : Nat) (u : Value), C[j]? = some u → ((w.alloc (.cells C.toArray E fr)).alloc o).cell? (b.add j) = some u := by
  rintro b hb j u hu
  cases hb
  rw [Go.WideShapes.add_plain, Nat.zero_add]
  have h1 := block_new w (.cells C.toArray E fr)
  have h2 : ((w.alloc (.cells C.toArray E fr)).alloc o).heap[w.heap.size]? = some (.cells C.toArray E fr) := (((Below.refl _ (w.alloc (.cells C.toArray E fr))).alloc (Nat.le_refl _) o).block w.heap.size (by simp)).trans h1
  exact cell_of_blockM h2 j u (by simpa using hu)
set_option maxRecDepth 100000 in
set_option maxHeartbeats 8000000 in
theorem rdata_octetWords (v : Value) (raw : List UInt8) (w : World) (hA : SlAt w v (raw.map bv)) (hk : raw.length ≤ 1048576) (hT0 : Tab w) :
    Calls Tryz.prog 33 #[v] w fun e w' => e = .returned (.string ⟨(octetWordsM raw).toArray⟩) ∧ Below w.heap.size w w' := by
  obtain ⟨an, cn, rfl, _⟩ := id hA
  have hcell := fun W (hb : Below w.heap.size w W) j (hj : j < (raw.map bv).length) => hA.cell hb j hj
  obtain ⟨n, hn⟩ : ∃ n, raw.length = n := ⟨_, rfl⟩
  have HL := Lib.hid hn
  have hnb : n ≤ 1048576 := by omega
  have hn0 : (0 : Int) ≤ (n : Int) := by omega
  have hdl := dec_len n (by omega)
  obtain ⟨ds, hds⟩ : ∃ ds, Lib.decDigits n = ds := ⟨_, rfl⟩
  have hOW : octetWordsM raw = [92, 35, 32] ++ ds ++ (if raw = [] then [] else 32 :: raw.flatMap hex2) := by unfold octetWordsM; rw [hn, hds]
  have HOW := Lib.hid hOW
  have HDS := Lib.hid hds
  rw [List.length_map, hn]
  rw [hds] at hdl
  have hown0 := lit_u8 w [92, 35] (by simp)
  have hB0 : Below w.heap.size w (w.alloc (.cells ([(92 : UInt8), 35].map bv).toArray 5)) := (Below.refl _ w).alloc (Nat.le_refl _) _
  have hAI := fun W va (hB : Below w.heap.size w W) (ho : OwnG 5 bv W w.heap.size va [92, 35, 32]) => append_int w.heap.size va [92, 35, 32] n w W hT0 rfl hB ho (by simp) hnb
  rw [hds] at hAI
  have HCE := Lib.hid hcell
  clear hn hk hA hds hOW hcell
  go_enter Tryz.func33, Tryz.ntmps33
  obtain ⟨i0, hi, hz0, hz1, hz2⟩ := info_parts info_u8
  have kc := fun (W : World) (C : Array Value) (m c : Nat) => Lib.run_convert_bytes_const (P := Tryz.prog) W 25 5 C m c Tryz.underlying25 Tryz.underlying5
  go_wp2_with (first | (at_builtin; refine wpList_append_grows _ rfl (.tmp 7) (.tmp 8) 25 rfl 5 i0 (.int .u8 0) 1 1 Tryz.underlying25 hi hz0 hz1 hz2 rfl (by omega) (some ⟨w.heap.size, 0, none⟩) 2 2 [.int .u8 92, .int .u8 35] rfl (fun h => by cases h) rfl (lit_olds w _ _ _ _) ⟨w.heap.size + 1, 0, none⟩ 1 1 [.int .u8 32] rfl rfl (by rw [← World.size_alloc w (.cells #[.int .u8 92, .int .u8 35] 5 (2, 3))]; exact cells_new _ [.int .u8 32] _) (by simp [Value.oneCell']) (by omega) (by unfold maxLen; omega) (by omega) ?_; intro v3 w3 ho3 hg3) | fail)
  have hb3 : Below w.heap.size w w3 := ((((Below.refl _ w).alloc (Nat.le_refl _) _).alloc (by simp) _).grown hg3 (by simp; omega) (fun k e => by simp at e))
  have hown3 : OwnG 5 bv w3 w.heap.size v3 [92, 35, 32] := by
    have h : OwnG 5 bv w3 (w.heap.size + 1 + 1) v3 [92, 35, 32] := by
      have h0 := ho3
      simp only [World.size_alloc] at h0
      exact h0
    exact h.weaken (by omega)
  clear ho3 hg3 hown0 hB0 kc
  refine (hAI _ _ hb3 hown3).mono ?_
  rintro e w4 ⟨v4, rfl, hown4, hb4⟩
  have hB4 := hb3.trans hb4
  clear hAI hb3 hown3 hb4
  by_cases h0 : n = 0
  · subst h0
    have hraw : raw = [] := List.eq_nil_of_length_eq_zero HL.out
    have HO2 := Lib.hid (show octetWordsM raw = [92, 35, 32] ++ ds by rw [HOW.out, if_pos hraw, List.append_nil])
    have hcv := OwnU8.string hown4
    clear hraw
    go_wp2_with fail
    go_loopw [3, 22] (fun u i wr => u = v4 ∧ i = .int .i64 0 ∧ w4 = wr) (fun _ _ _ => 0)
    case atStart => exact ⟨rfl, rfl, rfl⟩
    case round =>
      obtain ⟨rfl, rfl, rfl⟩ := hrel
      go_wp2_with fail
      go_ret
      exact ⟨by rw [HO2.out]; rfl, hB4⟩
  · have h1 : (0 : Int) < (n : Int) := by omega
    have hraw : raw ≠ [] := fun e => h0 (by rw [← HL.out, e]; rfl)
    have HO2 := Lib.hid (show octetWordsM raw = [92, 35, 32] ++ ds ++ [32] ++ raw.flatMap hex2 by rw [HOW.out, if_neg hraw]; simp)
    obtain ⟨a4, c4, rfl⟩ := hown4.shape
    generalize hdl4 : ([92, 35, 32] ++ ds).length = m4 at *
    have HD4 := Lib.hid hdl4
    clear hraw h0 hdl4
    go_wp2_with (first | (at_builtin; refine wpl_append_g w4 rfl (.tmp 17) (.tmp 18) elemU8 rfl bv_one1 w.heap.size (.slice a4 m4 c4) ([92, 35, 32] ++ ds) rfl hown4 [.int .u8 32] [32] rfl 1 1 rfl rfl hB4.size (by have := HD4.out; unfold maxLen; simp at this ⊢; omega) (by have := HD4.out; simp at this ⊢; omega) ?_; intro v5 w5 hown5 hg5; have hB5 := hB4.grown hg5 hB4.size hown4.base_le) | fail)
    go_loopw [3, 22] (fun u i wr => ∃ (k : Nat) (xs : List UInt8), i = .int .i64 k ∧ k ≤ n ∧ OwnG 5 bv wr w.heap.size u xs ∧ Below w.heap.size w wr ∧ Hid (xs = [92, 35, 32] ++ ds ++ [32] ++ (raw.take k).flatMap hex2)) (fun _ i _ => n - (intOf i).toNat)
    case atStart => exact ⟨0, _, rfl, Nat.zero_le _, hown5, hB5, Lib.hid (by simp)⟩
    case round =>
      obtain ⟨k, xs, rfl, hk0, hown, hB, HX⟩ := hrel
      have hBz := hB.size
      by_cases hlt : k < n
      · have hkd : k < raw.length := by rw [HL.out]; exact hlt
        obtain ⟨g, off, rfl, hg, hc⟩ := HCE.out wr hB k (by rw [List.length_map]; exact hkd)
        rw [List.getElem_map] at hc
        have HX2 := Lib.hid (show xs ++ hex2 raw[k] = [92, 35, 32] ++ ds ++ [32] ++ (raw.take (k + 1)).flatMap hex2 by
          rw [HX.out, List.take_succ_eq_append_getElem hkd, List.flatMap_append]; simp)
        have hxl : xs.length ≤ 4194304 := by
          rw [HX.out]
          have := hex2_len (raw.take k)
          have h2 : (raw.take k).length ≤ k := List.length_take_le _ _
          simp only [List.length_append, this, List.length_cons, List.length_nil]; omega
        have hcc : (raw[k].toNat : Int) ≤ 255 := by have := raw[k].toNat_lt; omega
        have hc0 : (0 : Int) ≤ (raw[k].toNat : Int) := by omega
        obtain ⟨au, cu, rfl⟩ := hown.shape
        obtain ⟨dl, hdl⟩ : ∃ dl, xs.length = dl := ⟨_, rfl⟩
        have hown2 : wr.ownsRow w.heap.size 5 1 (.slice au dl cu) dl (xs.map bv) := by
          have h := hown
          unfold OwnG at h
          rw [hdl] at h
          exact h
        rw [hdl] at hown hxl ⊢
        have HDL := Lib.hid hdl
        have HOB := Lib.hid hown.base_le
        have hag : (Value.slice au dl cu).ownBlock ≠ some g := fun e => by have := hown.base_le g e; omega
        have hgw : g < wr.heap.size := by omega
        unfold bv at hc
        clear hdl hown
        generalize raw[k] = x at *
        have hand : bits .and .u8 (x.toNat : Int) 15 = (x.toNat : Int) % 16 := and15 x
        have hm0 : (0 : Int) ≤ (x.toNat : Int) % 16 := by omega
        have hm1 : (x.toNat : Int) % 16 < 16 := by omega
        have hq0 : (0 : Int) ≤ (x.toNat : Int) / 16 := by omega
        have hq1 : (x.toNat : Int) / 16 < 16 := by omega
        go_wp2
        go_region_held3 (fun w' => w'.cell? ⟨g, off + k, none⟩ = some (.int .u8 (x.toNat : Int)))
          (first
            | go_keep
            | (rw [hgrow.cell_far _ (by simp; omega) (Ne.symm hag)]; assumption))
          ((refine step_append_lies _ (by rfl) _ _ _ (by rfl) w.heap.size 5 i0 (.int .u8 0) 1 1 Tryz.underlying25 hi hz0 hz1 hz2 rfl (by omega) (.slice au dl cu) dl (xs.map bv) (by rfl) ((hown2.alloc _).drew)
                ⟨wr.heap.size, 0, none⟩ 2 2 [.int .u8 _, .int .u8 _] (by rfl) (by rfl) (World.news_of_block (cs := #[.int .u8 _, .int .u8 _]) (t := 5) (fr := (0, 0)) (heap_alloc_new wr _)) (by simp [Value.oneCell'])
                (by omega) (by unfold maxLen; omega) (by omega) (by simp; omega) (wr.heap.size + 1) (by simp) ?_; intro gg cap w6 hown6 hgrow hat hlt6))
        all_goals
          have hB6 : Below w.heap.size w w6 := hB.trans (((Below.refl _ wr).alloc hBz _).drew |>.grown hgrow (by simp; omega) (fun k e => by have := HOB.out k e; omega))
          have hown7 : OwnG 5 bv w6 w.heap.size (.slice (some ⟨gg, 0, none⟩) (dl + 2) cap) (xs ++ hex2 x) := by
            have hx := x.toNat_lt
            rw [digs ((x.toNat : Int) / 16) (x.toNat / 16) (by omega) (by omega), digs ((x.toNat : Int) % 16) (x.toNat % 16) (by omega) (by omega)] at hown6
            unfold OwnG
            rw [List.length_append, HDL.out, List.map_append]
            exact hown6
          clear hown6 hand
          go_wp2
          go_roundw
          case rel => exact ⟨k + 1, _, by go_num, by omega, hown7, hB6, HX2⟩
          case measure => simp [intOf]; omega
      · obtain rfl : k = n := by omega
        have hxe : xs = octetWordsM raw := by rw [HX.out, HO2.out, List.take_of_length_le (by rw [HL.out]; exact Nat.le_refl _)]
        have hcv := OwnU8.string hown
        have HXE := Lib.hid hxe
        clear hxe HX
        go_wp2_with fail
        go_ret
        exact ⟨by rw [← HXE.out]; rfl, hB⟩
end Go.Proofs.YtkjmghnbcnbdbaaGreatDoor

/-
  rdata.Parse.
-/
namespace Go.Proofs.YtkjmghnbcnbdbaaGreatDoor
open Go.RowKit Go.Shelf
set_option maxRecDepth 20000

/-! ### Parse -/
/-- What Parse answers. -/
def ParseDPost (q : Dat × Int) (w : World) (e : Ending) (w' : World) : Prop := ∃ v', e = .returned (.tuple #[v', .int .i64 q.2]) ∧ DatAt w' v' q.1 ∧ Below w.heap.size w w'
theorem parseD_fin {q : Dat × Int} {w w' : World} {e : Ending} {v : Value} (d : Dat) (er : Int) (h : q = (d, er)) (he : e = .returned (.tuple #[v, .int .i64 er])) (hd : DatAt w' v d) (hb : Below w.heap.size w w') : ParseDPost q w e w' := by
  subst h; exact ⟨v, he, hd, hb⟩
theorem datAt_none (W : World) : DatAt W (.agg #[.int .i64 0, .slice none 0 0, .slice none 0 0, .slice none 0 0, .slice none 0 0]) Dat.none :=
  ⟨_, _, _, _, rfl, NmsAt.nil _, SlAt.nil _, nm_nil _, SlAt.nil _⟩
theorem parseD_type {t : Int} {l : List Wd} {o : Nm} (h : t < 1 ∨ 65535 < t) : parseD t l o = (Dat.none, 6) := by unfold parseD; rw [if_pos h]
theorem parseD_other {t : Int} {l : List Wd} {o : Nm} (h : ¬ (t < 1 ∨ 65535 < t)) (h2 : l.head? = some ([92, 35], false)) : parseD t l o = if (octetsD t (l.drop 1)).2 = 0 then (⟨t, [], [], [], (octetsD t (l.drop 1)).1⟩, 0) else (Dat.none, (octetsD t (l.drop 1)).2) := by
  unfold parseD; rw [if_neg h, if_pos h2]
theorem parseD_words {t : Int} {l : List Wd} {o : Nm} (h : ¬ (t < 1 ∨ 65535 < t)) (h2 : l.head? ≠ some ([92, 35], false)) : parseD t l o = if (wordsE (Dat.of t) o (formD t l.length) l).2 = 0 then ((wordsE (Dat.of t) o (formD t l.length) l).1, 0) else (Dat.none, (wordsE (Dat.of t) o (formD t l.length) l).2) := by
  unfold parseD wordsE; rw [if_neg h, if_neg h2]
  split <;> rfl
/-- Five stores into a box of data. -/
def set5 (W : World) (R : Nat) (x0 x1 x2 x3 x4 : Value) : World := ((((W.setCell ⟨R, 0, none⟩ x0).setCell ⟨R, 1, none⟩ x1).setCell ⟨R, 2, none⟩ x2).setCell ⟨R, 3, none⟩ x3).setCell ⟨R, 4, none⟩ x4
theorem set5_block {W : World} {R : Nat} {y0 y1 y2 y3 y4 : Value} (h : W.heap[R]? = some (.cells #[y0, y1, y2, y3, y4] 27)) (x0 x1 x2 x3 x4 : Value) : (set5 W R x0 x1 x2 x3 x4).heap[R]? = some (.cells #[x0, x1, x2, x3, x4] 27) :=
  block_set (block_set (block_set (block_set (block_set h 0 x0) 1 x1) 2 x2) 3 x3) 4 x4
theorem set5_row {W : World} {R : Nat} {y0 y1 y2 y3 y4 : Value} (h : W.heap[R]? = some (.cells #[y0, y1, y2, y3, y4] 27)) (x0 x1 x2 x3 x4 : Value) {base : Nat} {vn vu vt vr : Value} {d : Dat} (hr : DRow W base vn vu vt vr d) : DRow (set5 W R x0 x1 x2 x3 x4) base vn vu vt vr d :=
  ((((hr.set h 0 x0).set (block_set h 0 x0) 1 x1).set (block_set (block_set h 0 x0) 1 x1) 2 x2).set (block_set (block_set (block_set h 0 x0) 1 x1) 2 x2) 3 x3).set (block_set (block_set (block_set (block_set h 0 x0) 1 x1) 2 x2) 3 x3) 4 x4
theorem set5_below {w W : World} {R : Nat} (hb : Below R w W) (x0 x1 x2 x3 x4 : Value) : Below R w (set5 W R x0 x1 x2 x3 x4) :=
  ((((hb.setCell (p := ⟨R, 0, none⟩) (Nat.le_refl _) x0).setCell (p := ⟨R, 1, none⟩) (Nat.le_refl _) x1).setCell (p := ⟨R, 2, none⟩) (Nat.le_refl _) x2).setCell (p := ⟨R, 3, none⟩) (Nat.le_refl _) x3).setCell (p := ⟨R, 4, none⟩) (Nat.le_refl _) x4
theorem cells5 {W : World} {R : Nat} {x0 x1 x2 x3 x4 : Value} (h : W.heap[R]? = some (.cells #[x0, x1, x2, x3, x4] 27)) :
    W.cell? ⟨R, 0, none⟩ = some x0 ∧ W.cell? ⟨R, 1, none⟩ = some x1 ∧ W.cell? ⟨R, 2, none⟩ = some x2 ∧ W.cell? ⟨R, 3, none⟩ = some x3 ∧ W.cell? ⟨R, 4, none⟩ = some x4 :=
  ⟨cell_of_block h 0 _ rfl, cell_of_block h 1 _ rfl, cell_of_block h 2 _ rfl, cell_of_block h 3 _ rfl, cell_of_block h 4 _ rfl⟩
theorem frozen5 {W : World} {R : Nat} {cs : Array Value} (h : W.heap[R]? = some (.cells cs 27)) :
    W.frozen? ⟨R, 0, none⟩ = false ∧ W.frozen? ⟨R, 1, none⟩ = false ∧ W.frozen? ⟨R, 2, none⟩ = false ∧ W.frozen? ⟨R, 3, none⟩ = false ∧ W.frozen? ⟨R, 4, none⟩ = false :=
  ⟨frozen_block h 0, frozen_block h 1, frozen_block h 2, frozen_block h 3, frozen_block h 4⟩
set_option maxRecDepth 100000 in
set_option maxHeartbeats 8000000 in
theorem rdata_Parse (t : Int) (vl : Value) (l : List Wd) (vo : Value) (o : Nm) (w : World) (hA : WdsAt w vl l) (hk : WdsOK l) (hl : l.length ≤ 500000) (hO : NmAt w vo o) (hok : NmOK o) (ho : o.length ≤ 500000) (hM : MaxC w) :
    Calls Tryz.prog 18 #[.int .i64 t, vl, vo] w (ParseDPost (parseD t l o) w) := by
  by_cases ht : t < 1 ∨ 65535 < t
  · have H0 := Lib.hid (parseD_type (l := l) (o := o) ht)
    have ht2 : t < 1 ∨ (¬ t < 1 ∧ 65535 < t) := by omega
    clear ht hA hO hk hok ho hl
    rcases ht2 with h1 | ⟨h1, h2⟩
    all_goals
      go_enter Tryz.func18, Tryz.ntmps18
      go_wp2
      exact bodyPost_ret (v := .tuple #[.agg #[.int .i64 0, .slice none 0 0, .slice none 0 0, .slice none 0 0, .slice none 0 0], .int .i64 6]) (by simp [results, Tryz.results18, go_sem]) rfl (parseD_fin Dat.none 6 H0.out rfl (datAt_none _) ((Below.refl _ w).alloc (Nat.le_refl _) _))
  have h1 : ¬ t < 1 := by omega
  have h2 : ¬ 65535 < t := by omega
  obtain ⟨a, c, rfl, hcap, hnil, hx⟩ := id hA
  obtain ⟨n, hn⟩ : ∃ n, l.length = n := ⟨_, rfl⟩
  by_cases hoth : l.head? = some ([92, 35], false)
  · obtain ⟨x, r, rfl⟩ : ∃ x r, l = x :: r := by cases l with | nil => simp at hoth | cons x r => exact ⟨x, r, rfl⟩
    obtain rfl : x = ([92, 35], false) := by simpa using hoth
    have HPD := Lib.hid (parseD_other (o := o) ht hoth)
    rcases hx with hx | ⟨g, off, rfl, hg, hc⟩
    · cases hx
    have hc1 := (hc 0 (by simp)).1
    have hc2 := (hc 0 (by simp)).2
    simp only [Nat.zero_mul, Nat.add_zero, List.getElem_cons_zero] at hc1 hc2
    obtain ⟨x, hx0, _, hxv⟩ := str_of [92, 35]
    rw [hxv] at hc1
    have hs : (x.toList == [92, 35]) = true := by rw [toList_data, hx0]; rfl
    obtain ⟨n, rfl⟩ : ∃ m, n = m + 1 := ⟨r.length, by rw [← hn]; rfl⟩
    have hrn : r.length = n := by simpa using hn
    have hkr : WdsOK r := by have := hk.drop 1; simpa using this
    have hdr : WdsAt w (.slice (if c = 1 then some ⟨g, off, none⟩ else some ⟨g, off + 2, none⟩) n (c - 1)) r := by
      rw [hn] at hA
      have := WdsAt.drop hA hn (by omega)
      simpa using this
    have hO2 : ∀ W v, WdsAt W v r → Calls Tryz.prog 53 #[.int .i64 t, v] W (BytesE (octetsD t r).1 (octetsD t r).2 W) := fun W v h => rdata_readOctets t v r W h hkr
    have hpd := HPD.out
    rw [List.drop_one, List.tail_cons] at hpd
    obtain ⟨⟨lo, er⟩, hq⟩ : ∃ q, octetsD t r = q := ⟨_, rfl⟩
    rw [hq] at hO2 hpd
    simp only at hO2 hpd
    have HPD2 := Lib.hid hpd
    have hW : ∀ W0, ((w.alloc (.cells #[.int .i64 0, .slice none 0 0, .slice none 0 0, .slice none 0 0, .slice none 0 0] 27)).alloc (.cells #[.int .i64 t, .slice none 0 0, .slice none 0 0, .slice none 0 0, .slice none 0 0] 27)) = W0 →
        Below w.heap.size w W0 ∧ W0.heap[w.heap.size]? = some (.cells #[.int .i64 0, .slice none 0 0, .slice none 0 0, .slice none 0 0, .slice none 0 0] 27) ∧ W0.heap[w.heap.size + 1]? = some (.cells #[.int .i64 t, .slice none 0 0, .slice none 0 0, .slice none 0 0, .slice none 0 0] 27) := by
      rintro W0 rfl
      have hb0 : Below w.heap.size w ((w.alloc (.cells #[.int .i64 0, .slice none 0 0, .slice none 0 0, .slice none 0 0, .slice none 0 0] 27)).alloc (.cells #[.int .i64 t, .slice none 0 0, .slice none 0 0, .slice none 0 0, .slice none 0 0] 27)) := ((Below.refl _ w).alloc (Nat.le_refl _) _).alloc (by simp) _
      have e1 := block_new w (.cells #[.int .i64 0, .slice none 0 0, .slice none 0 0, .slice none 0 0, .slice none 0 0] 27)
      have e2 := block_new (w.alloc (.cells #[.int .i64 0, .slice none 0 0, .slice none 0 0, .slice none 0 0, .slice none 0 0] 27)) (.cells #[.int .i64 t, .slice none 0 0, .slice none 0 0, .slice none 0 0, .slice none 0 0] 27)
      rw [World.size_alloc] at e2
      have hb1 := (Below.refl _ (w.alloc (.cells #[.int .i64 0, .slice none 0 0, .slice none 0 0, .slice none 0 0, .slice none 0 0] 27))).alloc (Nat.le_refl _) (.cells #[.int .i64 t, .slice none 0 0, .slice none 0 0, .slice none 0 0, .slice none 0 0] 27)
      exact ⟨hb0, (hb1.block w.heap.size (by simp)).trans e1, e2⟩
    have HW := Lib.hid hW
    have hn0 : (0 : Int) ≤ (n : Int) := by omega
    have hcn : n + 1 ≤ c := by rw [← hn]; exact hcap
    rw [hn]
    have hgo : ∀ (ad : Option Addr), WdsAt w (.slice ad n (c - 1)) r → ∀ W0, Below w.heap.size w W0 → Calls Tryz.prog 53 #[.int .i64 t, .slice ad n (c - 1)] W0 (BytesE lo er W0) := fun ad h W0 hb => hO2 W0 _ (h.below hb)
    have HGO := Lib.hid hgo; have HDR := Lib.hid hdr
    clear hc hnil hoth ht hA hk hO hok ho hM hl hn hW hq hkr hdr hO2 hpd HPD hrn hcap hgo hx0 hxv
    by_cases hcc : c = 1
    · subst hcc
      obtain rfl : n = 0 := by omega
      have hcall := HGO.out _ (by have := HDR.out; rw [if_pos rfl] at this; exact this)
      rw [Nat.sub_self] at hcall
      have HC := Lib.hid hcall
      clear hcall
      go_enter Tryz.func18, Tryz.ntmps18
      go_wp2_with fail
      generalize hW0 : ((w.alloc (.cells #[.int .i64 0, .slice none 0 0, .slice none 0 0, .slice none 0 0, .slice none 0 0] 27)).alloc (.cells #[.int .i64 t, .slice none 0 0, .slice none 0 0, .slice none 0 0, .slice none 0 0] 27)) = W0
      obtain ⟨k1, k2, k3⟩ := HW.out W0 hW0
      clear hW0
      refine (HC.out W0 k1).mono ?_
      rintro e w2 ⟨v', rfl, hown, hb2⟩
      have hR := (hb2.block w.heap.size (block_lt k2)).trans k2
      have hBx := (hb2.block (w.heap.size + 1) (block_lt k3)).trans k3
      obtain ⟨r0, r1, r2, r3, r4⟩ := cells5 hR
      obtain ⟨f0, f1, f2, f3, f4⟩ := frozen5 hR
      obtain ⟨b0, b1, b2, b3, b4⟩ := cells5 hBx
      obtain ⟨g0, g1, g2, g3, g4⟩ := frozen5 hBx
      have hB2 := k1.trans (hb2.mono k1.size)
      obtain ⟨a4, c4, rfl⟩ := hown.shape
      generalize lo.length = m4 at *
      have hRs := ((grownBy_set w2 (w.heap.size + 1) 4 (.slice a4 m4 c4)).block w.heap.size (block_lt hR) (by simp)).trans hR
      have hB3 : Below w.heap.size w (w2.setCell ⟨w.heap.size + 1, 4, none⟩ (.slice a4 m4 c4)) := hB2.setCell (p := ⟨w.heap.size + 1, 4, none⟩) (by simp) _
      have hown3 := (hown.weaken k1.size).keptB hBx (by decide) 4 (.slice a4 m4 c4)
      have HKR := Lib.hid hRs
      have HOW := Lib.hid (show DRow (w2.setCell ⟨w.heap.size + 1, 4, none⟩ (.slice a4 m4 c4)) w.heap.size (.slice none 0 0) (.slice none 0 0) (.slice none 0 0) (.slice a4 m4 c4) ⟨t, [], [], [], lo⟩ from ⟨OwnNms.nil _ _, OwnG.nil _ _, OwnG.nil _ _, hown3⟩)
      have HB3 := Lib.hid hB3
      clear hR k2 k3 hBx hRs hB3 hown hown3 hB2
      by_cases he0 : (er != 0) = true
      · have H0 := Lib.hid (show parseD t (([92, 35], false) :: r) o = (Dat.none, er) by rw [HPD2.out, if_neg (by simpa using he0)])
        obtain ⟨q0, q1, q2, q3, q4⟩ := cells5 (set5_block HKR.out (.int .i64 0) (.slice none 0 0) (.slice none 0 0) (.slice none 0 0) (.slice none 0 0))
        unfold set5 at q0 q1 q2 q3 q4
        go_wp2_with fail
        exact bodyPost_ret (v := .tuple #[.agg #[.int .i64 0, .slice none 0 0, .slice none 0 0, .slice none 0 0, .slice none 0 0], .int .i64 er]) (by simp [results, Tryz.results18, go_sem, q0, q1, q2, q3, q4]) rfl (parseD_fin Dat.none er H0.out rfl (datAt_none _) (set5_below HB3.out _ _ _ _ _))
      · have he1 : er = 0 := by simpa using he0
        subst he1
        have H0 := Lib.hid (show parseD t (([92, 35], false) :: r) o = (⟨t, [], [], [], lo⟩, 0) by rw [HPD2.out, if_pos rfl])
        obtain ⟨q0, q1, q2, q3, q4⟩ := cells5 (set5_block HKR.out (.int .i64 t) (.slice none 0 0) (.slice none 0 0) (.slice none 0 0) (.slice a4 m4 c4))
        unfold set5 at q0 q1 q2 q3 q4
        clear he0
        go_wp2_with fail
        exact bodyPost_ret (v := .tuple #[.agg #[.int .i64 t, .slice none 0 0, .slice none 0 0, .slice none 0 0, .slice a4 m4 c4], .int .i64 0]) (by simp [results, Tryz.results18, go_sem, q0, q1, q2, q3, q4]) rfl (parseD_fin ⟨t, [], [], [], lo⟩ 0 H0.out rfl (set5_row HKR.out _ _ _ _ _ HOW.out).datAt (set5_below HB3.out _ _ _ _ _))
    · have hcall := HGO.out _ (by have := HDR.out; rw [if_neg hcc] at this; exact this)
      have HC := Lib.hid hcall
      clear hcall
      go_enter Tryz.func18, Tryz.ntmps18
      go_wp2_with fail
      generalize hW0 : ((w.alloc (.cells #[.int .i64 0, .slice none 0 0, .slice none 0 0, .slice none 0 0, .slice none 0 0] 27)).alloc (.cells #[.int .i64 t, .slice none 0 0, .slice none 0 0, .slice none 0 0, .slice none 0 0] 27)) = W0
      obtain ⟨k1, k2, k3⟩ := HW.out W0 hW0
      clear hW0
      refine (HC.out W0 k1).mono ?_
      rintro e w2 ⟨v', rfl, hown, hb2⟩
      have hR := (hb2.block w.heap.size (block_lt k2)).trans k2
      have hBx := (hb2.block (w.heap.size + 1) (block_lt k3)).trans k3
      obtain ⟨r0, r1, r2, r3, r4⟩ := cells5 hR
      obtain ⟨f0, f1, f2, f3, f4⟩ := frozen5 hR
      obtain ⟨b0, b1, b2, b3, b4⟩ := cells5 hBx
      obtain ⟨g0, g1, g2, g3, g4⟩ := frozen5 hBx
      have hB2 := k1.trans (hb2.mono k1.size)
      obtain ⟨a4, c4, rfl⟩ := hown.shape
      generalize lo.length = m4 at *
      have hRs := ((grownBy_set w2 (w.heap.size + 1) 4 (.slice a4 m4 c4)).block w.heap.size (block_lt hR) (by simp)).trans hR
      have hB3 : Below w.heap.size w (w2.setCell ⟨w.heap.size + 1, 4, none⟩ (.slice a4 m4 c4)) := hB2.setCell (p := ⟨w.heap.size + 1, 4, none⟩) (by simp) _
      have hown3 := (hown.weaken k1.size).keptB hBx (by decide) 4 (.slice a4 m4 c4)
      have HKR := Lib.hid hRs
      have HOW := Lib.hid (show DRow (w2.setCell ⟨w.heap.size + 1, 4, none⟩ (.slice a4 m4 c4)) w.heap.size (.slice none 0 0) (.slice none 0 0) (.slice none 0 0) (.slice a4 m4 c4) ⟨t, [], [], [], lo⟩ from ⟨OwnNms.nil _ _, OwnG.nil _ _, OwnG.nil _ _, hown3⟩)
      have HB3 := Lib.hid hB3
      clear hR k2 k3 hBx hRs hB3 hown hown3 hB2
      by_cases he0 : (er != 0) = true
      · have H0 := Lib.hid (show parseD t (([92, 35], false) :: r) o = (Dat.none, er) by rw [HPD2.out, if_neg (by simpa using he0)])
        obtain ⟨q0, q1, q2, q3, q4⟩ := cells5 (set5_block HKR.out (.int .i64 0) (.slice none 0 0) (.slice none 0 0) (.slice none 0 0) (.slice none 0 0))
        unfold set5 at q0 q1 q2 q3 q4
        go_wp2_with fail
        exact bodyPost_ret (v := .tuple #[.agg #[.int .i64 0, .slice none 0 0, .slice none 0 0, .slice none 0 0, .slice none 0 0], .int .i64 er]) (by simp [results, Tryz.results18, go_sem, q0, q1, q2, q3, q4]) rfl (parseD_fin Dat.none er H0.out rfl (datAt_none _) (set5_below HB3.out _ _ _ _ _))
      · have he1 : er = 0 := by simpa using he0
        subst he1
        have H0 := Lib.hid (show parseD t (([92, 35], false) :: r) o = (⟨t, [], [], [], lo⟩, 0) by rw [HPD2.out, if_pos rfl])
        obtain ⟨q0, q1, q2, q3, q4⟩ := cells5 (set5_block HKR.out (.int .i64 t) (.slice none 0 0) (.slice none 0 0) (.slice none 0 0) (.slice a4 m4 c4))
        unfold set5 at q0 q1 q2 q3 q4
        clear he0
        go_wp2_with fail
        exact bodyPost_ret (v := .tuple #[.agg #[.int .i64 t, .slice none 0 0, .slice none 0 0, .slice none 0 0, .slice a4 m4 c4], .int .i64 0]) (by simp [results, Tryz.results18, go_sem, q0, q1, q2, q3, q4]) rfl (parseD_fin ⟨t, [], [], [], lo⟩ 0 H0.out rfl (set5_row HKR.out _ _ _ _ _ HOW.out).datAt (set5_below HB3.out _ _ _ _ _))
  · have HPD := Lib.hid (parseD_words (o := o) ht hoth)
    -- the world in which readWords is called
    have hW : ∀ W0, ((w.alloc (.cells #[.int .i64 0, .slice none 0 0, .slice none 0 0, .slice none 0 0, .slice none 0 0] 27)).alloc (.cells #[.int .i64 t, .slice none 0 0, .slice none 0 0, .slice none 0 0, .slice none 0 0] 27)) = W0 →
        Below w.heap.size w W0 ∧ W0.heap[w.heap.size]? = some (.cells #[.int .i64 0, .slice none 0 0, .slice none 0 0, .slice none 0 0, .slice none 0 0] 27) ∧
        Calls Tryz.prog 54 #[.pointer (some ⟨w.heap.size + 1, 0, none⟩), .slice a n c, vo] W0 (WordsPost (w.heap.size + 1) w.heap.size (wordsE (Dat.of t) o (formD t l.length) l) W0) := by
      rintro W0 rfl
      have hb0 : Below w.heap.size w ((w.alloc (.cells #[.int .i64 0, .slice none 0 0, .slice none 0 0, .slice none 0 0, .slice none 0 0] 27)).alloc (.cells #[.int .i64 t, .slice none 0 0, .slice none 0 0, .slice none 0 0, .slice none 0 0] 27)) := ((Below.refl _ w).alloc (Nat.le_refl _) _).alloc (by simp) _
      have e1 := block_new w (.cells #[.int .i64 0, .slice none 0 0, .slice none 0 0, .slice none 0 0, .slice none 0 0] 27)
      have e2 := block_new (w.alloc (.cells #[.int .i64 0, .slice none 0 0, .slice none 0 0, .slice none 0 0, .slice none 0 0] 27)) (.cells #[.int .i64 t, .slice none 0 0, .slice none 0 0, .slice none 0 0, .slice none 0 0] 27)
      rw [World.size_alloc] at e2
      refine ⟨hb0, ?_, ?_⟩
      · have hb1 := (Below.refl _ (w.alloc (.cells #[.int .i64 0, .slice none 0 0, .slice none 0 0, .slice none 0 0, .slice none 0 0] 27))).alloc (Nat.le_refl _) (.cells #[.int .i64 t, .slice none 0 0, .slice none 0 0, .slice none 0 0, .slice none 0 0] 27)
        exact (hb1.block w.heap.size (by simp)).trans e1
      · rw [← hn]
        exact rdata_readWords w _ (w.heap.size + 1) (Dat.of t) _ l vo o hb0 ⟨_, _, _, _, e2, OwnNms.nil _ _, OwnG.nil _ _, OwnG.nil _ _, OwnG.nil _ _⟩ (by omega) hA hk hO hok ho hM rfl rfl rfl hl
    obtain ⟨⟨d', er⟩, hq⟩ : ∃ q, wordsE (Dat.of t) o (formD t l.length) l = q := ⟨_, rfl⟩
    rw [hq] at hW
    have HW := Lib.hid hW
    have hcs : n = 0 ∨ (∃ (g off : Nat) (x : ByteArray) (q : Bool), a = some ⟨g, off, none⟩ ∧ 1 ≤ n ∧ g < w.heap.size ∧ w.cell? ⟨g, off, none⟩ = some (.string x) ∧ w.cell? ⟨g, off + 1, none⟩ = some (.bool q) ∧ ((x.toList == [92, 35]) = false ∨ ((x.toList == [92, 35]) = true ∧ q = true))) := by
      cases l with
      | nil => left; rw [← hn]; rfl
      | cons y r =>
        right
        rcases hx with hx | ⟨g, off, ea, hg, hc⟩
        · cases hx
        have hc1 := (hc 0 (by simp)).1
        have hc2 := (hc 0 (by simp)).2
        simp only [Nat.zero_mul, Nat.add_zero, List.getElem_cons_zero] at hc1 hc2
        obtain ⟨x, hx0, hxz, hxv⟩ := str_of y.1
        rw [hxv] at hc1
        refine ⟨g, off, x, y.2, ea, by rw [← hn]; simp, hg, hc1, hc2, ?_⟩
        by_cases h3 : y.1 = [92, 35]
        · right
          refine ⟨by rw [toList_data, hx0, h3]; rfl, ?_⟩
          cases hq : y.2 with
          | true => rfl
          | false => exact absurd (show (y :: r).head? = some ([92, 35], false) by rw [List.head?_cons, ← h3, ← hq]) hoth
        · left; rw [toList_data, hx0]; simpa using h3
    rw [hn]
    have hpd := HPD.out
    rw [hq] at hpd
    have HPD2 := Lib.hid hpd
    clear hpd HPD
    clear hx hnil hoth ht hA hk hO hok ho hM hl hn hW hq
    have hn0 : (0 : Int) ≤ (n : Int) := by omega
    rcases hcs with rfl | ⟨g, off, x, q, rfl, hn1, hg, hc1, hc2, hs⟩
    · go_enter Tryz.func18, Tryz.ntmps18
      go_wp2_with fail
      generalize hW0 : ((w.alloc (.cells #[.int .i64 0, .slice none 0 0, .slice none 0 0, .slice none 0 0, .slice none 0 0] 27)).alloc (.cells #[.int .i64 t, .slice none 0 0, .slice none 0 0, .slice none 0 0, .slice none 0 0] 27)) = W0
      obtain ⟨k1, k2, k3⟩ := HW.out W0 hW0
      clear hW0
      refine k3.mono ?_
      rintro e w2 ⟨rfl, hd2, hb2, hkw2⟩
      have hR := hkw2 w.heap.size _ (by omega) k2
      obtain ⟨r0, r1, r2, r3, r4⟩ := cells5 hR
      obtain ⟨f0, f1, f2, f3, f4⟩ := frozen5 hR
      have hB2 := k1.trans hb2
      have HKR := Lib.hid hR
      clear hR k2 hkw2
      simp only at hd2
      by_cases he0 : (er != 0) = true
      · have H0 := Lib.hid (show parseD t l o = (Dat.none, er) by rw [HPD2.out, if_neg (by simpa using he0)])
        clear hd2 HPD2
        obtain ⟨q0, q1, q2, q3, q4⟩ := cells5 (set5_block HKR.out (.int .i64 0) (.slice none 0 0) (.slice none 0 0) (.slice none 0 0) (.slice none 0 0))
        unfold set5 at q0 q1 q2 q3 q4
        go_wp2_with fail
        exact bodyPost_ret (v := .tuple #[.agg #[.int .i64 0, .slice none 0 0, .slice none 0 0, .slice none 0 0, .slice none 0 0], .int .i64 er]) (by simp [results, Tryz.results18, go_sem, q0, q1, q2, q3, q4]) rfl (parseD_fin Dat.none er H0.out rfl (datAt_none _) (set5_below hB2 _ _ _ _ _))
      · have he1 : er = 0 := by simpa using he0
        subst he1
        have H0 := Lib.hid (show parseD t l o = (d', 0) by rw [HPD2.out, if_pos rfl])
        obtain ⟨vn, vu, vt, vr, hbx, hrow⟩ := hd2 rfl
        obtain ⟨vs, hvs, hvl, hve⟩ := hrow.1
        obtain ⟨a1, c1, rfl⟩ := hvs.shape
        obtain ⟨a2, c2, rfl⟩ := hrow.2.1.shape
        obtain ⟨a3, c3, rfl⟩ := hrow.2.2.1.shape
        obtain ⟨a4, c4, rfl⟩ := hrow.2.2.2.shape
        clear hvs hve
        generalize vs.length = m1 at *
        generalize d'.nums.length = m2 at *
        generalize hm3 : d'.texts.length = m3 at *
        generalize d'.raw.length = m4 at *
        obtain ⟨b0, b1, b2, b3, b4⟩ := cells5 hbx
        obtain ⟨q0, q1, q2, q3, q4⟩ := cells5 (set5_block HKR.out (.int .i64 d'.ty) (.slice a1 m1 c1) (.slice a2 m2 c2) (.slice a3 m3 c3) (.slice a4 m4 c4))
        unfold set5 at q0 q1 q2 q3 q4
        have HROW := Lib.hid hrow
        clear hd2 he0 hbx hrow HPD2 hvl hm3
        go_wp2_with fail
        exact bodyPost_ret (v := .tuple #[.agg #[.int .i64 d'.ty, .slice a1 m1 c1, .slice a2 m2 c2, .slice a3 m3 c3, .slice a4 m4 c4], .int .i64 0]) (by simp [results, Tryz.results18, go_sem, q0, q1, q2, q3, q4]) rfl (parseD_fin d' 0 H0.out rfl (set5_row HKR.out _ _ _ _ _ HROW.out).datAt (set5_below hB2 _ _ _ _ _))
    · rcases hs with hs | ⟨hs, rfl⟩
      all_goals
        go_enter Tryz.func18, Tryz.ntmps18
        go_wp2_with fail
        generalize hW0 : ((w.alloc (.cells #[.int .i64 0, .slice none 0 0, .slice none 0 0, .slice none 0 0, .slice none 0 0] 27)).alloc (.cells #[.int .i64 t, .slice none 0 0, .slice none 0 0, .slice none 0 0, .slice none 0 0] 27)) = W0
        obtain ⟨k1, k2, k3⟩ := HW.out W0 hW0
        clear hW0
        refine k3.mono ?_
        rintro e w2 ⟨rfl, hd2, hb2, hkw2⟩
        have hR := hkw2 w.heap.size _ (by omega) k2
        obtain ⟨r0, r1, r2, r3, r4⟩ := cells5 hR
        obtain ⟨f0, f1, f2, f3, f4⟩ := frozen5 hR
        have hB2 := k1.trans hb2
        have HKR := Lib.hid hR
        clear hR k2 hkw2
        simp only at hd2
        by_cases he0 : (er != 0) = true
        · have H0 := Lib.hid (show parseD t l o = (Dat.none, er) by rw [HPD2.out, if_neg (by simpa using he0)])
          clear hd2 HPD2
          obtain ⟨q0, q1, q2, q3, q4⟩ := cells5 (set5_block HKR.out (.int .i64 0) (.slice none 0 0) (.slice none 0 0) (.slice none 0 0) (.slice none 0 0))
          unfold set5 at q0 q1 q2 q3 q4
          go_wp2_with fail
          exact bodyPost_ret (v := .tuple #[.agg #[.int .i64 0, .slice none 0 0, .slice none 0 0, .slice none 0 0, .slice none 0 0], .int .i64 er]) (by simp [results, Tryz.results18, go_sem, q0, q1, q2, q3, q4]) rfl (parseD_fin Dat.none er H0.out rfl (datAt_none _) (set5_below hB2 _ _ _ _ _))
        · have he1 : er = 0 := by simpa using he0
          subst he1
          have H0 := Lib.hid (show parseD t l o = (d', 0) by rw [HPD2.out, if_pos rfl])
          obtain ⟨vn, vu, vt, vr, hbx, hrow⟩ := hd2 rfl
          obtain ⟨vs, hvs, hvl, hve⟩ := hrow.1
          obtain ⟨a1, c1, rfl⟩ := hvs.shape
          obtain ⟨a2, c2, rfl⟩ := hrow.2.1.shape
          obtain ⟨a3, c3, rfl⟩ := hrow.2.2.1.shape
          obtain ⟨a4, c4, rfl⟩ := hrow.2.2.2.shape
          clear hvs hve
          generalize vs.length = m1 at *
          generalize d'.nums.length = m2 at *
          generalize hm3 : d'.texts.length = m3 at *
          generalize d'.raw.length = m4 at *
          obtain ⟨b0, b1, b2, b3, b4⟩ := cells5 hbx
          obtain ⟨q0, q1, q2, q3, q4⟩ := cells5 (set5_block HKR.out (.int .i64 d'.ty) (.slice a1 m1 c1) (.slice a2 m2 c2) (.slice a3 m3 c3) (.slice a4 m4 c4))
          unfold set5 at q0 q1 q2 q3 q4
          have HROW := Lib.hid hrow
          clear hd2 he0 hbx hrow HPD2 hvl hm3
          go_wp2_with fail
          exact bodyPost_ret (v := .tuple #[.agg #[.int .i64 d'.ty, .slice a1 m1 c1, .slice a2 m2 c2, .slice a3 m3 c3, .slice a4 m4 c4], .int .i64 0]) (by simp [results, Tryz.results18, go_sem, q0, q1, q2, q3, q4]) rfl (parseD_fin d' 0 H0.out rfl (set5_row HKR.out _ _ _ _ _ HROW.out).datAt (set5_below hB2 _ _ _ _ _))
end Go.Proofs.YtkjmghnbcnbdbaaGreatDoor

