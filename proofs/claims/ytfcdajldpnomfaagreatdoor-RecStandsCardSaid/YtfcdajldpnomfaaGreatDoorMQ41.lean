/-
  rdata.octetWords.
-/
import Derived.Test.YtfcdajldpnomfaaGreatDoorMQ21
import Derived.Test.YtfcdajldpnomfaaGreatDoorMQ42
import Derived.ArgAppend
import Derived.Lib.SlBytesConst
import Derived.Test.YtfcdajldpnomfaaGreatDoorMQ18
import Derived.Test.YtfcdajldpnomfaaGreatDoorMQ33
namespace Go.Proofs.YtfcdajldpnomfaaGreatDoor
set_option maxRecDepth 20000
open Go.RowKit Go.Shelf
set_option maxRecDepth 20000

theorem append_int (base : Nat) (v : Value) (xs : List UInt8) (n : Nat) (w0 w : World) (hT : Tab w0) (hb : w0.heap.size = base) (hB : Below base w0 w) (hown : OwnG 5 bv w base v xs) (hx : xs.length ≤ 1048576) (hn : n ≤ 1048576) :
    Calls Tryz.prog 127 #[v, .int .i64 n, .int .i64 10] w fun e w' => ∃ v', e = .returned v' ∧ OwnG 5 bv w' base v' (xs ++ Lib.decDigits n) ∧ Below base w w' := by
  subst hb
  refine (Tryz.strconv_AppendInt_10 w0.heap.size xs.length (n : Int) (by omega) (by omega) v (xs.map bv) w hown hB.size (by omega) (fun W' hb => (Lib.tabBelow_of_tabIs hT) W' (hB.trans hb))).mono ?_
  rintro e w' ⟨v', rfl, ho, hb, _⟩
  refine ⟨v', rfl, ?_, hb⟩
  rw [Lib.itoa_nonneg] at ho
  unfold OwnG
  rw [List.length_append, List.map_append]
  exact ho
theorem hexC_index (n : Nat) (h : n < 16) : ([48, 49, 50, 51, 52, 53, 54, 55, 56, 57, 97, 98, 99, 100, 101, 102] : List UInt8)[n]'(by simp only [List.length_cons, List.length_nil]; omega) = hexC n := by
  have key : ∀ m : Fin 16, ([48, 49, 50, 51, 52, 53, 54, 55, 56, 57, 97, 98, 99, 100, 101, 102] : List UInt8)[m.val]'(by have := m.isLt; simp only [List.length_cons, List.length_nil]; omega) = hexC m.val := by decide
  exact key ⟨n, h⟩
theorem hex2_len (l : List UInt8) : (l.flatMap hex2).length = 2 * l.length := by
  induction l with
  | nil => rfl
  | cons c r ih => simp only [List.flatMap_cons, List.length_append, ih, hex2, List.length_cons, List.length_nil]; omega

theorem cell_of_blockM {W : World} {B : Nat} {cs : Array Value} {t : TypeId} {fr : Nat × Nat} (h : W.heap[B]? = some (.cells cs t fr)) (j : Nat) (v : Value) (hv : cs[j]? = some v) : W.cell? ⟨B, j, none⟩ = some v := by
  simp only [World.cell?, h]
  simpa using hv
theorem and15 (x : UInt8) : bits .and .u8 (x.toNat : Int) 15 = (x.toNat : Int) % 16 := by
  have h := x.toNat_lt
  have e : bits .and .u8 (x.toNat : Int) ((15 : Nat) : Int) = ((x.toNat &&& 15 : Nat) : Int) := u8_and_nat _ _ (by omega) (by omega)
  have e2 : x.toNat &&& 15 = x.toNat % 16 := Nat.and_two_pow_sub_one_eq_mod x.toNat 4
  rw [e2] at e
  exact e
theorem digs (n : Int) (k : Nat) (hk : k < 16) (hn : n = k) (h : n.toNat < (⟨#[48, 49, 50, 51, 52, 53, 54, 55, 56, 57, 97, 98, 99, 100, 101, 102]⟩ : ByteArray).size) : (⟨#[48, 49, 50, 51, 52, 53, 54, 55, 56, 57, 97, 98, 99, 100, 101, 102]⟩ : ByteArray)[n.toNat]'h = hexC k := by
  subst hn
  exact hexC_index k hk
theorem lit_olds (w : World) (C : List Value) (E : TypeId) (fr : Nat × Nat) (o : Obj) : ∀ b, some (⟨w.heap.size, 0, none⟩ : Addr) = some b → ∀ (j : Nat) (u : Value), C[j]? = some u → ((w.alloc (.cells C.toArray E fr)).alloc o).cell? (b.add j) = some u := by
  rintro b hb j u hu
  cases hb
  rw [Go.WideShapes.add_plain, Nat.zero_add]
  have h1 := block_new w (.cells C.toArray E fr)
  have h2 : ((w.alloc (.cells C.toArray E fr)).alloc o).heap[w.heap.size]? = some (.cells C.toArray E fr) := (((Below.refl _ (w.alloc (.cells C.toArray E fr))).alloc (Nat.le_refl _) o).block w.heap.size (by simp)).trans h1
  exact cell_of_blockM h2 j u (by simpa using hu)
set_option maxRecDepth 100000 in
set_option maxHeartbeats 8000000 in
theorem rdata_octetWords (v : Value) (raw : List UInt8) (w : World) (hA : SlAt w v (raw.map bv)) (hk : raw.length ≤ 1048576) (hT0 : Tab w) :
    Calls Tryz.prog 89 #[v] w fun e w' => e = .returned (.string ⟨(octetWordsM raw).toArray⟩) ∧ Below w.heap.size w w' := by
  obtain ⟨an, cn, rfl, _⟩ := id hA
  have hcell := fun W (hb : Below w.heap.size w W) j (hj : j < (raw.map bv).length) => hA.cell hb j hj
  obtain ⟨n, hn⟩ : ∃ n, raw.length = n := ⟨_, rfl⟩
  have HL := Lib.hid hn
  have hnb : n ≤ 1048576 := by omega
  have hn0 : (0 : Int) ≤ (n : Int) := by omega
  have hdl := dec_len n (by omega)
  obtain ⟨ds, hds⟩ : ∃ ds, Lib.decDigits n = ds := ⟨_, rfl⟩
  have hOW : octetWordsM raw = [92, 35, 32] ++ ds ++ (if raw = [] then [] else 32 :: raw.flatMap hex2) := by unfold octetWordsM; rw [hn, hds]
  have HOW := Lib.hid hOW
  have HDS := Lib.hid hds
  rw [List.length_map, hn]
  rw [hds] at hdl
  have hown0 := lit_u8 w [92, 35] (by simp)
  have hB0 : Below w.heap.size w (w.alloc (.cells ([(92 : UInt8), 35].map bv).toArray 5)) := (Below.refl _ w).alloc (Nat.le_refl _) _
  have hAI := fun W va (hB : Below w.heap.size w W) (ho : OwnG 5 bv W w.heap.size va [92, 35, 32]) => append_int w.heap.size va [92, 35, 32] n w W hT0 rfl hB ho (by simp) hnb
  rw [hds] at hAI
  have HCE := Lib.hid hcell
  clear hn hk hA hds hOW hcell
  go_enter Tryz.func89, Tryz.ntmps89
  obtain ⟨i0, hi, hz0, hz1, hz2⟩ := info_parts info_u8
  have kc := fun (W : World) (C : Array Value) (m c : Nat) => Lib.run_convert_bytes_const (P := Tryz.prog) W 27 5 C m c Tryz.underlying27 Tryz.underlying5
  go_wp2_with (first | (at_builtin; refine wpList_append_grows _ rfl (.tmp 7) (.tmp 8) 27 rfl 5 i0 (.int .u8 0) 1 1 Tryz.underlying27 hi hz0 hz1 hz2 rfl (by omega) (some ⟨w.heap.size, 0, none⟩) 2 2 [.int .u8 92, .int .u8 35] rfl (fun h => by cases h) rfl (lit_olds w _ _ _ _) ⟨w.heap.size + 1, 0, none⟩ 1 1 [.int .u8 32] rfl rfl (by rw [← World.size_alloc w (.cells #[.int .u8 92, .int .u8 35] 5 (2, 3))]; exact cells_new _ [.int .u8 32] _) (by simp [Value.oneCell']) (by omega) (by unfold maxLen; omega) (by omega) ?_; intro v3 w3 ho3 hg3) | fail)
  have hb3 : Below w.heap.size w w3 := ((((Below.refl _ w).alloc (Nat.le_refl _) _).alloc (by simp) _).grown hg3 (by simp; omega) (fun k e => by simp at e))
  have hown3 : OwnG 5 bv w3 w.heap.size v3 [92, 35, 32] := by
    have h : OwnG 5 bv w3 (w.heap.size + 1 + 1) v3 [92, 35, 32] := by
      have h0 := ho3
      simp only [World.size_alloc] at h0
      exact h0
    exact h.weaken (by omega)
  clear ho3 hg3 hown0 hB0 kc
  refine (hAI _ _ hb3 hown3).mono ?_
  rintro e w4 ⟨v4, rfl, hown4, hb4⟩
  have hB4 := hb3.trans hb4
  clear hAI hb3 hown3 hb4
  by_cases h0 : n = 0
  · subst h0
    have hraw : raw = [] := List.eq_nil_of_length_eq_zero HL.out
    have HO2 := Lib.hid (show octetWordsM raw = [92, 35, 32] ++ ds by rw [HOW.out, if_pos hraw, List.append_nil])
    have hcv := OwnU8.string hown4
    clear hraw
    go_wp2_with fail
    go_loopw [3, 22] (fun u i wr => u = v4 ∧ i = .int .i64 0 ∧ w4 = wr) (fun _ _ _ => 0)
    case atStart => exact ⟨rfl, rfl, rfl⟩
    case round =>
      obtain ⟨rfl, rfl, rfl⟩ := hrel
      go_wp2_with fail
      go_ret
      exact ⟨by rw [HO2.out]; rfl, hB4⟩
  · have h1 : (0 : Int) < (n : Int) := by omega
    have hraw : raw ≠ [] := fun e => h0 (by rw [← HL.out, e]; rfl)
    have HO2 := Lib.hid (show octetWordsM raw = [92, 35, 32] ++ ds ++ [32] ++ raw.flatMap hex2 by rw [HOW.out, if_neg hraw]; simp)
    obtain ⟨a4, c4, rfl⟩ := hown4.shape
    generalize hdl4 : ([92, 35, 32] ++ ds).length = m4 at *
    have HD4 := Lib.hid hdl4
    clear hraw h0 hdl4
    go_wp2_with (first | (at_builtin; refine wpl_append_g w4 rfl (.tmp 17) (.tmp 18) elemU8 rfl bv_one1 w.heap.size (.slice a4 m4 c4) ([92, 35, 32] ++ ds) rfl hown4 [.int .u8 32] [32] rfl 1 1 rfl rfl hB4.size (by have := HD4.out; unfold maxLen; simp at this ⊢; omega) (by have := HD4.out; simp at this ⊢; omega) ?_; intro v5 w5 hown5 hg5; have hB5 := hB4.grown hg5 hB4.size hown4.base_le) | fail)
    go_loopw [3, 22] (fun u i wr => ∃ (k : Nat) (xs : List UInt8), i = .int .i64 k ∧ k ≤ n ∧ OwnG 5 bv wr w.heap.size u xs ∧ Below w.heap.size w wr ∧ Hid (xs = [92, 35, 32] ++ ds ++ [32] ++ (raw.take k).flatMap hex2)) (fun _ i _ => n - (intOf i).toNat)
    case atStart => exact ⟨0, _, rfl, Nat.zero_le _, hown5, hB5, Lib.hid (by simp)⟩
    case round =>
      obtain ⟨k, xs, rfl, hk0, hown, hB, HX⟩ := hrel
      have hBz := hB.size
      by_cases hlt : k < n
      · have hkd : k < raw.length := by rw [HL.out]; exact hlt
        obtain ⟨g, off, rfl, hg, hc⟩ := HCE.out wr hB k (by rw [List.length_map]; exact hkd)
        rw [List.getElem_map] at hc
        have HX2 := Lib.hid (show xs ++ hex2 raw[k] = [92, 35, 32] ++ ds ++ [32] ++ (raw.take (k + 1)).flatMap hex2 by
          rw [HX.out, List.take_succ_eq_append_getElem hkd, List.flatMap_append]; simp)
        have hxl : xs.length ≤ 4194304 := by
          rw [HX.out]
          have := hex2_len (raw.take k)
          have h2 : (raw.take k).length ≤ k := List.length_take_le _ _
          simp only [List.length_append, this, List.length_cons, List.length_nil]; omega
        have hcc : (raw[k].toNat : Int) ≤ 255 := by have := raw[k].toNat_lt; omega
        have hc0 : (0 : Int) ≤ (raw[k].toNat : Int) := by omega
        obtain ⟨au, cu, rfl⟩ := hown.shape
        obtain ⟨dl, hdl⟩ : ∃ dl, xs.length = dl := ⟨_, rfl⟩
        have hown2 : wr.ownsRow w.heap.size 5 1 (.slice au dl cu) dl (xs.map bv) := by
          have h := hown
          unfold OwnG at h
          rw [hdl] at h
          exact h
        rw [hdl] at hown hxl ⊢
        have HDL := Lib.hid hdl
        have HOB := Lib.hid hown.base_le
        have hag : (Value.slice au dl cu).ownBlock ≠ some g := fun e => by have := hown.base_le g e; omega
        have hgw : g < wr.heap.size := by omega
        unfold bv at hc
        clear hdl hown
        generalize raw[k] = x at *
        have hand : bits .and .u8 (x.toNat : Int) 15 = (x.toNat : Int) % 16 := and15 x
        have hm0 : (0 : Int) ≤ (x.toNat : Int) % 16 := by omega
        have hm1 : (x.toNat : Int) % 16 < 16 := by omega
        have hq0 : (0 : Int) ≤ (x.toNat : Int) / 16 := by omega
        have hq1 : (x.toNat : Int) / 16 < 16 := by omega
        go_wp2
        go_region_held3 (fun w' => w'.cell? ⟨g, off + k, none⟩ = some (.int .u8 (x.toNat : Int)))
          (first
            | go_keep
            | (rw [hgrow.cell_far _ (by simp; omega) (Ne.symm hag)]; assumption))
          ((refine step_append_lies _ (by rfl) _ _ _ (by rfl) w.heap.size 5 i0 (.int .u8 0) 1 1 Tryz.underlying27 hi hz0 hz1 hz2 rfl (by omega) (.slice au dl cu) dl (xs.map bv) (by rfl) ((hown2.alloc _).drew)
                ⟨wr.heap.size, 0, none⟩ 2 2 [.int .u8 _, .int .u8 _] (by rfl) (by rfl) (World.news_of_block (cs := #[.int .u8 _, .int .u8 _]) (t := 5) (fr := (0, 0)) (heap_alloc_new wr _)) (by simp [Value.oneCell'])
                (by omega) (by unfold maxLen; omega) (by omega) (by simp; omega) (wr.heap.size + 1) (by simp) ?_; intro gg cap w6 hown6 hgrow hat hlt6))
        all_goals
          have hB6 : Below w.heap.size w w6 := hB.trans (((Below.refl _ wr).alloc hBz _).drew |>.grown hgrow (by simp; omega) (fun k e => by have := HOB.out k e; omega))
          have hown7 : OwnG 5 bv w6 w.heap.size (.slice (some ⟨gg, 0, none⟩) (dl + 2) cap) (xs ++ hex2 x) := by
            have hx := x.toNat_lt
            rw [digs ((x.toNat : Int) / 16) (x.toNat / 16) (by omega) (by omega), digs ((x.toNat : Int) % 16) (x.toNat % 16) (by omega) (by omega)] at hown6
            unfold OwnG
            rw [List.length_append, HDL.out, List.map_append]
            exact hown6
          clear hown6 hand
          go_wp2
          go_roundw
          case rel => exact ⟨k + 1, _, by go_num, by omega, hown7, hB6, HX2⟩
          case measure => simp [intOf]; omega
      · obtain rfl : k = n := by omega
        have hxe : xs = octetWordsM raw := by rw [HX.out, HO2.out, List.take_of_length_le (by rw [HL.out]; exact Nat.le_refl _)]
        have hcv := OwnU8.string hown
        have HXE := Lib.hid hxe
        clear hxe HX
        go_wp2_with fail
        go_ret
        exact ⟨by rw [← HXE.out]; rfl, hB⟩
end Go.Proofs.YtfcdajldpnomfaaGreatDoor

/-
  The document's words of data: its quoted, hex, Joined.
-/
namespace Go.Proofs.YtfcdajldpnomfaaGreatDoor
set_option maxRecDepth 20000
open Go.RowKit Go.Shelf
set_option maxRecDepth 20000

set_option maxHeartbeats 4000000 in
theorem ref_quoted (s : ByteArray) (w : World) (hs : s.size ≤ 1099511627776) :
    Calls Tryz.prog 95 #[.string s] w fun e w' => e = .returned (.string ⟨(quotedM s.data.toList).toArray⟩) ∧ Below w.heap.size w w' := by
  go_enter Tryz.func95, Tryz.ntmps95
  go_wp2
  go_loopw [3, 4] (fun v i wr => ∃ k : Nat, i = .int .i64 k ∧ k ≤ s.size ∧ v = .string ⟨(34 :: quoteF (s.data.toList.take k)).toArray⟩ ∧ Below w.heap.size w wr) (fun _ i _ => s.size - (intOf i).toNat)
  case atStart => exact ⟨0, rfl, Nat.zero_le _, rfl, Below.refl _ _⟩
  case round =>
    obtain ⟨k, rfl, hk, rfl, hb⟩ := hrel
    have hle := quoteF_le (s.data.toList.take k)
    have hlen : (s.data.toList.take k).length ≤ k := List.length_take_le _ _
    by_cases hlt : k < s.size
    · have hsn := take_snoc_get s k hlt
      have hx1 := extract_one s k hlt
      have HS : Hid (34 :: quoteF (s.data.toList.take (k + 1)) = (34 :: quoteF (s.data.toList.take k)) ++ quoteW s[k]) := Lib.hid (by rw [hsn, quoteF_snoc]; rfl)
      clear hsn
      have hz : (ByteArray.mk (34 :: quoteF (s.data.toList.take k)).toArray).size ≤ 4 * k + 1 := by show (34 :: quoteF (s.data.toList.take k)).toArray.size ≤ _; simp; omega
      have hEs := ref_escaped s[k]
      have hbs := hb.size
      clear hle hlen
      generalize hT : 34 :: quoteF (s.data.toList.take k) = T at *
      clear hT
      have hc255 : (s[k].toNat : Int) ≤ 255 := by have := s[k].toNat_lt; omega
      have sign : ((s[k].toNat : Int) == 34) = true ∨ (((s[k].toNat : Int) == 34) = false ∧ ((s[k].toNat : Int) == 92) = true) ∨ (((s[k].toNat : Int) == 34) = false ∧ ((s[k].toNat : Int) == 92) = false) := by
        cases ((s[k].toNat : Int) == 34) <;> cases ((s[k].toNat : Int) == 92) <;> simp
      have a1 := run_string_add_sum (P := Tryz.prog) wr ⟨T.toArray⟩ ⟨#[92]⟩ (by show _ + 1 ≤ _; omega)
      have e1 : (⟨T.toArray⟩ : ByteArray) ++ ⟨#[92]⟩ = ⟨(T ++ [92]).toArray⟩ := mk_append T [92]
      have a2 := run_string_add_sum (P := Tryz.prog) wr ⟨(T ++ [92]).toArray⟩ ⟨#[s[k]]⟩ (by rw [← e1, ByteArray.size_append]; show _ + 1 + 1 ≤ _; omega)
      have e2 : (⟨(T ++ [92]).toArray⟩ : ByteArray) ++ ⟨#[s[k]]⟩ = ⟨(T ++ [92] ++ [s[k]]).toArray⟩ := mk_append (T ++ [92]) [s[k]]
      rw [e1] at a1
      rw [e2] at a2
      have a3 := run_string_add_sum (P := Tryz.prog) wr ⟨T.toArray⟩ ⟨#[s[k]]⟩ (by show _ + 1 ≤ _; omega)
      have e3 : (⟨T.toArray⟩ : ByteArray) ++ ⟨#[s[k]]⟩ = ⟨(T ++ [s[k]]).toArray⟩ := mk_append T [s[k]]
      rw [e3] at a3
      have a4 := fun W => run_string_add_sum (P := Tryz.prog) W ⟨T.toArray⟩ ⟨(octetEsc s[k]).toArray⟩ (by show _ + (octetEsc s[k]).toArray.size ≤ _; simp [octetEsc]; omega)
      have e4 : (⟨T.toArray⟩ : ByteArray) ++ ⟨(octetEsc s[k]).toArray⟩ = ⟨(T ++ octetEsc s[k]).toArray⟩ := mk_append T (octetEsc s[k])
      rw [e4] at a4
      clear e1 e2 e3 e4 hz
      rcases sign with h34 | ⟨h34, h92⟩ | ⟨h34, h92⟩
      · have HW := Lib.hid (show quoteW s[k] = [92, s[k]] from quoteW_sign (.inl h34))
        clear a3 a4 hEs
        go_wp2
        go_roundw
        case rel => exact ⟨k + 1, by go_num, by omega, by rw [HS.out, HW.out], hb⟩
        case measure => simp [intOf]; omega
      · have HW := Lib.hid (quoteW_sign (.inr h92))
        clear a3 a4 hEs
        go_wp2
        go_roundw
        case rel => exact ⟨k + 1, by go_num, by omega, by rw [HS.out, HW.out], hb⟩
        case measure => simp [intOf]; omega
      · by_cases hpl : 32 ≤ (s[k].toNat : Int) ∧ (s[k].toNat : Int) ≤ 126
        · obtain ⟨hp1, hp2⟩ := hpl
          have HW := Lib.hid (quoteW_plain h34 h92 hp1 hp2)
          clear a1 a2 a4 hEs
          go_wp2
          go_roundw
          case rel => exact ⟨k + 1, by go_num, by omega, by rw [HS.out, HW.out], hb⟩
          case measure => simp [intOf]; omega
        · have HW := Lib.hid (quoteW_esc h34 h92 (by omega))
          clear a1 a2 a3
          by_cases hp1 : 32 ≤ (s[k].toNat : Int)
          all_goals
            go_wp2_with (go_at_call 129; refine (hEs _).mono ?_; rintro e w2 ⟨rfl, hb2⟩)
            try (exfalso; omega)
            try (go_roundw
                 case rel => exact ⟨k + 1, by go_num, by omega, by rw [HS.out, HW.out], hb.trans (hb2.mono hbs)⟩
                 case measure => simp [intOf]; omega)
    · obtain rfl : k = s.size := by omega
      have ht : s.data.toList.take s.size = s.data.toList := List.take_of_length_le (by simp)
      rw [ht] at hle hlen ⊢
      have hz : (ByteArray.mk (34 :: quoteF s.data.toList).toArray).size ≤ 4 * s.size + 1 := by show (34 :: quoteF s.data.toList).toArray.size ≤ _; rw [size_data] at hle; simp; omega
      have HQ := Lib.hid (show quotedM s.data.toList = (34 :: quoteF s.data.toList) ++ [34] from by simp [quotedM, quoteF])
      have a1 := run_string_add_sum (P := Tryz.prog) wr ⟨(34 :: quoteF s.data.toList).toArray⟩ ⟨#[34]⟩ (by show _ + 1 ≤ _; omega)
      have e1 : (⟨(34 :: quoteF s.data.toList).toArray⟩ : ByteArray) ++ ⟨#[34]⟩ = ⟨((34 :: quoteF s.data.toList) ++ [34]).toArray⟩ := mk_append _ [34]
      rw [e1] at a1
      clear e1 hz hle hlen ht
      generalize quoteF s.data.toList = T at *
      go_wp2
      go_ret
      exact ⟨by rw [HQ.out]; simp, hb⟩

/-! ### Joined -/
theorem sepBy_snoc (sep : List UInt8) (x : List UInt8) : ∀ l : Nm, sepBy sep (l ++ [x]) = if l = [] then x else sepBy sep l ++ sep ++ x
  | [] => rfl
  | [y] => by simp [sepBy]
  | y :: z :: r => by
    have ih := sepBy_snoc sep x (z :: r)
    rw [if_neg (by simp)] at ih ⊢
    have e : sepBy sep ((y :: z :: r) ++ [x]) = y ++ sep ++ sepBy sep ((z :: r) ++ [x]) := rfl
    rw [e, ih]
    simp [sepBy]
theorem sepBy_pre1 (sep : List UInt8) (a : Nm) (x : List UInt8) : (sepBy sep a).length ≤ (sepBy sep (a ++ [x])).length := by
  rw [sepBy_snoc]
  by_cases h : a = []
  · subst h; simp [sepBy]
  · rw [if_neg h]; simp only [List.length_append]; omega
theorem sepBy_pre (sep : List UInt8) : ∀ (b a : Nm), (sepBy sep a).length ≤ (sepBy sep (a ++ b)).length
  | [], a => by simp
  | x :: b, a => by
    have h := sepBy_pre sep b (a ++ [x])
    rw [List.append_assoc] at h
    exact Nat.le_trans (sepBy_pre1 sep a x) h

set_option maxHeartbeats 4000000 in
theorem ref_Joined (v : Value) (xs : Nm) (sep : List UInt8) (w : World) (hA : StrsAt w v xs) (hN : xs.length ≤ 1048576) (hlen : (sepBy sep xs).length ≤ 140737488355328) :
    Calls Tryz.prog 93 #[v, .string ⟨sep.toArray⟩] w fun e w' => e = .returned (.string ⟨(sepBy sep xs).toArray⟩) ∧ Below w.heap.size w w' := by
  obtain ⟨a, c, rfl, _⟩ := id hA
  obtain ⟨n, hn⟩ : ∃ n, xs.length = n := ⟨_, rfl⟩
  have hcell := fun W' (hb : Below w.heap.size w W') j hj => hA.cell hb j hj
  rw [hn] at hN ⊢
  have HN := Lib.hid hn
  have HL := Lib.hid hlen
  clear hA hn hlen
  go_enter Tryz.func93, Tryz.ntmps93
  go_wp2
  go_loopw [5, 6] (fun u i wr => ∃ (k : Nat) (T : List UInt8), i = .int .i64 k ∧ k ≤ n ∧ u = .string ⟨T.toArray⟩ ∧ Below w.heap.size w wr ∧ Hid (sepBy sep (xs.take k) = T)) (fun _ i _ => n - (intOf i).toNat)
  case atStart => exact ⟨0, [], rfl, Nat.zero_le _, rfl, Below.refl _ _, Lib.hid rfl⟩
  case round =>
    obtain ⟨k, T, rfl, hkn, rfl, hB, HF⟩ := hrel
    by_cases hlt : k < n
    · have hkp : k < xs.length := by rw [HN.out]; exact hlt
      obtain ⟨g, off, rfl, hg, hc⟩ := hcell wr hB k hkp
      obtain ⟨s, hs0, hsz, hsv⟩ := str_of xs[k]
      rw [hsv] at hc
      have hr : sepBy sep (xs.take (k + 1)) = if xs.take k = [] then xs[k] else T ++ sep ++ xs[k] := by rw [List.take_succ_eq_append_getElem hkp, sepBy_snoc, HF.out]
      have hpl : (sepBy sep (xs.take (k + 1))).length ≤ 140737488355328 := by
        refine Nat.le_trans ?_ HL.out
        have h := sepBy_pre sep (xs.drop (k + 1)) (xs.take (k + 1))
        rw [List.take_append_drop] at h; exact h
      obtain rfl : s = ⟨xs[k].toArray⟩ := ba_ext (by simpa using hs0)
      clear hs0 hsz hsv
      by_cases hk0 : k = 0
      · have ht0 : xs.take k = [] := by rw [hk0]; rfl
        have hT : T = [] := by rw [← HF.out, ht0]; rfl
        subst hT
        rw [if_pos ht0] at hr
        rw [hr] at hpl
        have HR := Lib.hid hr; clear hr
        generalize xs[k] = y at *
        have hk1 : ¬ (0 : Int) < (k : Int) := by omega
        have HK0 := Lib.hid hk0
        clear ht0 hk0
        have a1 := run_string_add_sum (P := Tryz.prog) wr ⟨#[]⟩ ⟨y.toArray⟩ (by have h1 := mk_size y; have h2 : (⟨#[]⟩ : ByteArray).size = 0 := rfl; omega)
        have e1 : (⟨#[]⟩ : ByteArray) ++ ⟨y.toArray⟩ = ⟨y.toArray⟩ := mk_append [] y
        rw [e1] at a1
        clear e1 hpl HF
        go_wp2
        go_roundw
        case rel => exact ⟨k + 1, y, by go_num, by omega, rfl, hB, HR⟩
        case measure => simp [intOf]; omega
      · rw [if_neg (by intro e; have := congrArg List.length e; rw [List.length_take, List.length_nil] at this; omega)] at hr
        rw [hr] at hpl
        have HR := Lib.hid hr; clear hr
        generalize xs[k] = y at *
        have hk1 : (0 : Int) < (k : Int) := by omega
        simp only [List.length_append] at hpl
        have a1 := run_string_add_sum (P := Tryz.prog) wr ⟨T.toArray⟩ ⟨sep.toArray⟩ (by rw [mk_size, mk_size]; omega)
        rw [mk_append] at a1
        have a2 := run_string_add_sum (P := Tryz.prog) wr ⟨(T ++ sep).toArray⟩ ⟨y.toArray⟩ (by rw [mk_size, mk_size, List.length_append]; omega)
        rw [mk_append] at a2
        clear hpl HF
        generalize hZ : T ++ sep ++ y = Z at *
        generalize hY : T ++ sep = Y at *
        clear hZ hY
        go_wp2
        go_roundw
        case rel => exact ⟨k + 1, Z, by go_num, by omega, rfl, hB, HR⟩
        case measure => simp [intOf]; omega
    · obtain rfl : k = n := by omega
      have HR := Lib.hid (show sepBy sep xs = T from by rw [← HF.out, List.take_of_length_le (by rw [HN.out]; exact Nat.le_refl _)])
      go_wp2
      go_ret
      exact ⟨by rw [HR.out]; rfl, hB⟩

/-! ### hex -/
/-- What hex's loop comes to. -/
def hexR (w n : Nat) (s : List UInt8) : List UInt8 := if 0 < n ∨ s.length < w then hexR w (n / 16) (hexC (n % 16) :: s) else s
termination_by n + (w - s.length)
decreasing_by simp; omega
theorem hexD_small {n : Nat} (h : n < 16) : hexD n = [hexC n] := by rw [hexD, dif_pos h]
theorem hexD_big {n : Nat} (h : ¬ n < 16) : hexD n = hexD (n / 16) ++ [hexC (n % 16)] := by
  conv => lhs; rw [hexD]
  rw [dif_neg h]
theorem hexR_step {w n : Nat} {s : List UInt8} (h : 0 < n ∨ s.length < w) : hexR w n s = hexR w (n / 16) (hexC (n % 16) :: s) := by rw [hexR, if_pos h]
theorem hexR_stop {w n : Nat} {s : List UInt8} (h : ¬ (0 < n ∨ s.length < w)) : hexR w n s = s := by rw [hexR, if_neg h]
theorem hexR_long (w : Nat) : ∀ (n : Nat) (s : List UInt8), w ≤ s.length → hexR w n s = (if n = 0 then [] else hexD n) ++ s := by
  intro n
  induction n using Nat.strongRecOn with
  | _ n ih =>
    intro s hs
    by_cases h0 : n = 0
    · subst h0; rw [hexR_stop (by omega)]; simp
    · rw [hexR_step (by omega), ih (n / 16) (by omega) _ (by simp; omega), if_neg h0]
      by_cases h16 : n < 16
      · rw [hexD_small h16, if_pos (by omega), Nat.mod_eq_of_lt h16]; rfl
      · rw [hexD_big h16, if_neg (by omega)]; simp
theorem hexR_one (n : Nat) : hexR 1 n [] = hexD n := by
  rw [hexR_step (by simp), hexR_long 1 _ _ (by simp)]
  by_cases h16 : n < 16
  · rw [hexD_small h16, if_pos (by omega), Nat.mod_eq_of_lt h16]; rfl
  · rw [hexD_big h16, if_neg (by omega)]
theorem hexR_two (c : UInt8) : hexR 2 c.toNat [] = hex2 c := by
  have := c.toNat_lt
  rw [hexR_step (by simp), hexR_step (by simp), hexR_stop (by simp; omega)]
  unfold hex2
  rw [Nat.mod_eq_of_lt (by omega : c.toNat / 16 < 16)]
def strLen : Value → Nat | .string b => b.size | _ => 0
def hexDigits : ByteArray := ⟨#[48, 49, 50, 51, 52, 53, 54, 55, 56, 57, 97, 98, 99, 100, 101, 102]⟩
theorem hexDigits_at : ∀ k : Fin 16, hexDigits.extract k.1 (k.1 + 1) = ⟨#[hexC k.1]⟩ := by decide

set_option maxHeartbeats 4000000 in
theorem ref_hex (n0 wd : Nat) (w : World) (h1 : wd ≤ 2) (hn : n0 < 65536) :
    Calls Tryz.prog 94 #[.int .i64 (n0 : Int), .int .i64 (wd : Int)] w fun e w' => e = .returned (.string ⟨(hexR wd n0 []).toArray⟩) ∧ Below w.heap.size w w' := by
  have HD := Lib.hid hexDigits_at
  go_enter Tryz.func94, Tryz.ntmps94
  go_wp2
  go_loopw [0, 5] (fun a t wr => ∃ (n : Nat) (l : List UInt8), a = .int .i64 (n : Int) ∧ t = .string ⟨l.toArray⟩ ∧ n < 65536 ∧ Hid (l.length ≤ 4 ∧ n * 16 ^ l.length ≤ n0 ∧ hexR wd n0 [] = hexR wd n l) ∧ Below w.heap.size w wr) (fun a t _ => (intOf a).toNat + (wd - strLen t))
  case atStart => exact ⟨n0, [], rfl, rfl, hn, Lib.hid ⟨by simp, by simp, rfl⟩, Below.refl _ _⟩
  case round =>
    obtain ⟨n, l, rfl, rfl, hn2, HE, hB⟩ := hrel
    have hn0 : (0 : Int) ≤ (n : Int) := by omega
    have hp1 : (0 : Int) ≤ (n : Int) % 16 := by omega
    have hp2 : (n : Int) % 16 + 1 ≤ 16 := by omega
    have hz : (⟨l.toArray⟩ : ByteArray).size = l.length := mk_size l
    by_cases h0 : 0 < n ∨ l.length < wd
    · have hx := HD.out ⟨n % 16, by omega⟩
      have hx : (⟨#[48, 49, 50, 51, 52, 53, 54, 55, 56, 57, 97, 98, 99, 100, 101, 102]⟩ : ByteArray).extract (n % 16) (n % 16 + 1) = ⟨#[hexC (n % 16)]⟩ := hx
      have HN := Lib.hid (show l.length + 1 ≤ 4 ∧ (n / 16) * 16 ^ (l.length + 1) ≤ n0 ∧ hexR wd n0 [] = hexR wd (n / 16) (hexC (n % 16) :: l) from by
        obtain ⟨g1, g2, g3⟩ := HE.out
        refine ⟨?_, ?_, by rw [g3, hexR_step h0]⟩
        · rcases Nat.eq_zero_or_pos n with e | e
          · omega
          · by_cases h4 : l.length < 4
            · omega
            · have h5 : (16 : Nat) ^ 4 ≤ 16 ^ l.length := Nat.pow_le_pow_right (by omega) (by omega)
              have h6 : 1 * 16 ^ l.length ≤ n * 16 ^ l.length := Nat.mul_le_mul_right _ e
              omega
        · have h7 : n / 16 * 16 * 16 ^ l.length ≤ n * 16 ^ l.length := Nat.mul_le_mul_right _ (Nat.div_mul_le_self n 16)
          rw [Nat.pow_succ, Nat.mul_comm (16 ^ l.length) 16, ← Nat.mul_assoc]
          omega)
      generalize hexC (n % 16) = c at *
      have a1 := run_string_add_sum (P := Tryz.prog) wr ⟨#[c]⟩ ⟨l.toArray⟩ (by rw [mk_size l]; show 1 + l.length ≤ _; have := HN.out.1; omega)
      have e1 : (⟨#[c]⟩ : ByteArray) ++ ⟨l.toArray⟩ = ⟨(c :: l).toArray⟩ := mk_append [c] l
      rw [e1] at a1
      have HM := Lib.hid (show n / 16 + (wd - (l.length + 1)) < n + (wd - l.length) from by omega)
      clear e1
      by_cases hpos : (0 : Int) < (n : Int)
      · clear h0 hz
        go_wp2
        go_roundw
        case rel => exact ⟨n / 16, c :: l, congrArg (Value.int .i64) (by omega), rfl, by omega, HN, hB⟩
        case measure => have := HM.out; simp only [intOf, strLen, mk_size, List.length_cons]; omega
      · have hlw : (l.length : Int) < (wd : Int) := by omega
        have hlw2 : ((⟨l.toArray⟩ : ByteArray).size : Int) < (wd : Int) := by rw [hz]; exact hlw
        obtain rfl : n = 0 := by omega
        have hx0 : (⟨#[48, 49, 50, 51, 52, 53, 54, 55, 56, 57, 97, 98, 99, 100, 101, 102]⟩ : ByteArray).extract 0 1 = ⟨#[c]⟩ := hx
        clear h0 hz hx hpos
        go_wp2
        go_roundw
        case rel => exact ⟨0, c :: l, rfl, rfl, by omega, HN, hB⟩
        case measure => have := HM.out; simp only [intOf, strLen, mk_size, List.length_cons]; omega
    · have hpos : ¬ (0 : Int) < (n : Int) := by omega
      have hlw : ¬ (l.length : Int) < (wd : Int) := by omega
      have hlw2 : ¬ ((⟨l.toArray⟩ : ByteArray).size : Int) < (wd : Int) := by rw [hz]; exact hlw
      have HR := Lib.hid (show hexR wd n0 [] = l from by rw [HE.out.2.2, hexR_stop h0])
      clear h0 hz
      go_wp2
      go_ret
      exact ⟨by rw [HR.out]; rfl, hB⟩
end Go.Proofs.YtfcdajldpnomfaaGreatDoor

