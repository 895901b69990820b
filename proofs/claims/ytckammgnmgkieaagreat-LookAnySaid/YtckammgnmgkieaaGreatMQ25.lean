import Derived.Test.YtckammgnmgkieaaGreatMQ20
namespace Go.Proofs.YtckammgnmgkieaaGreat
set_option maxRecDepth 100000
set_option maxHeartbeats 8000000
open Go.RowKit Go.Shelf
theorem qg6 (v : Value) (d : Dat) (w : World) (hA : DatAt w v d) (hk : DatOK d) :
 Calls Tryz.prog 168 #[v] w (qec d w) := by
 have hCt := fun W => qjz d.ty W
 unfold qdE at hCt
 obtain ⟨vn, vu, vt, vr, rfl, ⟨vs, s1, sl, s2⟩, a2, a3, a4⟩ := id hA
 obtain ⟨an, cn, rfl, _⟩ := id s1
 obtain ⟨au, cu, rfl, _⟩ := id a2
 obtain ⟨ax, cx, rfl, _⟩ := id a3.1
 obtain ⟨ar, cr, rfl, _⟩ := id a4
 rw [List.length_map] at hA ⊢
 rw [List.length_map] at hA ⊢
 obtain ⟨t, ht⟩ : ∃ t, d.ty = t := ⟨_, rfl⟩
 obtain ⟨n1, hn1⟩ : ∃ n, vs.length = n := ⟨_, rfl⟩
 obtain ⟨n2, hn2⟩ : ∃ n, d.nums.length = n := ⟨_, rfl⟩
 obtain ⟨n3, hn3⟩ : ∃ n, d.texts.length = n := ⟨_, rfl⟩
 obtain ⟨n4, hn4⟩ : ∃ n, d.raw.length = n := ⟨_, rfl⟩
 have hnm : ∀ W, Below w.heap.size w W → ∀ j (h1 : j < vs.length) (h2 : j < d.names.length), NmAt W vs[j] d.names[j] := fun W hb j h1 _ => (s2 j h1).below hb
 have hcn := fun W (hb : Below w.heap.size w W) j (hj : j < vs.length) => s1.cell hb j hj
 have hcu := fun W (hb : Below w.heap.size w W) j (hj : j < (d.nums.map u32V).length) => a2.cell hb j hj
 have hcx := fun W (hb : Below w.heap.size w W) j (hj : j < d.texts.length) => a3.1.cell hb j hj
 rw [ht, hn1, hn2, hn3, hn4] at hA ⊢
 rw [ht] at hCt
 obtain ⟨⟨c1, c2, c3⟩, hc⟩ : ∃ c, qa6 t = c := ⟨_, rfl⟩
 rw [hc] at hCt
 simp only at hCt
 have hb0 : Below w.heap.size w (w.alloc (.cells #[.int .i64 t, .slice an n1 cn, .slice au n2 cu, .slice ax n3 cx, .slice ar n4 cr] 107)) := (Below.refl _ w).alloc (qN0) _
 by_cases hty : t < 1 ∨ 65535 < t
 ·have H0 := qH0 (qiY (d := d) (by rw [ht]; exact hty))
  have ht2 : t < 1 ∨ (¬ t < 1 ∧ 65535 < t) := by omega
  have HB0 := qH0 hb0
  clear hty hCt hc hnm hcn hcu hcx s1 s2 sl a2 a3 a4 ht hn1 hn2 hn3 hn4 hk hA hb0
  rcases ht2 with h1 | ⟨h1, h2⟩
  all_goals
   go_enter Tryz.func168, Tryz.ntmps168
   go_wp2
   go_ret
   exact qaJ 6 H0.out rfl HB0.out
 have h1 : ¬ t < 1 := by omega
 have h2 : ¬ 65535 < t := by omega
 have hcd : qa7 d = decide ((n1 : Int) = c1 ∧ (n2 : Int) = c2 ∧ (if t = 16 then 1 ≤ n3 ∧ n3 ≤ 32 else n3 = 0) ∧ (0 ≤ c3 → (n4 : Int) = c3)) := by
  unfold qa7
  rw [ht, hc, hn2, hn3, hn4, ← sl, hn1]
 have hT : ((t == 16) = true ∧ ¬ (1 : Int) ≤ (n3 : Int)) ∨ ((t == 16) = true ∧ (1 : Int) ≤ (n3 : Int) ∧ ¬ (n3 : Int) ≤ 32) ∨ ((t == 16) = false ∧ ((n3 : Int) == 0) = false)
  ∨ ((t == 16) = true ∧ (1 : Int) ≤ (n3 : Int) ∧ (n3 : Int) ≤ 32 ∧ Hid (if t = 16 then 1 ≤ n3 ∧ n3 ≤ 32 else n3 = 0)) ∨ ((t == 16) = false ∧ ((n3 : Int) == 0) = true ∧ Hid (if t = 16 then 1 ≤ n3 ∧ n3 ≤ 32 else n3 = 0)) := by
  by_cases h16 : t = 16
  ·have e : (t == 16) = true := by simpa using h16
   by_cases g1 : 1 ≤ n3
   ·by_cases g2 : n3 ≤ 32
    ·exact .inr (.inr (.inr (.inl ⟨e, by omega, by omega, qH0 (by rw [if_pos h16]; exact ⟨g1, g2⟩)⟩)))
    ·exact .inr (.inl ⟨e, by omega, by omega⟩)
   ·exact .inl ⟨e, by omega⟩
  ·have e : (t == 16) = false := by simpa using h16
   by_cases g1 : n3 = 0
   ·exact .inr (.inr (.inr (.inr ⟨e, by simpa using g1, qH0 (by rw [if_neg h16]; exact g1)⟩)))
   ·exact .inr (.inr (.inl ⟨e, by simpa using g1⟩))
 have hne : ∀ (a : Nat) (b : Int), b ≠ (a : Int) → ((a : Int) != b) = true := fun a b h => by rw [bne_iff_ne]; exact fun e => h e.symm
 cases hcm : qa7 d with
 | false =>
  have H0 := qH0 (qht (d := d) (by rw [ht]; exact hty) hcm)
  rw [hcd] at hcm
  have hcf := of_decide_eq_false hcm
  have HCF := qH0 hcf
  have HB0 := qH0 hb0
  clear hty hcd hnm hcn hcu hcx s1 s2 sl a2 a3 a4 ht hn1 hn2 hn3 hn4 hk hcm hA hb0 hcf hc
  rcases hT with ⟨h16, h17⟩ | ⟨h16, h17, h18⟩ | ⟨h16, h17⟩ | ⟨h16, h17, h18, HTX⟩ | ⟨h16, h17, HTX⟩
  all_goals
   by_cases e1 : c1 = (n1 : Int)
   ·subst e1
    by_cases e2 : c2 = (n2 : Int)
    ·subst e2
     by_cases e3 : 0 ≤ c3
     ·by_cases e4 : c3 = (n4 : Int)
      ·subst e4
       first
        | (refine absurd ?_ HCF.out; refine ⟨rfl, rfl, ?_, fun _ => rfl⟩; exact HTX.out)
        | (clear hne
           go_enter Tryz.func168, Tryz.ntmps168
           go_wp2_with (go_at_call 194; refine (hCt _).mono ?_; rintro e w2 ⟨rfl, rfl⟩)
           all_goals first
            | (exfalso; have hz := ‹(!decide ((n3 : Int) ≤ 32)) = false›; simp at hz; omega)
            | (go_ret; exact qaJ 2 H0.out rfl HB0.out))
      ·have h4 := hne _ _ e4
       clear hne e4
       go_enter Tryz.func168, Tryz.ntmps168
       go_wp2_with (go_at_call 194; refine (hCt _).mono ?_; rintro e w2 ⟨rfl, rfl⟩)
       go_ret
       exact qaJ 2 H0.out rfl HB0.out
     ·first
       | (refine absurd ?_ HCF.out; refine ⟨rfl, rfl, ?_, fun h => absurd h e3⟩; exact HTX.out)
       | (clear hne
          go_enter Tryz.func168, Tryz.ntmps168
          go_wp2_with (go_at_call 194; refine (hCt _).mono ?_; rintro e w2 ⟨rfl, rfl⟩)
          all_goals first
           | (exfalso; have hz := ‹(!decide ((n3 : Int) ≤ 32)) = false›; simp at hz; omega)
           | (go_ret; exact qaJ 2 H0.out rfl HB0.out))
    ·have h4 := hne _ _ e2
     clear hne e2
     go_enter Tryz.func168, Tryz.ntmps168
     go_wp2_with (go_at_call 194; refine (hCt _).mono ?_; rintro e w2 ⟨rfl, rfl⟩)
     go_ret
     exact qaJ 2 H0.out rfl HB0.out
   ·have h4 := hne _ _ e1
    clear hne e1
    go_enter Tryz.func168, Tryz.ntmps168
    go_wp2_with (go_at_call 194; refine (hCt _).mono ?_; rintro e w2 ⟨rfl, rfl⟩)
    go_ret
    exact qaJ 2 H0.out rfl HB0.out
 | true =>
  have hrest := qiH (d := d) (by rw [ht]; exact hty) hcm
  have hcm2 := hcm
  rw [hcd] at hcm2
  obtain ⟨e1, e2, hTX, hR4⟩ := of_decide_eq_true hcm2
  subst e1 e2
  have hT2 : ((t == 16) = true ∧ (1 : Int) ≤ (n3 : Int) ∧ (n3 : Int) ≤ 32) ∨ ((t == 16) = false ∧ ((n3 : Int) == 0) = true) := by
   by_cases h16 : t = 16
   ·rw [if_pos h16] at hTX
    exact .inl ⟨by simpa using h16, by omega, by omega⟩
   ·rw [if_neg h16] at hTX
    exact .inr ⟨by simpa using h16, by simpa using hTX⟩
  have hR2 : ((0 : Int) ≤ c3 ∧ c3 = (n4 : Int)) ∨ ¬ (0 : Int) ≤ c3 := by
   by_cases h : 0 ≤ c3
   ·exact .inl ⟨h, (hR4 h).symm⟩
   ·exact .inr h
  clear hT hne hcm2 hTX hR4 hc hcd
  have hn15 : t = 15 → n2 = 1 := fun h => by
   have e := qhY d 1 1 0 (by rw [ht, h]; rfl) (by rw [ht, h]; decide)
   rw [hcm] at e
   have := of_decide_eq_true e.symm
   omega
  have hnums0 : ∀ (h : 0 < d.nums.length), d.nums.headD 0 = d.nums[0] := fun h => qlo d.nums h
  have hnb : ∀ m ∈ d.nums, m < 2 ^ 32 := hk.2.2.2.2.1
  have hxb := hk.2.2.2.2.2.1
  have hnok := hk.2.2.1
  have hl1 : n1 ≤ 1048576 := by have := hk.2.1; omega
  have hl3 : n3 ≤ 1048576 := by have := hxb.1; omega
  have HL1 := qH0 (show d.names.length = n1 by rw [← sl, hn1])
  have HV1 := qH0 hn1
  have HL2 := qH0 hn2; have HL3 := qH0 hn3; have HL4 := qH0 hn4
  have hbox := fun j v hv => new_at w [.int .i64 t, .slice an n1 cn, .slice au n2 cu, .slice ax n3 cx, .slice ar n4 cr] 107 j v hv
  have HB0 := qH0 hb0
  have HCN := qH0 hcn; have HCU := qH0 hcu; have HCX := qH0 hcx; have HNM := qH0 hnm; have HNOK := qH0 hnok
  have HN15 := qH0 hn15; have HNS := qH0 hnums0; have HNB := qH0 hnb
  rw [ht] at hrest
  have HR := qH0 hrest
  clear hty hnm hcn hcu hcx s1 s2 sl a2 a3 a4 ht hn1 hn2 hn3 hn4 hk hcm hA hb0 hrest hnok hn15 hnums0 hnb hxb
  have hbs : w.heap.size < (w.alloc (.cells #[.int .i64 t, .slice an n1 cn, .slice au n2 cu, .slice ax n3 cx, .slice ar n4 cr] 107)).heap.size := by simp
  have HBX : Hid (∀ W, Below (w.alloc (.cells #[.int .i64 t, .slice an n1 cn, .slice au n2 cu, .slice ax n3 cx, .slice ar n4 cr] 107)).heap.size (w.alloc (.cells #[.int .i64 t, .slice an n1 cn, .slice au n2 cu, .slice ax n3 cx, .slice ar n4 cr] 107)) W →
   W.cell? ⟨w.heap.size, 0, none⟩ = some (.int .i64 t) ∧ W.cell? ⟨w.heap.size, 1, none⟩ = some (.slice an n1 cn) ∧ W.cell? ⟨w.heap.size, 2, none⟩ = some (.slice au n2 cu) ∧ W.cell? ⟨w.heap.size, 3, none⟩ = some (.slice ax n3 cx) ∧ W.cell? ⟨w.heap.size, 4, none⟩ = some (.slice ar n4 cr)) := qH0 (fun W hb =>
   ⟨(hb.cell (p := ⟨w.heap.size, 0, none⟩) hbs).trans (hbox 0 _ rfl), (hb.cell (p := ⟨w.heap.size, 1, none⟩) hbs).trans (hbox 1 _ rfl), (hb.cell (p := ⟨w.heap.size, 2, none⟩) hbs).trans (hbox 2 _ rfl), (hb.cell (p := ⟨w.heap.size, 3, none⟩) hbs).trans (hbox 3 _ rfl), (hb.cell (p := ⟨w.heap.size, 4, none⟩) hbs).trans (hbox 4 _ rfl)⟩)
  clear hbox
  have hX := HBX.out _ (qL0)
  obtain ⟨x0, x1, x2, x3, x4⟩ := hX
  rcases hT2 with ⟨h16, h17, h18⟩ | ⟨h16, h17⟩ <;> rcases hR2 with ⟨h19, h20⟩ | h19
  all_goals
   try subst h20
   go_enter Tryz.func168, Tryz.ntmps168
   go_wp2_with (go_at_call 194; refine (hCt _).mono ?_; rintro e w2 ⟨rfl, rfl⟩)
   obtain ⟨W0, hW0⟩ : ∃ W0, w.alloc (.cells #[.int .i64 t, .slice an n1 cn, .slice au n2 cu, .slice ax n3 cx, .slice ar n4 cr] 107) = W0 := ⟨_, rfl⟩
   rw [hW0] at x0 x1 x2 x3 x4 HBX HB0 ⊢
   clear hW0 hbs x0 x1 x2 x3 x4
   have hb2 := Below.refl W0.heap.size W0
   have hW0z := HB0.out.size
   go_loopw [7, 8] (fun i ez wr => ∃ k : Nat, i = .int .i64 k ∧ k ≤ n1 ∧ Hid (qav (d.names.take k) = 0) ∧ Below W0.heap.size W0 wr) (fun i _ _ => n1 - (intOf i).toNat)
   case atStart => exact ⟨0, rfl, Nat.zero_le _, qH0 rfl, hb2⟩
   case round =>
    obtain ⟨k, rfl, hk0, HC0, hBk⟩ := hrel
    have hBw : Below w.heap.size w wr := HB0.out.trans (hBk.mono hW0z)
    obtain ⟨x0, x1, x2, x3, x4⟩ := HBX.out _ hBk
    by_cases hlt : k < n1
    ·have hkd : k < d.names.length := by rw [HL1.out]; exact hlt
     have hkv : k < vs.length := by rw [HV1.out]; exact hlt
     obtain ⟨g, off, rfl, hg, hcell⟩ := HCN.out wr hBw k hkv
     have hNC := qbJ vs[k] d.names[k] wr (HNM.out wr hBw k hkv hkd).1 (HNOK.out _ (List.getElem_mem hkd))
     have hsn : qav (d.names.take (k + 1)) = checkN d.names[k] := by rw [List.take_succ_eq_append_getElem hkd, qhH, if_pos HC0.out]
     obtain ⟨er, her⟩ : ∃ er, checkN d.names[k] = er := ⟨_, rfl⟩
     rw [her] at hNC hsn
     have HSN := qH0 hsn
     clear her hsn
     obtain ⟨⟨pa, pc, ep, _⟩, _⟩ := id (HNM.out wr hBw k hkv hkd)
     rw [ep] at hcell hNC
     obtain ⟨pn, hpn⟩ : ∃ n, d.names[k].length = n := ⟨_, rfl⟩
     rw [hpn] at hcell hNC
     clear ep hpn
     by_cases he : (er != 0) = true
     ·have H0 := qH0 (show checkD d = er by
       have hne : er ≠ 0 := by simpa using he
       have hst : qav d.names = er := by rw [qhR (List.take_prefix (k + 1) d.names) (by rw [HSN.out]; exact hne), HSN.out]
       rw [HR.out, if_pos (by rw [hst]; exact hne), hst])
      go_wp2_with (go_at_call 68; refine hNC.mono ?_; rintro e w3 ⟨rfl, rfl⟩)
      go_ret
      exact qaJ er H0.out rfl hBw
     ·have he0 : er = 0 := by simpa using he
      subst he0
      clear he
      go_wp2_with (go_at_call 68; refine hNC.mono ?_; rintro e w3 ⟨rfl, rfl⟩)
      go_roundw
      case rel => exact ⟨k + 1, by go_num, by omega, HSN, hBk⟩
      case measure => simp [intOf]; omega
    ·obtain rfl : k = n1 := by omega
     have hc0 := HC0.out
     rw [List.take_of_length_le (by rw [HL1.out]; exact qN0)] at hc0
     have hz := HR.out
     rw [if_neg (by rw [hc0]; simp)] at hz
     clear hc0 HC0
     by_cases h15 : (t == 15) = true
     ·have ht15 : t = 15 := by simpa using h15
      have hn2 := HN15.out ht15
      have hnl : 0 < d.nums.length := by rw [HL2.out, hn2]; omega
      obtain ⟨g, off, rfl, hg, hcu⟩ := HCU.out wr hBw 0 (by rw [List.length_map]; exact hnl)
      rw [List.getElem_map, Nat.add_zero] at hcu
      unfold u32V at hcu
      have hh := HNS.out hnl
      rw [hh] at hz
      have hnb := HNB.out _ (List.getElem_mem hnl)
      obtain ⟨m, hm⟩ : ∃ m, d.nums[0] = m := ⟨_, rfl⟩
      rw [hm] at hcu hz hnb
      have hm0 : (0 : Int) ≤ (m : Int) := by omega
      have hm1 : (m : Int) ≤ 4294967295 := by omega
      have hn2i : (0 : Int) < (n2 : Int) := by omega
      clear hh hm hnb hnl
      by_cases hov : 65535 < (m : Int)
      ·have H0 := qH0 (show checkD d = 7 by rw [hz, if_pos ⟨ht15, by omega⟩])
       clear hz ht15 hn2
       go_wp2
       go_ret
       exact qaJ 7 H0.out rfl hBw
      ·have HZ := qH0 (show checkD d = if longT d.texts then 3 else if 1024 < d.raw.length then 3 else 0 by rw [hz, if_neg (by omega)])
       clear hz ht15 hn2
       go_wp2_with fail
       go_loop [9] (fun i => ∃ j : Nat, i = .int .i64 j ∧ j ≤ n3 ∧ Hid (longT (d.texts.take j) = false)) (fun i => n3 - (intOf i).toNat)
       case atStart => exact ⟨0, rfl, Nat.zero_le _, qH0 rfl⟩
       case round =>
        obtain ⟨j, rfl, hj, HT⟩ := hrel
        by_cases hjt : j < n3
        ·have hjx : j < d.texts.length := by rw [HL3.out]; exact hjt
         obtain ⟨g, off, rfl, hg, hcell⟩ := HCX.out wr hBw j hjx
         obtain ⟨x, hx0, hxz, hxv⟩ := str_of d.texts[j]
         rw [hxv] at hcell
         by_cases hlong : 255 < (x.size : Int)
         ·have H0 := qH0 (show checkD d = 3 by rw [HZ.out, if_pos (qgJ hjx (by omega))])
          clear hx0 hxz hxv
          go_wp2
          go_ret
          exact qaJ 3 H0.out rfl hBw
         ·have HT2 := qH0 (show longT (d.texts.take (j + 1)) = false by
           rw [List.take_succ_eq_append_getElem hjx, qfs, HT.out]
           simp; omega)
          clear hx0 hxz hxv HT
          go_wp2
          go_round
          case rel => exact ⟨j + 1, by go_num, by omega, HT2⟩
          case measure => simp [intOf]; omega
        ·obtain rfl : j = n3 := by omega
         have hlt0 := HT.out
         rw [List.take_of_length_le (by rw [HL3.out]; exact qN0)] at hlt0
         have HZ2 := qH0 (show checkD d = if 1024 < n4 then 3 else 0 by rw [HZ.out, if_neg (by rw [hlt0]; simp), HL4.out])
         clear hlt0 HT HZ
         by_cases hraw : 1024 < (n4 : Int)
         ·have H0 := qH0 (show checkD d = 3 by rw [HZ2.out, if_pos (by omega)])
          go_wp2
          go_ret
          exact qaJ 3 H0.out rfl hBw
         ·have H0 := qH0 (show checkD d = 0 by rw [HZ2.out, if_neg (by omega)])
          go_wp2
          go_ret
          exact qaJ 0 H0.out rfl hBw
     ·have h15f : (t == 15) = false := by simpa using h15
      have HZ := qH0 (show checkD d = if longT d.texts then 3 else if 1024 < d.raw.length then 3 else 0 by rw [hz, if_neg (by rintro ⟨h, _⟩; apply h15; simp [h])])
      clear hz h15
      go_wp2_with fail
      go_loop [9] (fun i => ∃ j : Nat, i = .int .i64 j ∧ j ≤ n3 ∧ Hid (longT (d.texts.take j) = false)) (fun i => n3 - (intOf i).toNat)
      case atStart => exact ⟨0, rfl, Nat.zero_le _, qH0 rfl⟩
      case round =>
       obtain ⟨j, rfl, hj, HT⟩ := hrel
       by_cases hjt : j < n3
       ·have hjx : j < d.texts.length := by rw [HL3.out]; exact hjt
        obtain ⟨g, off, rfl, hg, hcell⟩ := HCX.out wr hBw j hjx
        obtain ⟨x, hx0, hxz, hxv⟩ := str_of d.texts[j]
        rw [hxv] at hcell
        by_cases hlong : 255 < (x.size : Int)
        ·have H0 := qH0 (show checkD d = 3 by rw [HZ.out, if_pos (qgJ hjx (by omega))])
         clear hx0 hxz hxv
         go_wp2
         go_ret
         exact qaJ 3 H0.out rfl hBw
        ·have HT2 := qH0 (show longT (d.texts.take (j + 1)) = false by
          rw [List.take_succ_eq_append_getElem hjx, qfs, HT.out]
          simp; omega)
         clear hx0 hxz hxv HT
         go_wp2
         go_round
         case rel => exact ⟨j + 1, by go_num, by omega, HT2⟩
         case measure => simp [intOf]; omega
       ·obtain rfl : j = n3 := by omega
        have hlt0 := HT.out
        rw [List.take_of_length_le (by rw [HL3.out]; exact qN0)] at hlt0
        have HZ2 := qH0 (show checkD d = if 1024 < n4 then 3 else 0 by rw [HZ.out, if_neg (by rw [hlt0]; simp), HL4.out])
        clear hlt0 HT HZ
        by_cases hraw : 1024 < (n4 : Int)
        ·have H0 := qH0 (show checkD d = 3 by rw [HZ2.out, if_pos (by omega)])
         go_wp2
         go_ret
         exact qaJ 3 H0.out rfl hBw
        ·have H0 := qH0 (show checkD d = 0 by rw [HZ2.out, if_neg (by omega)])
         go_wp2
         go_ret
         exact qaJ 0 H0.out rfl hBw
theorem qhX (cs : List Value) (r : Rc) (w : World) (hA : RcAt w cs r) (hk : RcOK r) :
 Calls Tryz.prog 123 #[.agg cs.toArray] w fun e w' => e = .returned (.int .i64 (checkR r)) ∧ Below w.heap.size w w' := by
 obtain ⟨vo, vn, vu, vt, vr, rfl, a1, a2⟩ := hA
 have HN := qH0 (fun W (hb : Below w.heap.size w W) => qkw vo r.owner _ rfl W (a1.below hb) hk.1)
 have HD := qH0 (fun W (hb : Below w.heap.size w W) => qg6 _ r.data W (a2.below hb) hk.2.2)
 unfold qec at HD
 have hR := qH0 (show checkR r = if checkN r.owner ≠ 0 then checkN r.owner else if 2147483647 < r.ttl then 7 else checkD r.data from rfl)
 generalize checkR r = res at *
 generalize checkN r.owner = q at *
 generalize checkD r.data = q2 at *
 generalize r.data.ty = x at *
 obtain ⟨t, ht⟩ : ∃ t, r.ttl = t := ⟨_, rfl⟩
 rw [ht] at hR ⊢
 have hb0 : Below w.heap.size w (w.alloc (.cells #[vo, .int .u32 (t : Int), .int .i64 x, vn, vu, vt, vr] 109)) := (Below.refl w.heap.size w).alloc (qN0) _
 have K1 := qH0 (knew w (.cells #[vo, .int .u32 (t : Int), .int .i64 x, vn, vu, vt, vr] 109))
 have HBB := qH0 hb0
 have hn := HN.out _ hb0
 clear a1 a2 hb0 hk ht HN
 by_cases hq : q = 0
 ·subst hq
  by_cases hov : 2147483647 < t
  ·have HR : Hid (res = 7) := qH0 (by rw [hR.out, if_neg (by simp), if_pos hov])
   have hovz : (2147483647 : Int) < (t : Int) := by omega
   clear hR
   go_enter Tryz.func123, Tryz.ntmps123
   go_wp2_with fail
   refine hn.mono ?_
   rintro e w1 ⟨rfl, hb1⟩
   have c1 := (hb1.block _ (qaa K1.out)).trans K1.out
   have p1 := kcell c1 1 (.int .u32 (t : Int)) rfl
   have HB1 := qH0 (qB0 HBB.out hb1)
   clear hn hb1 c1
   go_wp2
   go_ret
   exact ⟨by rw [HR.out]; rfl, HB1.out⟩
  ·have HR : Hid (res = q2) := qH0 (by rw [hR.out, if_neg (by simp), if_neg hov])
   have hovz : ¬ (2147483647 : Int) < (t : Int) := by omega
   clear hR
   go_enter Tryz.func123, Tryz.ntmps123
   go_wp2_with fail
   refine hn.mono ?_
   rintro e w1 ⟨rfl, hb1⟩
   have c1 := (hb1.block _ (qaa K1.out)).trans K1.out
   have p1 := kcell c1 1 (.int .u32 (t : Int)) rfl; have p2 := kcell c1 2 _ rfl; have p3 := kcell c1 3 _ rfl; have p4 := kcell c1 4 _ rfl; have p5 := kcell c1 5 _ rfl; have p6 := kcell c1 6 _ rfl
   have HB1 := qH0 (qB0 HBB.out hb1)
   have hd := HD.out w1 HB1.out
   clear hn hb1 c1
   go_wp2_with fail
   refine hd.mono ?_
   rintro e w2 ⟨rfl, hb2⟩
   go_wp2
   go_ret
   exact ⟨by rw [HR.out]; rfl, qB0 HB1.out hb2⟩
 ·have HR : Hid (res = q) := qH0 (by rw [hR.out, if_pos hq])
  have hqz : (q == 0) = false := by simpa using hq
  have hqn : (q != 0) = true := by simpa using hq
  clear hR
  go_enter Tryz.func123, Tryz.ntmps123
  go_wp2_with fail
  refine hn.mono ?_
  rintro e w1 ⟨rfl, hb1⟩
  have HB1 := qH0 (qB0 HBB.out hb1)
  clear hn hb1
  go_wp2
  go_ret
  exact ⟨by rw [HR.out]; rfl, HB1.out⟩
theorem qdm (cs cs' : List Value) (a b : Rc) (w : World) (hA : RcAt w cs a) (hU : RcAt w cs' b) (hk : RcOK a) (hk2 : RcOK b) :
 Calls Tryz.prog 119 #[.agg cs.toArray, .agg cs'.toArray] w fun e w' => e = .returned (.int .i64 (qac a b)) ∧ Below w.heap.size w w' := by
 obtain ⟨vo, vn, vu, vt, vr, rfl, a1, a2⟩ := hA
 obtain ⟨uo, un, uu, ut, ur, rfl, b1, b2⟩ := hU
 have hb0 := fun o o' => ((Below.refl w.heap.size w).alloc (qN0) o).alloc (o := o') (by simp)
 have HN := qH0 (fun W (hb : Below w.heap.size w W) => qiN vo uo a.owner b.owner _ rfl W (a1.below hb) (b1.below hb) hk.1 hk2.1)
 have HD := qH0 (fun W (hb : Below w.heap.size w W) => qc1 _ _ a.data b.data W (a2.below hb) (b2.below hb) hk.2.2 hk2.2.2)
 have hR := qH0 (show qac a b = orI (qai a.owner b.owner) (qao a.data b.data) from rfl)
 generalize qac a b = r at *
 generalize qai a.owner b.owner = q at *
 generalize qao a.data b.data = q2 at *
 generalize a.data.ty = x at *
 generalize b.data.ty = y at *
 generalize (a.ttl : Int) = ta at *
 generalize (b.ttl : Int) = tb at *
 obtain ⟨O1, hO1⟩ : ∃ O, O = Obj.cells #[vo, .int .u32 ta, .int .i64 x, vn, vu, vt, vr] 109 := ⟨_, rfl⟩
 obtain ⟨O2, hO2⟩ : ∃ O, O = Obj.cells #[uo, .int .u32 tb, .int .i64 y, un, uu, ut, ur] 109 := ⟨_, rfl⟩
 have hbb := hb0 O1 O2
 have HBB := qH0 hbb
 have hn := HN.out _ hbb
 have k1 : ((w.alloc O1).alloc O2).heap[w.heap.size]? = some O1 := (Below.heap_alloc (w.alloc O1) O2 w.heap.size (by simp)).trans (knew w O1)
 have k2 : ((w.alloc O1).alloc O2).heap[w.heap.size + 1]? = some O2 := by have := knew (w.alloc O1) O2; simpa using this
 rw [hO1] at k1 k2 hn HBB
 rw [hO2] at k1 k2 hn HBB
 have K1 := qH0 k1; have K2 := qH0 k2
 clear k1 k2 hbb hb0 a1 a2 b1 b2 hk hk2 hO1 hO2
 by_cases hq : q = 0
 ·subst hq
  have HR : Hid (r = q2) := qH0 (by rw [hR.out]; rfl)
  clear hR
  go_enter Tryz.func119, Tryz.ntmps119
  go_wp2_with fail
  refine hn.mono ?_
  rintro e w1 ⟨rfl, hb1⟩
  have HB1 := qH0 (qB0 HBB.out hb1)
  have c1 := (hb1.block _ (qaa K1.out)).trans K1.out
  have c2 := (hb1.block _ (qaa K2.out)).trans K2.out
  have p2 := kcell c1 2 _ rfl; have p3 := kcell c1 3 _ rfl; have p4 := kcell c1 4 _ rfl; have p5 := kcell c1 5 _ rfl; have p6 := kcell c1 6 _ rfl
  have r2 := kcell c2 2 _ rfl; have r3 := kcell c2 3 _ rfl; have r4 := kcell c2 4 _ rfl; have r5 := kcell c2 5 _ rfl; have r6 := kcell c2 6 _ rfl
  clear hb1 c1 c2 hn
  have hd := HD.out w1 HB1.out
  go_wp2_with fail
  refine hd.mono ?_
  rintro e w2 ⟨rfl, hb2⟩
  go_wp2
  go_ret
  exact ⟨by rw [HR.out]; rfl, qB0 HB1.out hb2⟩
 ·have HR : Hid (r = q) := qH0 (by rw [hR.out]; unfold orI; rw [if_neg hq])
  have hqz : (q == 0) = false := by simpa using hq
  have hqn : (q != 0) = true := by simpa using hq
  clear hR
  go_enter Tryz.func119, Tryz.ntmps119
  go_wp2_with fail
  refine hn.mono ?_
  rintro e w1 ⟨rfl, hb1⟩
  have HB1 := qH0 (qB0 HBB.out hb1)
  clear hb1 hn
  go_wp2
  go_ret
  exact ⟨by rw [HR.out]; rfl, HB1.out⟩
theorem qiT (cs cs' : List Value) (a b : Rc) (w : World) (hA : RcAt w cs a) (hU : RcAt w cs' b) (hk : RcOK a) (hk2 : RcOK b) :
 Calls Tryz.prog 120 #[.agg cs.toArray, .agg cs'.toArray] w fun e w' => e = .returned (.bool (sameR a b)) ∧ Below w.heap.size w w' := by
 have HS := qH0 (fun W (hb : Below w.heap.size w W) => qdm cs cs' a b W (hA.below hb) (hU.below hb) hk hk2)
 obtain ⟨vo, vn, vu, vt, vr, rfl, -⟩ := hA
 obtain ⟨uo, un, uu, ut, ur, rfl, -⟩ := hU
 have hR := qH0 (show sameR a b = (qac a b == 0) from rfl)
 generalize sameR a b = res at *
 generalize qac a b = q at *
 generalize a.data.ty = x at *
 generalize b.data.ty = y at *
 generalize (a.ttl : Int) = ta at *
 generalize (b.ttl : Int) = tb at *
 obtain ⟨O1, hO1⟩ : ∃ O, O = Obj.cells #[vo, .int .u32 ta, .int .i64 x, vn, vu, vt, vr] 109 := ⟨_, rfl⟩
 obtain ⟨O2, hO2⟩ : ∃ O, O = Obj.cells #[uo, .int .u32 tb, .int .i64 y, un, uu, ut, ur] 109 := ⟨_, rfl⟩
 have hbb := ((Below.refl w.heap.size w).alloc (qN0) O1).alloc (o := O2) (by simp)
 have HBB := qH0 hbb
 have hn := HS.out _ hbb
 rw [hO1, hO2] at hn HBB
 clear hbb hk hk2 hO1 hO2 HS
 go_enter Tryz.func120, Tryz.ntmps120
 go_wp2_with fail
 refine hn.mono ?_
 rintro e w1 ⟨rfl, hb1⟩
 have HB1 := qH0 (qB0 HBB.out hb1)
 clear hb1 hn
 go_wp2
 go_ret
 exact ⟨by rw [hR.out]; rfl, HB1.out⟩
theorem qag {S T : TypeId} {k bytes : Nat} (W : World) (s x : Operand) (hE : ElemK k T S bytes) (hk0 : 0 < k)
 (base : Nat) (v : Value) (xs : List (List Value)) (hown : OwnC k T W base v xs)
 (src : Value) (ys : List (List Value)) (hsrc : SlK W src ys) (hyk : ∀ cs ∈ ys, cs.length = k) (hy1 : ∀ cs ∈ ys, ∀ u ∈ cs, u.oneCell' = true)
 (hbase : base ≤ W.heap.size) (hk : xs.length + ys.length ≤ maxLen) (hk2 : (xs.length + ys.length) * bytes ≤ 140737488355328)
 (ops : Array Oper) (o : Oper) (a : Act) (K : Act → World → Prop) (Q : Exit → Act → World → Prop) (E : Prop) (hgd : o.guard = none)
 (ho : o.op = .call { callee := .builtin .append, args := #[s, x], argTypes := #[S, S] }) (hs : a.eval s = v) (hx : a.eval x = src)
 (h : ∀ v' w', OwnC k T w' base v' (xs ++ ys) → W.grownBy w' v.ownBlock → K (a.put o.dst v') w') :
 if Region.wanted o (yielded ops a.tmps) = true then Oper.wp Tryz.prog o a W K Q else E :=
 qbp W hgd s x hE hk0 ho base v xs hs hown src ys hx hsrc hyk hy1 hbase hk hk2 h
end Go.Proofs.YtckammgnmgkieaaGreat
