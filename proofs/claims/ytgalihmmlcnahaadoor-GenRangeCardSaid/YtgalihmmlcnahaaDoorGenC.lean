/-
  gen.Parse.
-/
import Derived.Test.YtgalihmmlcnahaaDoorGenR
import Derived.Test.YtgalihmmlcnahaaDoorShelf
import Derived.Lib.IndexMore
namespace Go.Proofs.YtgalihmmlcnahaaDoor
open Go.RowKit Go.Shelf
set_option maxRecDepth 20000
set_option linter.unusedVariables false
set_option linter.unusedSimpArgs false

/-- The library's longest needle is laid. -/
def MaxG (W : World) : Prop := ∃ m : Int, W.cell? ⟨0, 0, none⟩ = some (.int .i64 m) ∧ 0 < W.heap.size
theorem MaxG.below {W W' : World} (h : MaxG W) (hb : Below W.heap.size W W') : MaxG W' := by
  obtain ⟨m, h1, h2⟩ := h
  exact ⟨m, (hb.cell (p := ⟨_, 0, none⟩) h2).trans h1, Nat.lt_of_lt_of_le h2 hb.size⟩
def cutA (c : UInt8) : List UInt8 → List UInt8 × List UInt8 × Bool
  | [] => ([], [], false)
  | d :: l => if d = c then ([], l, true) else (d :: (cutA c l).1, (cutA c l).2.1, (cutA c l).2.2)
theorem cutA_not (c : UInt8) : ∀ l : List UInt8, (cutA c l).2.2 = false → (cutA c l).1 = l ∧ (cutA c l).2.1 = [] := by
  intro l
  induction l with
  | nil => intro _; exact ⟨rfl, rfl⟩
  | cons d l ih =>
    intro h
    unfold cutA at h ⊢
    by_cases hd : d = c
    · rw [if_pos hd] at h; cases h
    · rw [if_neg hd] at h ⊢
      obtain ⟨h1, h2⟩ := ih h
      exact ⟨by rw [h1], h2⟩
theorem cutA_len (c : UInt8) : ∀ l : List UInt8, (cutA c l).1.length ≤ l.length ∧ (cutA c l).2.1.length ≤ l.length := by
  intro l
  induction l with
  | nil => exact ⟨Nat.le_refl _, Nat.le_refl _⟩
  | cons d l ih =>
    unfold cutA
    split
    · simp
    · simp only [List.length_cons]; omega
theorem cut_one (c : UInt8) : ∀ l : List UInt8, Lib.cut l [c] = cutA c l := by
  intro l
  unfold Lib.cut
  rw [Lib.index_one]
  induction l with
  | nil => rfl
  | cons d l ih =>
    unfold Lib.indexByte cutA
    by_cases hd : d = c
    · subst hd
      simp
    · have hb : (d == c) = false := by simpa using hd
      rw [if_neg hd, hb]
      have hge := Lib.indexByte_ge l c
      by_cases h1 : Lib.indexByte l c = -1
      · rw [h1] at ih ⊢
        simp at ih ⊢
        rw [← ih]
        exact ⟨rfl, rfl, rfl⟩
      · have hb1 : (Lib.indexByte l c == -1) = false := by simpa using h1
        rw [hb1]
        have h0 : 0 ≤ Lib.indexByte l c := by omega
        rw [if_pos h0] at ih
        rw [← ih]
        simp only [Bool.false_eq_true, if_false]
        rw [if_pos (by omega)]
        obtain ⟨k, hk⟩ : ∃ k : Nat, Lib.indexByte l c = (k : Int) := ⟨(Lib.indexByte l c).toNat, by omega⟩
        rw [hk]
        have e : ((k : Int) + 1).toNat = k + 1 := by omega
        rw [e]
        simp
theorem strings_Cut1 (s : ByteArray) (c : UInt8) (w : World) (hs : s.size < 4294967281) (hM : MaxG w) :
    Calls Tryd.prog 13 #[.string s, .string ⟨#[c]⟩] w fun e w' => e = .returned (.tuple #[.string ⟨(cutA c s.data.toList).1.toArray⟩, .string ⟨(cutA c s.data.toList).2.1.toArray⟩, .bool (cutA c s.data.toList).2.2]) ∧ Below w.heap.size w w' := by
  obtain ⟨m, hm, _⟩ := hM
  refine (Tryd.strings_Cut s ⟨#[c]⟩ m w hs hm).mono ?_
  rintro e w' ⟨rfl, n, rfl⟩
  rw [show (⟨#[c]⟩ : ByteArray).data.toList = [c] from rfl, cut_one]
  exact ⟨rfl, rfl, rfl, rfl, Nat.le_refl _, fun _ _ => rfl⟩
def gM : Nat := 2147483647
def stepL (l : List UInt8) : List UInt8 := if (cutA 47 l).2.2 then (cutA 47 l).2.1 else [49]
def fromL (l : List UInt8) : List UInt8 := (cutA 45 (cutA 47 l).1).1
def toL (l : List UInt8) : List UInt8 := (cutA 45 (cutA 47 l).1).2.1
/-- A range read, or why it is none. -/
def parse3 (a z s : Nat × Int) : (Nat × Nat × Nat) × Int :=
  if a.2 = 2 ∨ z.2 = 2 ∨ s.2 = 2 then ((0, 0, 0), 2)
  else if a.2 ≠ 0 ∨ z.2 ≠ 0 ∨ s.2 ≠ 0 then ((0, 0, 0), 7)
  else if z.1 < a.1 ∨ s.1 = 0 then ((0, 0, 0), 1) else ((a.1, z.1, s.1), 0)
def parseR (l : List UInt8) : (Nat × Nat × Nat) × Int := parse3 (numM (fromL l) gM) (numM (toL l) gM) (numM (stepL l) gM)
theorem numM_err (l : List UInt8) (m : Nat) : (numM l m).2 = 0 ∨ (numM l m).2 = 2 ∨ (numM l m).2 = 7 := by
  unfold numM
  split
  · split
    · exact .inl rfl
    · exact .inr (.inr rfl)
  · exact .inr (.inl rfl)
theorem numM_le (l : List UInt8) (m : Nat) : (numM l m).1 ≤ m := by
  unfold numM
  split
  · split
    · assumption
    · exact Nat.zero_le _
  · exact Nat.zero_le _
def RngPost (r : (Nat × Nat × Nat) × Int) (w : World) (e : Ending) (w' : World) : Prop := e = .returned (.tuple #[.agg #[.int .i64 (r.1.1 : Int), .int .i64 (r.1.2.1 : Int), .int .i64 (r.1.2.2 : Int)], .int .i64 r.2]) ∧ Below w.heap.size w w'
theorem idx3 (a b c : ByteArray) (W : World) : (Instr.index 46 (.agg #[.string a, .string b, .string c]) (.int .i64 0)).run Tryd.prog W = .ok (.string a) W ∧ (Instr.index 46 (.agg #[.string a, .string b, .string c]) (.int .i64 1)).run Tryd.prog W = .ok (.string b) W ∧ (Instr.index 46 (.agg #[.string a, .string b, .string c]) (.int .i64 2)).run Tryd.prog W = .ok (.string c) W := by
  have hu : ∀ w, Sem.run Tryd.prog (underlying 46) w = .ok _ w := run_underlying Tryd.underlying46
  refine ⟨?_, ?_, ?_⟩ <;> simp [Instr.index, hu, asIntOf, go_sem]
def ParL (n n2 : Nat) (w : World) (na nz ns : Nat) (ra rz rs : Int) (k : Nat) (v : Value) (wr : World) : Prop :=
  (k ≤ 3 ∧ v = .int .i64 (if (0 < k ∧ ra ≠ 0) ∨ (1 < k ∧ rz ≠ 0) ∨ (2 < k ∧ rs ≠ 0) then 7 else 0)) ∧
  wr.heap[n2]? = some (.cells #[.int .i64 ((if 0 < k then na else 0 : Nat) : Int), .int .i64 ((if 1 < k then nz else 0 : Nat) : Int), .int .i64 ((if 2 < k then ns else 0 : Nat) : Int)] 45) ∧
  wr.heap[n]? = some (.cells #[.int .i64 0, .int .i64 0, .int .i64 0] 23) ∧ Below n w wr ∧ ((0 < k → ra ≠ 2) ∧ (1 < k → rz ≠ 2) ∧ (2 < k → rs ≠ 2))
set_option maxRecDepth 100000 in
set_option maxHeartbeats 8000000 in
theorem gen_Parse (s : ByteArray) (w : World) (hs : s.size ≤ 1000000) (hM : MaxG w) :
    Calls Tryd.prog 7 #[.string s] w (RngPost (parseR s.data.toList) w) := by
  obtain ⟨l, hl⟩ : ∃ l, s.data.toList = l := ⟨_, rfl⟩
  have hC1 := fun W h => strings_Cut1 s 47 W (by omega) h
  have hlen : l.length = s.size := by rw [← hl]; simp
  rw [hl] at hC1 ⊢
  have hc47 := cutA_len 47 l
  obtain ⟨sb, hsb, hsbz, hsbv⟩ := str_of (cutA 47 l).1
  obtain ⟨ss, hss, hssz, hssv⟩ := str_of (stepL l)
  have hC2 := fun W h => strings_Cut1 sb 45 W (by omega) h
  rw [hsb] at hC2
  have hc45 := cutA_len 45 (cutA 47 l).1
  obtain ⟨sa, hsa, hsaz, hsav⟩ := str_of (fromL l)
  obtain ⟨sz, hsz, hszz, hszv⟩ := str_of (toL l)
  have hstl : (stepL l).length ≤ 1000000 := by
    unfold stepL; split
    · omega
    · simp
  have hA : ∀ W, Calls Tryd.prog 14 #[.string sa, .int .i64 2147483647] W (NumPost sa.data.toList gM W) := fun W => number_Parse sa gM W (by unfold maxLen; unfold fromL at hsaz; omega) (by decide)
  have hZ : ∀ W, Calls Tryd.prog 14 #[.string sz, .int .i64 2147483647] W (NumPost sz.data.toList gM W) := fun W => number_Parse sz gM W (by unfold maxLen; unfold toL at hszz; omega) (by decide)
  have hS : ∀ W, Calls Tryd.prog 14 #[.string ss, .int .i64 2147483647] W (NumPost ss.data.toList gM W) := fun W => number_Parse ss gM W (by unfold maxLen; omega) (by decide)
  have HM := Lib.hid hM
  unfold NumPost at hA hZ hS
  rw [hsa] at hA
  rw [hsz] at hZ
  rw [hss] at hS
  unfold parseR
  have ea := numM_err (fromL l) gM
  have ez := numM_err (toL l) gM
  have es := numM_err (stepL l) gM
  have la := numM_le (fromL l) gM
  have lz := numM_le (toL l) gM
  have ls := numM_le (stepL l) gM
  generalize numM (fromL l) gM = pa at *
  generalize numM (toL l) gM = pz at *
  generalize numM (stepL l) gM = ps at *
  obtain ⟨na, ra⟩ := pa
  obtain ⟨nz, rz⟩ := pz
  obtain ⟨ns, rs⟩ := ps
  have va : (⟨(fromL l).toArray⟩ : ByteArray) = sa := by unfold strV at hsav; injection hsav
  have vz : (⟨(toL l).toArray⟩ : ByteArray) = sz := by unfold strV at hszv; injection hszv
  have vs : (⟨(stepL l).toArray⟩ : ByteArray) = ss := by unfold strV at hssv; injection hssv
  have vb : (⟨(cutA 47 l).1.toArray⟩ : ByteArray) = sb := by unfold strV at hsbv; injection hsbv
  unfold fromL at va
  unfold toL at vz
  rw [va, vz] at hC2
  rw [vb] at hC1
  obtain ⟨has, hhas⟩ : ∃ b, (cutA 47 l).2.2 = b := ⟨_, rfl⟩
  obtain ⟨ok2, hok2⟩ : ∃ b, (cutA 45 (cutA 47 l).1).2.2 = b := ⟨_, rfl⟩
  obtain ⟨s2, hs2⟩ : ∃ t : ByteArray, (⟨(cutA 47 l).2.1.toArray⟩ : ByteArray) = t := ⟨_, rfl⟩
  rw [hhas, hs2] at hC1
  rw [hok2] at hC2
  have hstep : (has = true ∧ s2 = ss) ∨ (has = false ∧ ss = ⟨#[49]⟩) := by
    cases has
    · right; refine ⟨rfl, ?_⟩; rw [← vs]; unfold stepL; rw [hhas]; rfl
    · left; refine ⟨rfl, ?_⟩; rw [← hs2, ← vs]; unfold stepL; rw [hhas]; rfl
  have HEA := Lib.hid ea; have HEZ := Lib.hid ez; have HES := Lib.hid es
  have HLA := Lib.hid la; have HLZ := Lib.hid lz; have HLS := Lib.hid ls
  clear ea ez es la lz ls va vz vs vb hhas hok2 hs2 hsa hsz hss hsb hsaz hszz hssz hsbz hsav hszv hssv hsbv hc45 hc47 hstl hl hM
  simp only at HEA HEZ HES HLA HLZ HLS hA hZ hS
  go_enter Tryd.func7, Tryd.ntmps7
  go_wp2_with fail
  have b0 : Below w.heap.size w (w.alloc (.cells #[.int .i64 0, .int .i64 0, .int .i64 0] 23)) := (Below.refl _ w).alloc (Nat.le_refl _) _
  refine (hC1 _ (HM.out.below b0)).mono ?_
  rintro e w1 ⟨rfl, hb1⟩
  have B1 := Lib.hid (b0.trans (hb1.mono b0.size))
  have R1 : Hid (w1.heap[w.heap.size]? = some (.cells #[.int .i64 0, .int .i64 0, .int .i64 0] 23)) := Lib.hid ((hb1.block w.heap.size (by simp)).trans (knew w _))
  clear b0 hb1
  have HST := Lib.hid hstep
  clear hstep hC1
  go_upto_if 24 with (fail)
  go_cut [5] (fun v wx => v = .string ss ∧ wx = w1)
  case first =>
    rcases HST.out with ⟨h1, h2⟩ | ⟨h1, h2⟩
    · subst h1
      subst h2
      go_wp2_with fail
      go_meet
      exact ⟨rfl, rfl⟩
    · subst h1
      subst h2
      go_wp2_with fail
      go_meet
      exact ⟨rfl, rfl⟩
  case rest =>
  obtain ⟨rfl, hww⟩ := hcut
  subst hww
  go_wp2_with fail
  refine (hC2 _ (HM.out.below B1.out)).mono ?_
  rintro e w2 ⟨rfl, hb2⟩
  have B2 := Lib.hid (B1.out.trans (hb2.mono B1.out.size))
  have R2 : Hid (w2.heap[w.heap.size]? = some (.cells #[.int .i64 0, .int .i64 0, .int .i64 0] 23)) := Lib.hid ((hb2.block w.heap.size (kblock_lt R1.out)).trans R1.out)
  clear hb2 R1 B1 hC2
  go_wp2_with fail
  have hn2 : w.heap.size < w2.heap.size := kblock_lt R2.out
  have H0 : Hid (ParL w.heap.size w2.heap.size w na nz ns ra rz rs 0 (.int .i64 0) (w2.alloc (.cells #[.int .i64 0, .int .i64 0, .int .i64 0] 45))) := Lib.hid ⟨⟨by omega, by simp⟩, knew w2 _, (Below.heap_alloc _ _ _ hn2).trans R2.out, B2.out.alloc B2.out.size _, by omega, by omega, by omega⟩
  go_loopw [11, 35] (fun v i wr => ∃ k : Nat, i = .int .i64 k ∧ k ≤ 3 ∧ Hid (ParL w.heap.size w2.heap.size w na nz ns ra rz rs k v wr)) (fun _ i _ => 3 - (intOf i).toNat)
  case atStart => exact ⟨0, rfl, by omega, H0⟩
  case round =>
    obtain ⟨k, rfl, hk3, HP⟩ := hrel
    have hkk : k = 0 ∨ k = 1 ∨ k = 2 ∨ k = 3 := by omega
    rcases hkk with hkk | hkk | hkk | hkk
    · subst hkk
      obtain ⟨⟨_, hwv⟩, hbx, hres, hB, hno⟩ := HP.out
      have HBX := Lib.hid hbx; have HRES := Lib.hid hres; have HB := Lib.hid hB; have HNO := Lib.hid hno; have HWV := Lib.hid hwv
      have f0 := kfrozen hbx 0
      have d0 := kcell hbx 0 (.int .i64 0) (by rfl)
      have g0 := kcell hres 0 (.int .i64 0) rfl
      have g1 := kcell hres 1 (.int .i64 0) rfl
      have g2 := kcell hres 2 (.int .i64 0) rfl
      have e0 := kfrozen hres 0
      have e1 := kfrozen hres 1
      have e2 := kfrozen hres 2
      have hI := fun c => (idx3 sa sz c wr).1
      have hX := hA wr
      clear hA hZ hS hwv hbx hres hB hno HP hk3
      rcases HEA.out with hr | hr | hr
      · have HRR := Lib.hid hr
        rw [hr] at hX
        clear hr
        go_wp2_with fail
        refine hX.mono ?_
        rintro e w3 ⟨rfl, rfl⟩
        clear hX
        go_wp2_with fail
        go_roundw
        case rel => exact ⟨1, by go_num, by omega, Lib.hid ⟨⟨by omega, by rw [HWV.out]; simp [HRR.out]⟩, (by simpa using kset HBX.out 0 (.int .i64 (na : Int))), ((Below.heap_setCell _ ⟨w2.heap.size, 0, none⟩ _ w.heap.size (show w.heap.size ≠ w2.heap.size by omega)).trans HRES.out), HB.out.setCell (p := ⟨w2.heap.size, 0, none⟩) (Nat.le_of_lt hn2) _, ⟨fun _ => by rw [HRR.out]; decide, by omega, by omega⟩⟩⟩
        case measure => simp [intOf]
      · have HRR := Lib.hid hr
        rw [hr] at hX
        clear hr
        go_wp2_with fail
        refine hX.mono ?_
        rintro e w3 ⟨rfl, rfl⟩
        clear hX
        go_wp2_with fail
        have r0 := kset HRES.out 0 (.int .i64 0)
        have r1 := kset r0 1 (.int .i64 0)
        have r2 := kset r1 2 (.int .i64 0)
        refine bodyPost_ret (results_rng rfl _ _ rfl rfl rfl rfl rfl (kcell r2 0 (.int .i64 0) rfl) (kcell r2 1 (.int .i64 0) rfl) (kcell r2 2 (.int .i64 0) rfl)) rfl ?_
        have hpa : parse3 (na, ra) (nz, rz) (ns, rs) = ((0, 0, 0), 2) := by unfold parse3; rw [if_pos (.inl HRR.out)]
        rw [hpa]
        exact ⟨rfl, ((HB.out.setCell (p := ⟨w.heap.size, 0, none⟩) (Nat.le_refl _) _).setCell (p := ⟨w.heap.size, 1, none⟩) (Nat.le_refl _) _).setCell (p := ⟨w.heap.size, 2, none⟩) (Nat.le_refl _) _⟩
      · have HRR := Lib.hid hr
        rw [hr] at hX
        clear hr
        go_wp2_with fail
        refine hX.mono ?_
        rintro e w3 ⟨rfl, rfl⟩
        clear hX
        go_wp2_with fail
        go_roundw
        case rel => exact ⟨1, by go_num, by omega, Lib.hid ⟨⟨by omega, by simp [HRR.out]⟩, (by simpa using kset HBX.out 0 (.int .i64 (na : Int))), ((Below.heap_setCell _ ⟨w2.heap.size, 0, none⟩ _ w.heap.size (show w.heap.size ≠ w2.heap.size by omega)).trans HRES.out), HB.out.setCell (p := ⟨w2.heap.size, 0, none⟩) (Nat.le_of_lt hn2) _, ⟨fun _ => by rw [HRR.out]; decide, by omega, by omega⟩⟩⟩
        case measure => simp [intOf]
    · subst hkk
      obtain ⟨⟨_, hwv⟩, hbx, hres, hB, hno⟩ := HP.out
      have HBX := Lib.hid hbx; have HRES := Lib.hid hres; have HB := Lib.hid hB; have HNO := Lib.hid hno; have HWV := Lib.hid hwv
      have f1 := kfrozen hbx 1
      have d1 := kcell hbx 1 (.int .i64 0) (by rfl)
      have g0 := kcell hres 0 (.int .i64 0) rfl
      have g1 := kcell hres 1 (.int .i64 0) rfl
      have g2 := kcell hres 2 (.int .i64 0) rfl
      have e0 := kfrozen hres 0
      have e1 := kfrozen hres 1
      have e2 := kfrozen hres 2
      have hI := fun c => (idx3 sa sz c wr).2.1
      have hX := hZ wr
      clear hA hZ hS hwv hbx hres hB hno HP hk3
      rcases HEZ.out with hr | hr | hr
      · have HRR := Lib.hid hr
        rw [hr] at hX
        clear hr
        go_wp2_with fail
        refine hX.mono ?_
        rintro e w3 ⟨rfl, rfl⟩
        clear hX
        go_wp2_with fail
        go_roundw
        case rel => exact ⟨2, by go_num, by omega, Lib.hid ⟨⟨by omega, by rw [HWV.out]; simp [HRR.out]⟩, (by simpa using kset HBX.out 1 (.int .i64 (nz : Int))), ((Below.heap_setCell _ ⟨w2.heap.size, 1, none⟩ _ w.heap.size (show w.heap.size ≠ w2.heap.size by omega)).trans HRES.out), HB.out.setCell (p := ⟨w2.heap.size, 1, none⟩) (Nat.le_of_lt hn2) _, ⟨fun _ => HNO.out.1 (by omega), fun _ => by rw [HRR.out]; decide, by omega⟩⟩⟩
        case measure => simp [intOf]
      · have HRR := Lib.hid hr
        rw [hr] at hX
        clear hr
        go_wp2_with fail
        refine hX.mono ?_
        rintro e w3 ⟨rfl, rfl⟩
        clear hX
        go_wp2_with fail
        have r0 := kset HRES.out 0 (.int .i64 0)
        have r1 := kset r0 1 (.int .i64 0)
        have r2 := kset r1 2 (.int .i64 0)
        refine bodyPost_ret (results_rng rfl _ _ rfl rfl rfl rfl rfl (kcell r2 0 (.int .i64 0) rfl) (kcell r2 1 (.int .i64 0) rfl) (kcell r2 2 (.int .i64 0) rfl)) rfl ?_
        have hpa : parse3 (na, ra) (nz, rz) (ns, rs) = ((0, 0, 0), 2) := by unfold parse3; rw [if_pos (.inr (.inl HRR.out))]
        rw [hpa]
        exact ⟨rfl, ((HB.out.setCell (p := ⟨w.heap.size, 0, none⟩) (Nat.le_refl _) _).setCell (p := ⟨w.heap.size, 1, none⟩) (Nat.le_refl _) _).setCell (p := ⟨w.heap.size, 2, none⟩) (Nat.le_refl _) _⟩
      · have HRR := Lib.hid hr
        rw [hr] at hX
        clear hr
        go_wp2_with fail
        refine hX.mono ?_
        rintro e w3 ⟨rfl, rfl⟩
        clear hX
        go_wp2_with fail
        go_roundw
        case rel => exact ⟨2, by go_num, by omega, Lib.hid ⟨⟨by omega, by simp [HRR.out]⟩, (by simpa using kset HBX.out 1 (.int .i64 (nz : Int))), ((Below.heap_setCell _ ⟨w2.heap.size, 1, none⟩ _ w.heap.size (show w.heap.size ≠ w2.heap.size by omega)).trans HRES.out), HB.out.setCell (p := ⟨w2.heap.size, 1, none⟩) (Nat.le_of_lt hn2) _, ⟨fun _ => HNO.out.1 (by omega), fun _ => by rw [HRR.out]; decide, by omega⟩⟩⟩
        case measure => simp [intOf]
    · subst hkk
      obtain ⟨⟨_, hwv⟩, hbx, hres, hB, hno⟩ := HP.out
      have HBX := Lib.hid hbx; have HRES := Lib.hid hres; have HB := Lib.hid hB; have HNO := Lib.hid hno; have HWV := Lib.hid hwv
      have f2 := kfrozen hbx 2
      have d2 := kcell hbx 2 (.int .i64 0) (by rfl)
      have g0 := kcell hres 0 (.int .i64 0) rfl
      have g1 := kcell hres 1 (.int .i64 0) rfl
      have g2 := kcell hres 2 (.int .i64 0) rfl
      have e0 := kfrozen hres 0
      have e1 := kfrozen hres 1
      have e2 := kfrozen hres 2
      have hI := fun c => (idx3 sa sz c wr).2.2
      have hX := hS wr
      clear hA hZ hS hwv hbx hres hB hno HP hk3
      rcases HES.out with hr | hr | hr
      · have HRR := Lib.hid hr
        rw [hr] at hX
        clear hr
        go_wp2_with fail
        refine hX.mono ?_
        rintro e w3 ⟨rfl, rfl⟩
        clear hX
        go_wp2_with fail
        go_roundw
        case rel => exact ⟨3, by go_num, by omega, Lib.hid ⟨⟨by omega, by rw [HWV.out]; simp [HRR.out]⟩, (by simpa using kset HBX.out 2 (.int .i64 (ns : Int))), ((Below.heap_setCell _ ⟨w2.heap.size, 2, none⟩ _ w.heap.size (show w.heap.size ≠ w2.heap.size by omega)).trans HRES.out), HB.out.setCell (p := ⟨w2.heap.size, 2, none⟩) (Nat.le_of_lt hn2) _, ⟨fun _ => HNO.out.1 (by omega), fun _ => HNO.out.2.1 (by omega), fun _ => by rw [HRR.out]; decide⟩⟩⟩
        case measure => simp [intOf]
      · have HRR := Lib.hid hr
        rw [hr] at hX
        clear hr
        go_wp2_with fail
        refine hX.mono ?_
        rintro e w3 ⟨rfl, rfl⟩
        clear hX
        go_wp2_with fail
        have r0 := kset HRES.out 0 (.int .i64 0)
        have r1 := kset r0 1 (.int .i64 0)
        have r2 := kset r1 2 (.int .i64 0)
        refine bodyPost_ret (results_rng rfl _ _ rfl rfl rfl rfl rfl (kcell r2 0 (.int .i64 0) rfl) (kcell r2 1 (.int .i64 0) rfl) (kcell r2 2 (.int .i64 0) rfl)) rfl ?_
        have hpa : parse3 (na, ra) (nz, rz) (ns, rs) = ((0, 0, 0), 2) := by unfold parse3; rw [if_pos (.inr (.inr HRR.out))]
        rw [hpa]
        exact ⟨rfl, ((HB.out.setCell (p := ⟨w.heap.size, 0, none⟩) (Nat.le_refl _) _).setCell (p := ⟨w.heap.size, 1, none⟩) (Nat.le_refl _) _).setCell (p := ⟨w.heap.size, 2, none⟩) (Nat.le_refl _) _⟩
      · have HRR := Lib.hid hr
        rw [hr] at hX
        clear hr
        go_wp2_with fail
        refine hX.mono ?_
        rintro e w3 ⟨rfl, rfl⟩
        clear hX
        go_wp2_with fail
        go_roundw
        case rel => exact ⟨3, by go_num, by omega, Lib.hid ⟨⟨by omega, by simp [HRR.out]⟩, (by simpa using kset HBX.out 2 (.int .i64 (ns : Int))), ((Below.heap_setCell _ ⟨w2.heap.size, 2, none⟩ _ w.heap.size (show w.heap.size ≠ w2.heap.size by omega)).trans HRES.out), HB.out.setCell (p := ⟨w2.heap.size, 2, none⟩) (Nat.le_of_lt hn2) _, ⟨fun _ => HNO.out.1 (by omega), fun _ => HNO.out.2.1 (by omega), fun _ => by rw [HRR.out]; decide⟩⟩⟩
        case measure => simp [intOf]
    · subst hkk
      obtain ⟨⟨_, hwv⟩, hbx, hres, hB, hno⟩ := HP.out
      have HBX := Lib.hid hbx; have HRES := Lib.hid hres; have HB := Lib.hid hB; have HNO := Lib.hid hno
      have d0 := kcell hbx 0 (.int .i64 (na : Int)) rfl
      have d1 := kcell hbx 1 (.int .i64 (nz : Int)) rfl
      have d2 := kcell hbx 2 (.int .i64 (ns : Int)) rfl
      have g0 := kcell hres 0 (.int .i64 0) rfl
      have g1 := kcell hres 1 (.int .i64 0) rfl
      have g2 := kcell hres 2 (.int .i64 0) rfl
      have e0 := kfrozen hres 0
      have e1 := kfrozen hres 1
      have e2 := kfrozen hres 2
      clear hA hZ hS hbx hres hB hno HP hk3
      by_cases hbad : ra ≠ 0 ∨ rz ≠ 0 ∨ rs ≠ 0
      · have hwv7 : u11 = .int .i64 7 := by rw [hwv, if_pos (by omega)]
        subst hwv7
        clear hwv
        have HBAD := Lib.hid hbad
        clear hbad
        go_wp2_with fail
        have r0 := kset HRES.out 0 (.int .i64 0)
        have r1 := kset r0 1 (.int .i64 0)
        have r2 := kset r1 2 (.int .i64 0)
        refine bodyPost_ret (results_rng rfl _ _ rfl rfl rfl rfl rfl (kcell r2 0 (.int .i64 0) rfl) (kcell r2 1 (.int .i64 0) rfl) (kcell r2 2 (.int .i64 0) rfl)) rfl ?_
        have hpa : parse3 (na, ra) (nz, rz) (ns, rs) = ((0, 0, 0), 7) := by
          unfold parse3
          have h1 := HNO.out.1 (by omega)
          have h2 := HNO.out.2.1 (by omega)
          have h3 := HNO.out.2.2 (by omega)
          rw [if_neg (by simp [h1, h2, h3]), if_pos HBAD.out]
        rw [hpa]
        exact ⟨rfl, ((HB.out.setCell (p := ⟨w.heap.size, 0, none⟩) (Nat.le_refl _) _).setCell (p := ⟨w.heap.size, 1, none⟩) (Nat.le_refl _) _).setCell (p := ⟨w.heap.size, 2, none⟩) (Nat.le_refl _) _⟩
      · have hwv7 : u11 = .int .i64 0 := by rw [hwv, if_neg (by omega)]
        subst hwv7
        clear hwv
        have HOK : Hid (ra = 0 ∧ rz = 0 ∧ rs = 0) := Lib.hid (by omega)
        clear hbad
        have hnn := HB.out.size
        by_cases harg : nz < na
        · have hargi : (nz : Int) < (na : Int) := by omega
          have HARG : Hid (nz < na ∨ ns = 0) := Lib.hid (.inl harg)
          clear harg
          have ra' : (wr.alloc (.cells #[.int .i64 (na : Int), .int .i64 (nz : Int), .int .i64 (ns : Int)] 23)).heap[w.heap.size]? = some (.cells #[.int .i64 0, .int .i64 0, .int .i64 0] 23) := (Below.heap_alloc _ _ _ (kblock_lt HRES.out)).trans HRES.out
          have RA := Lib.hid ra'
          have q0 := kcell ra' 0 (.int .i64 0) rfl
          have q1 := kcell ra' 1 (.int .i64 0) rfl
          have q2 := kcell ra' 2 (.int .i64 0) rfl
          have p0 := kfrozen ra' 0
          have p1 := kfrozen ra' 1
          have p2 := kfrozen ra' 2
          clear ra'
          go_wp2_with fail
          have r0 := kset RA.out 0 (.int .i64 0)
          have r1 := kset r0 1 (.int .i64 0)
          have r2 := kset r1 2 (.int .i64 0)
          refine bodyPost_ret (results_rng rfl _ _ rfl rfl rfl rfl rfl (kcell r2 0 (.int .i64 0) rfl) (kcell r2 1 (.int .i64 0) rfl) (kcell r2 2 (.int .i64 0) rfl)) rfl ?_
          obtain ⟨o1, o2, o3⟩ := HOK.out
          have hpa : parse3 (na, ra) (nz, rz) (ns, rs) = ((0, 0, 0), 1) := by
            unfold parse3
            rw [if_neg (by simp [o1, o2, o3]), if_neg (by simp [o1, o2, o3]), if_pos HARG.out]
          rw [hpa]
          exact ⟨rfl, (((HB.out.alloc hnn _).setCell (p := ⟨w.heap.size, 0, none⟩) (Nat.le_refl _) _).setCell (p := ⟨w.heap.size, 1, none⟩) (Nat.le_refl _) _).setCell (p := ⟨w.heap.size, 2, none⟩) (Nat.le_refl _) _⟩
        · have hargi : ¬ (nz : Int) < (na : Int) := by omega
          by_cases hs0 : ns = 0
          · subst hs0
            have HARG : Hid (nz < na ∨ (0 : Nat) = 0) := Lib.hid (.inr rfl)
            clear harg
            have ra' : (wr.alloc (.cells #[.int .i64 (na : Int), .int .i64 (nz : Int), .int .i64 0] 23)).heap[w.heap.size]? = some (.cells #[.int .i64 0, .int .i64 0, .int .i64 0] 23) := (Below.heap_alloc _ _ _ (kblock_lt HRES.out)).trans HRES.out
            have RA := Lib.hid ra'
            have q0 := kcell ra' 0 (.int .i64 0) rfl
            have q1 := kcell ra' 1 (.int .i64 0) rfl
            have q2 := kcell ra' 2 (.int .i64 0) rfl
            have p0 := kfrozen ra' 0
            have p1 := kfrozen ra' 1
            have p2 := kfrozen ra' 2
            clear ra'
            go_wp2_with fail
            have r0 := kset RA.out 0 (.int .i64 0)
            have r1 := kset r0 1 (.int .i64 0)
            have r2 := kset r1 2 (.int .i64 0)
            refine bodyPost_ret (results_rng rfl _ _ rfl rfl rfl rfl rfl (kcell r2 0 (.int .i64 0) rfl) (kcell r2 1 (.int .i64 0) rfl) (kcell r2 2 (.int .i64 0) rfl)) rfl ?_
            obtain ⟨o1, o2, o3⟩ := HOK.out
            have hpa : parse3 (na, ra) (nz, rz) (0, rs) = ((0, 0, 0), 1) := by
              unfold parse3
              rw [if_neg (by simp [o1, o2, o3]), if_neg (by simp [o1, o2, o3]), if_pos (.inr rfl)]
            rw [hpa]
            exact ⟨rfl, (((HB.out.alloc hnn _).setCell (p := ⟨w.heap.size, 0, none⟩) (Nat.le_refl _) _).setCell (p := ⟨w.heap.size, 1, none⟩) (Nat.le_refl _) _).setCell (p := ⟨w.heap.size, 2, none⟩) (Nat.le_refl _) _⟩
          · have hsi : ¬ (ns : Int) = 0 := by omega
            have hsi2 : ((ns : Int) == 0) = false := by simpa using hs0
            have HARG : Hid (¬ (nz < na ∨ ns = 0)) := Lib.hid (by omega)
            clear harg hs0
            have ra' : (wr.alloc (.cells #[.int .i64 (na : Int), .int .i64 (nz : Int), .int .i64 (ns : Int)] 23)).heap[w.heap.size]? = some (.cells #[.int .i64 0, .int .i64 0, .int .i64 0] 23) := (Below.heap_alloc _ _ _ (kblock_lt HRES.out)).trans HRES.out
            have RA := Lib.hid ra'
            have q0 := kcell ra' 0 (.int .i64 0) rfl
            have q1 := kcell ra' 1 (.int .i64 0) rfl
            have q2 := kcell ra' 2 (.int .i64 0) rfl
            have p0 := kfrozen ra' 0
            have p1 := kfrozen ra' 1
            have p2 := kfrozen ra' 2
            clear ra'
            go_wp2_with fail
            have r0 := kset RA.out 0 (.int .i64 (na : Int))
            have r1 := kset r0 1 (.int .i64 (nz : Int))
            have r2 := kset r1 2 (.int .i64 (ns : Int))
            refine bodyPost_ret (results_rng rfl _ _ rfl rfl rfl rfl rfl (kcell r2 0 (.int .i64 (na : Int)) rfl) (kcell r2 1 (.int .i64 (nz : Int)) rfl) (kcell r2 2 (.int .i64 (ns : Int)) rfl)) rfl ?_
            obtain ⟨o1, o2, o3⟩ := HOK.out
            have hpa : parse3 (na, ra) (nz, rz) (ns, rs) = ((na, nz, ns), 0) := by
              unfold parse3
              rw [if_neg (by simp [o1, o2, o3]), if_neg (by simp [o1, o2, o3]), if_neg HARG.out]
            rw [hpa]
            exact ⟨rfl, (((HB.out.alloc hnn _).setCell (p := ⟨w.heap.size, 0, none⟩) (Nat.le_refl _) _).setCell (p := ⟨w.heap.size, 1, none⟩) (Nat.le_refl _) _).setCell (p := ⟨w.heap.size, 2, none⟩) (Nat.le_refl _) _⟩
end Go.Proofs.YtgalihmmlcnahaaDoor
