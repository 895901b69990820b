/-
  Strings turned into bytes of the call's own, turned one by one, and back: rtype.great, ref.FoldLabel.
-/
import Derived.Test.YtoohhoillblaoaaDoorTyA
import Derived.Lib.ConvBytes
import Derived.Lib.IndexBytes
namespace Go.Proofs.YtoohhoillblaoaaDoor
open Go.RowKit Go.Shelf

/-- A row of bytes of the call's own, from the head of block g. -/
def BRow (g : Nat) (l : List UInt8) (W : World) : Prop := ∀ j (hj : j < l.length), W.cell? ⟨g, j, none⟩ = some (bv l[j]) ∧ W.frozen? ⟨g, j, none⟩ = false
theorem BRow.set {g : Nat} {l : List UInt8} {W : World} (h : BRow g l W) (k : Nat) (hk : k < l.length) (c : UInt8) : BRow g (l.set k c) (W.setCell ⟨g, k, none⟩ (bv c)) := by
  intro j hj
  rw [List.length_set] at hj
  rw [World.frozen?_setCell]
  refine ⟨?_, (h j hj).2⟩
  by_cases e : j = k
  · subst e
    rw [World.cell?_setCell_same' _ _ _ (by rw [(h j hk).1]; rfl)]
    simp
  · have hne : (⟨g, k, none⟩ : Addr) ≠ ⟨g, j, none⟩ := by intro q; injection q with _ e2 _; omega
    rw [World.cell?_setCell_other (h := hne), (h j hj).1]
    congr 2; rw [List.getElem_set_ne (by omega)]
theorem BRow.below {g n : Nat} {l : List UInt8} {W W' : World} (h : BRow g l W) (hb : Below n W W') (hg : g < n) : BRow g l W' := fun j hj =>
  ⟨(hb.cell (p := ⟨g, j, none⟩) hg).trans (h j hj).1, (hb.frozen (p := ⟨g, j, none⟩) hg).trans (h j hj).2⟩
theorem BRow.of_str (w : World) (s : ByteArray) : BRow w.heap.size s.data.toList (Lib.bytesWorld w 5 s) ∧ Below w.heap.size w (Lib.bytesWorld w 5 s) := by
  have hold := Lib.bytesWorld_at_old w 5 s
  have hsz := Lib.bytesWorld_size w 5 s
  have hcell := Lib.bytesWorld_cell w 5 s
  have hnew := Lib.bytesWorld_at_new w 5 s
  have hcs : s.size ≤ (Lib.bytesCells w 5 s).size := by unfold Lib.bytesCells; simp
  refine ⟨fun j hj => ⟨?_, ?_⟩, rfl, rfl, rfl, by rw [hsz]; omega, fun k hk => hold k hk⟩
  · have hj2 : j < s.size := by rw [← size_data]; exact hj
    rw [hcell j hj2]
    have : s.data.toList.getD j 0 = s[j] := by rw [List.getD_eq_getElem?_getD, Lib.data_getElem? s j hj2]; rfl
    rw [this]; rfl
  · have hj2 : j < s.size := by rw [← size_data]; exact hj
    unfold World.frozen?
    rw [hnew]
    simp; omega
theorem BRow.back {g : Nat} {l : List UInt8} {W : World} (h : BRow g l W) (n cap : Nat) (hn : n = l.length) :
    (convert 34 9 (.slice (some ⟨g, 0, none⟩) n cap)).run Tryd.prog W = .ok (.string ⟨l.toArray⟩) W := by
  subst hn
  exact run_convert_bytes_back W 34 9 5 ⟨g, 0, none⟩ cap l Tryd.underlying34 Tryd.underlying5 Tryd.underlying9 (fun j hj => by
    have e : ((⟨g, 0, none⟩ : Addr).add j) = ⟨g, j, none⟩ := by unfold Addr.add; by_cases hj : j = 0 <;> simp [hj]
    rw [e]; exact (h j hj).1)

theorem mapIdx_const (f : UInt8 → UInt8) (l : List UInt8) : l.mapIdx (fun _ c => f c) = l.map f := by
  apply List.ext_getElem (by simp)
  intro j h1 h2; simp
theorem BRow.same {g : Nat} {l : List UInt8} {W : World} (h : BRow g l W) (k : Nat) (hk : k < l.length) (c : UInt8) (e : l[k] = c) : BRow g (l.set k c) W := by
  subst e; rw [List.set_getElem_self]; exact h

set_option maxHeartbeats 4000000 in
theorem rtype_great (s : ByteArray) (w : World) (hs : s.size ≤ 35184372088000) :
    Calls Tryd.prog 14 #[.string s] w fun e w' => e = .returned (.string ⟨(greatL s.data.toList).toArray⟩) ∧ Below w.heap.size w w' := by
  have hconv := Lib.run_convert_string_bytes (P := Tryd.prog) w 9 34 5 s Tryd.underlying9 Tryd.underlying34 Tryd.underlying5
  obtain ⟨hrow, hbel⟩ := BRow.of_str w s
  generalize Lib.bytesWorld w 5 s = wc at *
  generalize grownCap w s.size 0 5 = cap at *
  rw [← half_zero (fun _ c => greatU c) s.data.toList] at hrow
  go_enter Tryd.func14, Tryd.ntmps14
  go_wp2
  go_loopw [10] (fun i wr => ∃ k : Nat, i = .int .i64 k ∧ k ≤ s.size ∧ BRow w.heap.size (half (fun _ c => greatU c) s.data.toList k) wr ∧ Below w.heap.size w wr) (fun i _ => s.size - (intOf i).toNat)
  case atStart => exact ⟨0, rfl, Nat.zero_le _, hrow, hbel⟩
  case round =>
    obtain ⟨k, rfl, hk, hr, hb⟩ := hrel
    by_cases hlt : k < s.size
    · have hkl : k < s.data.toList.length := by rw [size_data]; exact hlt
      obtain ⟨hck, hfk⟩ := hr k (by rw [half_len]; exact hkl)
      rw [half_get _ _ _ hkl] at hck
      have hsu := half_succ (fun _ c => greatU c) s.data.toList k hkl
      have hgk := half_get (fun _ c => greatU c) s.data.toList k hkl
      generalize s.data.toList[k] = c at *
      have hset := hr.set k (by rw [half_len]; exact hkl) (greatU c)
      rw [hsu] at hset
      have hb2 : Below w.heap.size w (wr.setCell ⟨w.heap.size, k, none⟩ (bv (greatU c))) := hb.setCell (p := ⟨w.heap.size, k, none⟩) (Nat.le_refl _) _
      unfold bv at hck hset hb2
      have hc255 : (c.toNat : Int) ≤ 255 := by have := c.toNat_lt; omega
      by_cases hup : 97 ≤ (c.toNat : Int) ∧ (c.toNat : Int) ≤ 122
      · obtain ⟨hu1, hu2⟩ := hup
        have hv := greatU_hi c hu1 hu2
        rw [← hv] at hset hb2
        clear hv hr hb hrow hbel hsu hgk
        go_wp2
        go_roundw
        case rel => exact ⟨k + 1, by go_num, by omega, hset, hb2⟩
        case measure => simp [intOf]; omega
      · have hg : greatU c = c := by unfold greatU; rw [if_neg (by omega)]
        have hnext : BRow w.heap.size (half (fun _ c => greatU c) s.data.toList (k + 1)) wr := by
          rw [← hsu, hg]
          exact hr.same k _ c hgk
        clear hr hrow hbel hset hb2 hg hsu hgk
        by_cases hu1 : 97 ≤ (c.toNat : Int)
        all_goals
          go_wp2
          try (exfalso; omega)
          try (go_roundw
               case rel => exact ⟨k + 1, by go_num, by omega, hnext, hb⟩
               case measure => simp [intOf]; omega)
    · obtain rfl : k = s.size := by omega
      have hback := hr.back s.size cap (by rw [half_len]; rfl)
      have hh : half (fun _ c => greatU c) s.data.toList s.size = greatL s.data.toList := by rw [show s.size = s.data.toList.length from rfl, half_all, mapIdx_const]; rfl
      rw [hh] at hback
      clear hh
      clear hr hrow hbel
      go_wp2
      go_ret
      exact ⟨rfl, hb⟩

set_option maxHeartbeats 4000000 in
theorem ref_FoldLabel (s : ByteArray) (w : World) (hs : s.size ≤ 35184372088000) :
    Calls Tryd.prog 18 #[.string s] w fun e w' => e = .returned (.string ⟨(foldL s.data.toList).toArray⟩) ∧ Below w.heap.size w w' := by
  have hconv := Lib.run_convert_string_bytes (P := Tryd.prog) w 9 34 5 s Tryd.underlying9 Tryd.underlying34 Tryd.underlying5
  obtain ⟨hrow, hbel⟩ := BRow.of_str w s
  generalize Lib.bytesWorld w 5 s = wc at *
  generalize grownCap w s.size 0 5 = cap at *
  rw [← half_zero (fun _ c => smallU c) s.data.toList] at hrow
  go_enter Tryd.func18, Tryd.ntmps18
  go_wp2
  go_loopw [4] (fun i wr => ∃ k : Nat, i = .int .i64 k ∧ k ≤ s.size ∧ BRow w.heap.size (half (fun _ c => smallU c) s.data.toList k) wr ∧ Below w.heap.size w wr) (fun i _ => s.size - (intOf i).toNat)
  case atStart => exact ⟨0, rfl, Nat.zero_le _, hrow, hbel⟩
  case round =>
    obtain ⟨k, rfl, hk, hr, hb⟩ := hrel
    by_cases hlt : k < s.size
    · have hkl : k < s.data.toList.length := by rw [size_data]; exact hlt
      obtain ⟨hck, hfk⟩ := hr k (by rw [half_len]; exact hkl)
      rw [half_get _ _ _ hkl] at hck
      have hsu := half_succ (fun _ c => smallU c) s.data.toList k hkl
      have hgk := half_get (fun _ c => smallU c) s.data.toList k hkl
      generalize s.data.toList[k] = c at *
      have hset := hr.set k (by rw [half_len]; exact hkl) (smallU c)
      rw [hsu] at hset
      have hb2 : Below w.heap.size w (wr.setCell ⟨w.heap.size, k, none⟩ (bv (smallU c))) := hb.setCell (p := ⟨w.heap.size, k, none⟩) (Nat.le_refl _) _
      unfold bv at hck hset hb2
      have hc255 : (c.toNat : Int) ≤ 255 := by have := c.toNat_lt; omega
      by_cases hup : 65 ≤ (c.toNat : Int) ∧ (c.toNat : Int) ≤ 90
      · obtain ⟨hu1, hu2⟩ := hup
        have hv := smallU_hi c hu1 hu2
        rw [← hv] at hset hb2
        clear hv hr hb hrow hbel hsu hgk
        go_wp2
        go_roundw
        case rel => exact ⟨k + 1, by go_num, by omega, hset, hb2⟩
        case measure => simp [intOf]; omega
      · have hg : smallU c = c := by unfold smallU; rw [if_neg (by omega)]
        have hnext : BRow w.heap.size (half (fun _ c => smallU c) s.data.toList (k + 1)) wr := by
          rw [← hsu, hg]
          exact hr.same k _ c hgk
        clear hr hrow hbel hset hb2 hg hsu hgk
        by_cases hu1 : 65 ≤ (c.toNat : Int)
        all_goals
          go_wp2
          try (exfalso; omega)
          try (go_roundw
               case rel => exact ⟨k + 1, by go_num, by omega, hnext, hb⟩
               case measure => simp [intOf]; omega)
    · obtain rfl : k = s.size := by omega
      have hback := hr.back s.size cap (by rw [half_len]; rfl)
      have hh : half (fun _ c => smallU c) s.data.toList s.size = foldL s.data.toList := by rw [show s.size = s.data.toList.length from rfl, half_all, mapIdx_const]; rfl
      rw [hh] at hback
      clear hh
      clear hr hrow hbel
      go_wp2
      go_ret
      exact ⟨rfl, hb⟩
end Go.Proofs.YtoohhoillblaoaaDoor
