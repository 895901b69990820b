/-
  gen.Put at the examples.
-/
import Derived.Test.YtgalihmmlcnahaaDoorGenH
namespace Go.Proofs.YtgalihmmlcnahaaDoor
open Go.RowKit Go.Shelf Go.Sort
set_option maxRecDepth 20000
set_option linter.unusedVariables false
set_option linter.unusedSimpArgs false

def TG (W : World) : Prop := MaxG W ∧ TabG W ∧ TabP W
theorem TG.below {W W' : World} (h : TG W) (hb : Below W.heap.size W W') : TG W' := ⟨h.1.below hb, h.2.1.below hb, h.2.2.below hb⟩
theorem itoaG (n : Nat) (hn : n < 65536) (W : World) (h : TG W) :
    Calls Tryd.prog 20 #[.int .i64 (n : Int)] W fun e w' => e = .returned (.string ⟨(Lib.decDigits n).toArray⟩) ∧ Below W.heap.size W w' := by
  refine (Tryd.strconv_Itoa n (by omega) (by omega) W h.2.2).mono ?_
  rintro e w' ⟨he, k, os, rfl⟩
  exact ⟨by rw [he, Lib.itoa_nonneg], Lib.below_grow _ W (Nat.le_refl _) k os⟩
def sK : ByteArray := ⟨#[97, 36, 45, 36, 123, 45, 49, 44, 51, 44, 120, 125, 36, 36, 92, 36]⟩
def sQ : ByteArray := ⟨#[36, 123, 49, 44, 50, 44, 113, 125]⟩
def sD : ByteArray := ⟨#[36, 123, 48, 44, 54, 44, 100, 125]⟩
theorem parse_x (W : World) (h : TG W) : Calls Tryd.prog 27 #[.string ⟨#[45, 49, 44, 51, 44, 120]⟩] W (BrcPost (-1) 3 ⟨#[120]⟩ true W) :=
  gen_parseBraces ⟨#[45, 49, 44, 51, 44, 120]⟩ ⟨#[45, 49]⟩ ⟨#[51]⟩ ⟨#[120]⟩ ⟨#[49]⟩ true true 1 3 (by decide) (by decide +kernel) (by decide +kernel) (by decide +kernel) (by decide +kernel) (by decide) (by decide) (by decide +kernel) (by decide +kernel) isBase_x W h.1
theorem parse_q (W : World) (h : TG W) : Calls Tryd.prog 27 #[.string ⟨#[49, 44, 50, 44, 113]⟩] W (BrcPost 1 2 ⟨#[113]⟩ false W) :=
  gen_parseBraces ⟨#[49, 44, 50, 44, 113]⟩ ⟨#[49]⟩ ⟨#[50]⟩ ⟨#[113]⟩ ⟨#[49]⟩ false false 1 2 (by decide) (by decide +kernel) (by decide +kernel) (by decide +kernel) (by decide +kernel) (by decide) (by decide) (by decide +kernel) (by decide +kernel) isBase_q W h.1
theorem parse_d (W : World) (h : TG W) : Calls Tryd.prog 27 #[.string ⟨#[48, 44, 54, 44, 100]⟩] W (BrcPost 0 6 ⟨#[100]⟩ true W) :=
  gen_parseBraces ⟨#[48, 44, 54, 44, 100]⟩ ⟨#[48]⟩ ⟨#[54]⟩ ⟨#[100]⟩ ⟨#[48]⟩ false true 0 6 (by decide) (by decide +kernel) (by decide +kernel) (by decide +kernel) (by decide +kernel) (by decide) (by decide) (by decide +kernel) (by decide +kernel) isBase_d W h.1
def brK (i : Nat) : List UInt8 × Nat × Nat := if i = 3 then ([48, 48, 97], 9, 0) else ([], 0, 0)
theorem brK_at : ∀ i, i < 16 → Lib.hasPrefix (sK.data.toList.drop i) [36, 123] = true → i = 3 := by decide +kernel
theorem putM_K : putM brK (Lib.decDigits 11) sK.data.toList (sK.size + 1) 0 [] = ([97, 49, 49, 45, 48, 48, 97, 36, 92, 36], 0) := by decide +kernel
theorem put_K (w : World) (hw : TG w) :
    Calls Tryd.prog 12 #[.string sK, .int .i64 11] w fun e w' => e = .returned (.tuple #[.string ⟨#[97, 49, 49, 45, 48, 48, 97, 36, 92, 36]⟩, .int .i64 0]) ∧ Below w.heap.size w w' := by
  refine (gen_Put sK 11 brK (Lib.decDigits 11) TG (fun _ _ h hb => h.below hb) (by decide) ?_ ?_ (fun W h => itoaG 11 (by omega) W h) (by decide +kernel) w hw).mono ?_
  · intro i W hi h hp
    obtain rfl := brK_at i hi hp
    exact gen_putBraces (sK.extract 3 sK.size) ⟨#[45, 49, 44, 51, 44, 120]⟩ ⟨#[120]⟩ ⟨#[48, 48, 97]⟩ 11 (-1) 10 3 8 TG (fun _ _ h hb => h.below hb) (by decide +kernel) (by omega) (by decide +kernel) (by decide +kernel) (by decide +kernel) (by omega) (by omega) (by omega) (by omega) (by omega) parse_x (fun W h => show_x10 (-1) W h.2.1) W h
  · intro i hi hp _
    obtain rfl := brK_at i hi hp
    decide +kernel
  · rintro e w' ⟨he, hb⟩
    exact ⟨by rw [he, putM_K]; rfl, hb⟩
def brQ (i : Nat) : List UInt8 × Nat × Nat := if i = 0 then ([], 0, 2) else ([], 0, 0)
theorem brQ_at : ∀ i, i < 8 → Lib.hasPrefix (sQ.data.toList.drop i) [36, 123] = true → i = 0 := by decide +kernel
theorem putM_Q : putM brQ (Lib.decDigits 1) sQ.data.toList (sQ.size + 1) 0 [] = ([], 2) := by decide +kernel
theorem put_Q (w : World) (hw : TG w) :
    Calls Tryd.prog 12 #[.string sQ, .int .i64 1] w fun e w' => e = .returned (.tuple #[.string ⟨#[]⟩, .int .i64 2]) ∧ Below w.heap.size w w' := by
  refine (gen_Put sQ 1 brQ (Lib.decDigits 1) TG (fun _ _ h hb => h.below hb) (by decide) ?_ ?_ (fun W h => itoaG 1 (by omega) W h) (by decide +kernel) w hw).mono ?_
  · intro i W hi h hp
    obtain rfl := brQ_at i hi hp
    exact gen_putBad (sQ.extract 0 sQ.size) ⟨#[49, 44, 50, 44, 113]⟩ ⟨#[113]⟩ 1 1 2 7 W (by decide +kernel) (by omega) (by decide +kernel) (by decide +kernel) (by decide +kernel) (parse_q W h)
  · intro i hi hp he
    obtain rfl := brQ_at i hi hp
    exact absurd he (by decide)
  · rintro e w' ⟨he, hb⟩
    exact ⟨by rw [he, putM_Q]; rfl, hb⟩
def brD (n i : Nat) : List UInt8 × Nat × Nat := if i = 0 then (show6 n, 8, 0) else ([], 0, 0)
theorem brD_at : ∀ i, i < 8 → Lib.hasPrefix (sD.data.toList.drop i) [36, 123] = true → i = 0 := by decide +kernel
theorem show6_len (n : Nat) (hn : n < 65536) : (show6 n).length = 6 := by
  have := dec_len5 n hn
  unfold show6
  rw [List.length_append, Lib.repeatL_length]
  simp; omega
theorem put_D (n : Nat) (hn : n < 65536) (w : World) (hw : TG w) :
    Calls Tryd.prog 12 #[.string sD, .int .i64 (n : Int)] w fun e w' => e = .returned (.tuple #[.string ⟨(show6 n).toArray⟩, .int .i64 0]) ∧ Below w.heap.size w w' := by
  have hl5 := dec_len5 n hn
  refine (gen_Put sD n (brD n) (Lib.decDigits n) TG (fun _ _ h hb => h.below hb) (by decide) ?_ ?_ (fun W h => itoaG n hn W h) (by omega) w hw).mono ?_
  · intro i W hi h hp
    obtain rfl := brD_at i hi hp
    exact gen_putBraces (sD.extract 0 sD.size) ⟨#[48, 44, 54, 44, 100]⟩ ⟨#[100]⟩ ⟨(show6 n).toArray⟩ n 0 n 6 7 TG (fun _ _ h hb => h.below hb) (by decide +kernel) (by omega) (by decide +kernel) (by decide +kernel) (by decide +kernel) (by omega) (by omega) (by omega) (by omega) (by omega) parse_d (fun W h => show_d 0 n hn W h.2.2) W h
  · intro i hi hp _
    obtain rfl := brD_at i hi hp
    refine ⟨by show 1 ≤ 8; omega, by show 0 + 8 ≤ 8; omega, ?_⟩
    show (show6 n).length ≤ 100
    rw [show6_len n hn]; omega
  · rintro e w' ⟨he, hb⟩
    refine ⟨?_, hb⟩
    have h1 : putM (brD n) (Lib.decDigits n) sD.data.toList (sD.size + 1) 0 [] = (show6 n, 0) := by
      have e1 := putM_step (br := brD n) (num := Lib.decDigits n) (l := sD.data.toList) (acc := []) (f := 8) (i := 0) (p := show6 n) (sz := 8) (by decide) rfl
      rw [show sD.size + 1 = 8 + 1 from rfl, e1, putM_end _ _ (by decide), List.nil_append]
    rw [he, h1]
    rfl
end Go.Proofs.YtgalihmmlcnahaaDoor
