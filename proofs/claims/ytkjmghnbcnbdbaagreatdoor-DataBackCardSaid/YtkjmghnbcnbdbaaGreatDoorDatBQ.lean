/-
  Plain facts for DataBack: the words of data, read, are the data again.
-/
import Derived.Test.YtkjmghnbcnbdbaaGreatDoorDatBP
import Derived.Test.YtkjmghnbcnbdbaaGreatDoorMQ03
import Derived.Test.YtkjmghnbcnbdbaaGreatDoorMQ07
import Derived.Test.YtkjmghnbcnbdbaaGreatDoorLawDAny
namespace Go.Proofs.YtkjmghnbcnbdbaaGreatDoor
open Go.RowKit Go.Shelf
set_option maxRecDepth 20000

/-! ### parted at a sign -/
theorem split_no {sep : UInt8} : ∀ {p : List UInt8}, (∀ x ∈ p, x ≠ sep) → splitAtU sep p = [p]
  | [], _ => rfl
  | c :: r, h => by
    have ih := split_no (sep := sep) (p := r) (fun x hx => h x (by simp [hx]))
    unfold splitAtU
    rw [if_neg (h c (by simp)), ih]
theorem split_app {sep : UInt8} : ∀ {p : List UInt8} (r : List UInt8), (∀ x ∈ p, x ≠ sep) → splitAtU sep (p ++ sep :: r) = p :: splitAtU sep r
  | [], r, _ => by
    show splitAtU sep (sep :: r) = _
    conv => lhs; unfold splitAtU
    rw [if_pos rfl]
  | c :: p, r, h => by
    have ih := split_app (sep := sep) (p := p) r (fun x hx => h x (by simp [hx]))
    show splitAtU sep (c :: (p ++ sep :: r)) = _
    conv => lhs; unfold splitAtU
    rw [if_neg (h c (by simp)), ih]
theorem split_sep (sep : UInt8) : ∀ ps : Nm, ps ≠ [] → (∀ p ∈ ps, ∀ x ∈ p, x ≠ sep) → splitAtU sep (sepBy [sep] ps) = ps
  | [], h, _ => absurd rfl h
  | [x], _, h => split_no (h x (by simp))
  | x :: y :: r, _, h => by
    have ih := split_sep sep (y :: r) (by simp) (fun p hp => h p (by simp [hp]))
    have e : sepBy [sep] (x :: y :: r) = x ++ (sep :: sepBy [sep] (y :: r)) := by simp [sepBy]
    rw [e, split_app _ (h x (by simp)), ih]
theorem dec_no (sep : UInt8) (hs : sep.toNat < 48 ∨ 57 < sep.toNat) (u : Nat) : ∀ x ∈ Lib.decDigits u, x ≠ sep := by
  intro x hx e
  have h := (dec_facts u).1
  unfold allDigits at h
  have := (digitU_iff x).1 (List.all_eq_true.1 h x hx)
  subst e; omega
theorem hexD_no : ∀ n : Nat, (∀ x ∈ hexD n, x ≠ 58) ∧ (hexD n).all hexB = true ∧ groupV (hexD n) = n := by
  intro n
  have one : ∀ k, k < 16 → (hexC k ≠ 58) ∧ hexB (hexC k) = true ∧ hexV (hexC k) = k := fun k h => by
    obtain ⟨_, _, _, h4, h5⟩ := hexC_is k h
    exact ⟨h4, by unfold hexB; rw [h5]; rfl, by unfold hexV; rw [h5]; rfl⟩
  induction n using Nat.strongRecOn with
  | _ n ih =>
    by_cases h : n < 16
    · rw [hexD_small h]
      obtain ⟨a, b, c⟩ := one n h
      exact ⟨by simpa using a, by simpa using b, by simp [groupV, c]⟩
    · rw [hexD_big h]
      obtain ⟨i1, i2, i3⟩ := ih (n / 16) (by omega)
      obtain ⟨a, b, c⟩ := one (n % 16) (Nat.mod_lt _ (by omega))
      refine ⟨?_, by rw [List.all_append, i2]; simpa using b, ?_⟩
      · intro x hx
        rcases List.mem_append.1 hx with hx | hx
        · exact i1 x hx
        · rw [List.mem_singleton] at hx; rw [hx]; exact a
      · unfold groupV at i3 ⊢
        rw [List.foldl_append, i3]
        simp only [List.foldl_cons, List.foldl_nil, c]
        omega

/-! ### addresses -/
theorem addrs_dec : ∀ raw : List UInt8, addrsM (raw.map fun c => Lib.decDigits c.toNat) = (raw, 0)
  | [] => rfl
  | c :: r => by
    have ih := addrs_dec r
    have hn := numM_dec c.toNat 255 (by have := c.toNat_lt; omega)
    show addrsM (Lib.decDigits c.toNat :: r.map fun c => Lib.decDigits c.toNat) = _
    unfold addrsM
    rw [hn, ih]
    simp
theorem address_back (raw : List UInt8) (h : raw.length = 4) : addressM (sepBy [46] (raw.map fun c => Lib.decDigits c.toNat)) = (raw, 0) := by
  unfold addressM
  rw [split_sep 46 _ (by intro e; have := congrArg List.length e; rw [List.length_map, List.length_nil] at this; omega) (fun p hp => by obtain ⟨c, _, rfl⟩ := List.mem_map.1 hp; exact dec_no 46 (by decide) _)]
  rw [if_pos (by rw [List.length_map]; exact h), addrs_dec]
theorem groupsR_hexes : ∀ raw : List UInt8, raw.length % 2 = 0 → groupsR (hexes raw) = (raw, 0)
  | [], _ => rfl
  | [x], h => by simp at h
  | a :: b :: r, h => by
    have ih := groupsR_hexes r (by simp at h; omega)
    have ha := a.toNat_lt; have hb := b.toNat_lt
    obtain ⟨_, h2, h3⟩ := hexD_no (256 * a.toNat + b.toNat)
    have h4 := hexD_len (256 * a.toNat + b.toNat) (by omega)
    have h5 : 1 ≤ (hexD (256 * a.toNat + b.toNat)).length := by
      rcases Nat.lt_or_ge (256 * a.toNat + b.toNat) 16 with e | e
      · rw [hexD_small e]; simp
      · rw [hexD_big (by omega)]; simp
    show groupsR (hexD (256 * a.toNat + b.toNat) :: hexes r) = _
    unfold groupsR
    rw [if_neg (by rintro (e | e | e); omega; omega; rw [h2] at e; cases e), ih, if_pos rfl, h3]
    have e1 : (256 * a.toNat + b.toNat) / 256 = a.toNat := by omega
    have e2 : (256 * a.toNat + b.toNat) % 256 = b.toNat := by omega
    rw [e1, e2]; simp
theorem groups_back (raw : List UInt8) (h : raw.length = 16) : groupsM (sepBy [58] (hexes raw)) = (raw, 0) := by
  unfold groupsM
  rw [split_sep 58 _ (by intro e; have := congrArg List.length e; rw [hexes_len, List.length_nil] at this; omega) (fun p hp => by obtain ⟨n, _, rfl⟩ := hexes_mem raw p hp; exact (hexD_no n).1)]
  rw [if_pos (by rw [hexes_len]; omega), groupsR_hexes raw (by omega)]

/-! ### texts -/
theorem tStep_cons (x : UInt8) (r : List UInt8) : tStep (x :: r) = if x ≠ 92 then ([x], 1, 0) else ((parseM ((x :: r).take (tSize (x :: r)))).1, tSize (x :: r), (parseM ((x :: r).take (tSize (x :: r)))).2) := rfl
theorem tSize_cc (x y : UInt8) (r : List UInt8) : tSize (x :: y :: r) = min (if digitU y then 4 else 2) (x :: y :: r).length := rfl
theorem parse_one (c : UInt8) : parseM (octetW c) = ([c], 0) := by
  have h := scan_text [c]
  have e : textL [c] = octetW c := by simp [textL]
  rw [e] at h
  unfold parseM
  rw [h]
  simp [checkLabelM]
theorem quoteW_esc' {c : UInt8} (h1 : ¬ (c = 34 ∨ c = 92)) (h2 : c.toNat < 32 ∨ 126 < c.toNat) : quoteW c = octetW c ∧ quoteW c = octetEsc c := by
  have hs : specialU c = false := by
    refine decide_eq_false ?_
    omega
  have e : quoteW c = octetEsc c := by unfold quoteW; rw [if_neg h1, if_pos h2]
  exact ⟨by rw [e, octetW_esc hs (by omega)], e⟩
theorem tStep_quote (c : UInt8) (r : List UInt8) : tStep (quoteW c ++ r) = ([c], (quoteW c).length, 0) := by
  by_cases h1 : c = 34 ∨ c = 92
  · have hs : specialU c = true := by rcases h1 with rfl | rfl <;> decide
    have hd : digitU c = false := by rcases h1 with rfl | rfl <;> decide
    have e : quoteW c = [92, c] := by unfold quoteW; rw [if_pos h1]
    have hp := parse_one c
    rw [octetW_special hs] at hp
    rw [e]
    show tStep (92 :: c :: r) = _
    have hz : tSize (92 :: c :: r) = 2 := by rw [tSize_cc, hd]; simp
    rw [tStep_cons, if_neg (by simp), hz]
    show ((parseM [92, c]).1, 2, (parseM [92, c]).2) = _
    rw [hp]; rfl
  · by_cases h2 : c.toNat < 32 ∨ 126 < c.toNat
    · obtain ⟨e1, e2⟩ := quoteW_esc' h1 h2
      have hp := parse_one c
      rw [← e1, e2] at hp
      rw [e2]
      have hd : digitU (48 + c / 100) = true := by
        have := c.toNat_lt
        have e3 : (48 + c / 100 : UInt8).toNat = 48 + c.toNat / 100 := by rw [UInt8.toNat_add, UInt8.toNat_div]; simp only [UInt8.reduceToNat]; omega
        exact decide_eq_true (by omega)
      show tStep (92 :: (48 + c / 100) :: (48 + c / 10 % 10) :: (48 + c % 10) :: r) = _
      have hz : tSize (92 :: (48 + c / 100) :: (48 + c / 10 % 10) :: (48 + c % 10) :: r) = 4 := by rw [tSize_cc, hd]; simp
      rw [tStep_cons, if_neg (by simp), hz]
      show ((parseM (octetEsc c)).1, 4, (parseM (octetEsc c)).2) = _
      rw [hp]; rfl
    · have e : quoteW c = [c] := by unfold quoteW; rw [if_neg h1, if_neg h2]
      rw [e]
      show tStep (c :: r) = _
      rw [tStep_cons, if_pos (fun e => h1 (.inr e))]; rfl
theorem gscan_quote : ∀ t : List UInt8, gscan tStep (quoteF t) = (t, 0)
  | [] => rfl
  | c :: t => by
    have ih := gscan_quote t
    have hs := tStep_quote c (quoteF t)
    have e : quoteF (c :: t) = quoteW c ++ quoteF t := by simp [quoteF]
    have hne : quoteW c ++ quoteF t ≠ [] := by
      intro h
      have := (List.append_eq_nil_iff.1 h).1
      unfold quoteW at this
      split at this
      · simp at this
      · split at this <;> simp [octetEsc] at this
    rw [e, gscan_ok tStep_ok hne (by rw [hs]), hs]
    simp only [List.drop_left']
    rw [ih]
    simp [join]
theorem text_back {t : List UInt8} (h : t.length ≤ 255) : readTextM (quoteF t) = (t, 0) := by
  unfold readTextM
  rw [gscan_quote, if_pos rfl, if_neg (by simp; omega)]

/-! ### octets -/
theorem pair_back : ∀ raw : List UInt8, pairUp ((raw.flatMap hex2).map hexW) = raw
  | [] => rfl
  | c :: r => by
    have ih := pair_back r
    have hc := c.toNat_lt
    have v : ∀ k, k < 16 → hexW (hexC k) = UInt8.ofNat k := fun k h => by
      unfold hexW hexV; rw [(hexC_is k h).2.2.2.2]; rfl
    rw [List.flatMap_cons]
    show pairUp ((hexC (c.toNat / 16) :: hexC (c.toNat % 16) :: r.flatMap hex2).map hexW) = _
    rw [List.map_cons, List.map_cons, v _ (by omega), v _ (by omega)]
    unfold pairUp
    rw [ih]
    have e1 : (UInt8.ofNat (c.toNat / 16)).toNat = c.toNat / 16 := by simp; omega
    have e2 : (UInt8.ofNat (c.toNat % 16)).toNat = c.toNat % 16 := by simp; omega
    rw [e1, e2, show 16 * (c.toNat / 16) + c.toNat % 16 = c.toNat by omega]
    simp
theorem hex2_all (raw : List UInt8) : (raw.flatMap hex2).all hexB = true := by
  rw [List.all_eq_true]
  intro x hx
  obtain ⟨c, _, hx⟩ := List.mem_flatMap.1 hx
  have hc := c.toNat_lt
  have b : ∀ k, k < 16 → hexB (hexC k) = true := fun k h => by unfold hexB; rw [(hexC_is k h).2.2.2.2]; rfl
  have hx : x = hexC (c.toNat / 16) ∨ x = hexC (c.toNat % 16) := by simpa [hex2] using hx
  rcases hx with rfl | rfl
  · exact b _ (by omega)
  · exact b _ (by omega)

/-! ### words of several kinds, one by one -/
theorem wordsD_nil (d : Dat) (o : Nm) : wordsD d o [] [] = (d, 0) := rfl
theorem wordsD_step (d : Dat) (o : Nm) (k : UInt8) (ks : List UInt8) (s : List UInt8) (q : Bool) (l : List Wd) (hq : ¬ (q = true ∧ k ≠ 116)) (he : errD k s o = 0) : wordsD d o (k :: ks) ((s, q) :: l) = wordsD (addD d k s o) o ks l := by
  show (if q ∧ k ≠ 116 then _ else if errD k s o ≠ 0 then _ else _) = _
  rw [if_neg hq, if_neg (by rw [he]; simp)]
theorem wordsD_names (o : Nm) (ks : List UInt8) (l : List Wd) : ∀ (ns : List Nm) (d : Dat), (∀ n ∈ ns, checkN n = 0) →
    wordsD d o (List.replicate ns.length 110 ++ ks) (ns.map (fun n => (textN n, false)) ++ l) = wordsD { d with names := d.names ++ ns } o ks l
  | [], d, _ => by simp
  | n :: r, d, h => by
    have hp := parse_textN (h n (by simp)) o
    have ih := wordsD_names o ks l r { d with names := d.names ++ [n] } (fun m hm => h m (by simp [hm]))
    have he : errD 110 (textN n) o = 0 := by show (parseN (textN n) o).2 = 0; rw [hp]
    have ha : addD d 110 (textN n) o = { d with names := d.names ++ [n] } := by rw [add_110, hp]
    show wordsD d o (110 :: (List.replicate r.length 110 ++ ks)) ((textN n, false) :: (r.map (fun n => (textN n, false)) ++ l)) = _
    rw [wordsD_step _ _ _ _ _ _ _ (by simp) he, ha, ih]
    simp
theorem wordsD_nums (o : Nm) (ks : List UInt8) (l : List Wd) : ∀ (ns : List Nat) (d : Dat), (∀ n ∈ ns, n < 2 ^ 32) →
    wordsD d o (List.replicate ns.length 117 ++ ks) (ns.map (fun n => (Lib.decDigits n, false)) ++ l) = wordsD { d with nums := d.nums ++ ns } o ks l
  | [], d, _ => by simp
  | n :: r, d, h => by
    have hp := numM_dec n 4294967295 (by have := h n (by simp); omega)
    have ih := wordsD_nums o ks l r { d with nums := d.nums ++ [n] } (fun m hm => h m (by simp [hm]))
    have he : errD 117 (Lib.decDigits n) o = 0 := by show (numM (Lib.decDigits n) 4294967295).2 = 0; rw [hp]
    have ha : addD d 117 (Lib.decDigits n) o = { d with nums := d.nums ++ [n] } := by rw [add_117, hp]
    show wordsD d o (117 :: (List.replicate r.length 117 ++ ks)) ((Lib.decDigits n, false) :: (r.map (fun n => (Lib.decDigits n, false)) ++ l)) = _
    rw [wordsD_step _ _ _ _ _ _ _ (by simp) he, ha, ih]
    simp
theorem wordsD_texts (o : Nm) : ∀ (ts : Nm) (d : Dat), (∀ t ∈ ts, t.length ≤ 255) →
    wordsD d o (List.replicate ts.length 116) (ts.map fun t => (quoteF t, true)) = ({ d with texts := d.texts ++ ts }, 0)
  | [], d, _ => by simp [wordsD]
  | t :: r, d, h => by
    have hp := text_back (h t (by simp))
    have ih := wordsD_texts o r { d with texts := d.texts ++ [t] } (fun m hm => h m (by simp [hm]))
    have he : errD 116 (quoteF t) o = 0 := by show (readTextM (quoteF t)).2 = 0; rw [hp]
    have ha : addD d 116 (quoteF t) o = { d with texts := d.texts ++ [t] } := by rw [add_116, hp]
    show wordsD d o (116 :: List.replicate r.length 116) ((quoteF t, true) :: (r.map fun t => (quoteF t, true))) = _
    rw [wordsD_step _ _ _ _ _ _ _ (by simp) he, ha, ih]
    simp

/-! ### all of it -/
theorem parse_form {t : Int} {l : List Wd} {o : Nm} {d : Dat} (h0 : ¬ (t < 1 ∨ 65535 < t)) (h1 : l.head? ≠ some ([92, 35], false)) (h2 : formD t l.length ≠ []) (h3 : (formD t l.length).length = l.length) (h4 : wordsD (Dat.of t) o (formD t l.length) l = (d, 0)) : parseD t l o = (d, 0) := by
  unfold parseD
  rw [if_neg h0, if_neg h1, if_neg (by rintro (e | e); exact h2 e; exact e h3), h4]
  simp
theorem checkNs_all : ∀ {l : List Nm}, checkNs l = 0 → ∀ n ∈ l, checkN n = 0
  | x :: r, h, n, hn => by
    unfold checkNs at h
    by_cases hx : checkN x = 0
    · rw [if_pos hx] at h
      rcases List.mem_cons.1 hn with rfl | hn
      · exact hx
      · exact checkNs_all h n hn
    · rw [if_neg hx] at h; exact absurd h hx
theorem textN_last (n : Nm) : (textN n).getLast? = some 46 := by
  unfold textN
  by_cases h : n = []
  · rw [if_pos h]; rfl
  · rw [if_neg h]
    obtain ⟨r, x, rfl⟩ : ∃ r x, n = r ++ [x] := ⟨n.dropLast, n.getLast h, (List.dropLast_concat_getLast h).symm⟩
    rw [List.flatMap_append]
    simp
theorem textN_isnt (n : Nm) : textN n ≠ [92, 35] := by
  intro e
  have h := textN_last n
  rw [e] at h
  revert h; decide
theorem dec_head (u : Nat) (r : List UInt8) : ∃ c t, Lib.decDigits u ++ r = c :: t ∧ c ≠ 92 := by
  obtain ⟨h1, _, h3, _⟩ := dec_facts u
  cases hd : Lib.decDigits u with
  | nil => exact absurd hd h3
  | cons c t =>
    refine ⟨c, t ++ r, rfl, ?_⟩
    rw [hd] at h1
    unfold allDigits at h1
    rw [List.all_cons, Bool.and_eq_true] at h1
    have := (digitU_iff c).1 h1.1
    intro e; subst e; revert this; decide
theorem hexD_head (u : Nat) : ∀ r : List UInt8, ∃ c t, hexD u ++ r = c :: t ∧ c ≠ 92 := by
  induction u using Nat.strongRecOn with
  | _ u ih =>
    intro r
    by_cases h : u < 16
    · rw [hexD_small h]; exact ⟨_, r, rfl, (hexC_is u h).1⟩
    · rw [hexD_big h, List.append_assoc]; exact ih (u / 16) (by omega) _
theorem isnt_of_head {l : List UInt8} (h : ∃ c t, l = c :: t ∧ c ≠ 92) : l ≠ [92, 35] ∧ l ≠ [] := by
  obtain ⟨c, t, rfl, hc⟩ := h
  refine ⟨?_, by simp⟩
  intro e
  injection e with e1 _
  exact hc e1
theorem sep_first (sep : List UInt8) (x : List UInt8) : ∀ r : Nm, ∃ t, sepBy sep (x :: r) = x ++ t
  | [] => ⟨[], by simp [sepBy]⟩
  | y :: r => ⟨sep ++ sepBy sep (y :: r), by simp [sepBy]⟩
theorem known_types {t : Int} (h : knownM t = true) : t = 1 ∨ t = 2 ∨ t = 5 ∨ t = 6 ∨ t = 12 ∨ t = 15 ∨ t = 16 ∨ t = 28 ∨ t = 39 := by
  unfold knownM rowOfT at h
  obtain ⟨j, hj⟩ := Option.isSome_iff_exists.1 h
  have h1 := List.find?_some hj
  have h2 := List.mem_of_find?_eq_some hj
  have h1 : typeT j = t := of_decide_eq_true h1
  have h2 : j < 9 := List.mem_range.1 h2
  have key : ∀ k : Fin 9, typeT k.1 = 1 ∨ typeT k.1 = 2 ∨ typeT k.1 = 5 ∨ typeT k.1 = 6 ∨ typeT k.1 = 12 ∨ typeT k.1 = 15 ∨ typeT k.1 = 16 ∨ typeT k.1 = 28 ∨ typeT k.1 = 39 := by decide
  rw [← h1]
  exact key ⟨j, h2⟩
theorem octets_back (t : Int) (raw : List UInt8) (hk : knownM t = false) (hr : raw.length ≤ 1024) :
    octetsD t ((Lib.decDigits raw.length, false) :: (if raw = [] then [] else [(raw.flatMap hex2, false)])) = (raw, 0) := by
  have hn := numM_dec raw.length 4294967295 (by omega)
  have h1 : t ≠ 1 := by rintro rfl; revert hk; decide
  have h28 : t ≠ 28 := by rintro rfl; revert hk; decide
  unfold octetsD
  rw [if_neg (by rw [hk]; simp)]
  simp only
  rw [if_neg (by simp), if_neg (by rw [hn]; simp), hn]
  simp only
  rw [if_neg (by omega)]
  have hh : halvesOK (if raw = [] then [] else [(raw.flatMap hex2, false)]) = true := by
    by_cases e : raw = []
    · rw [if_pos e]; rfl
    · rw [if_neg e]; simp only [halvesOK, List.all_cons, List.all_nil, Bool.and_true]; rw [hex2_all]; rfl
  have hl : halvesL (if raw = [] then [] else [(raw.flatMap hex2, false)]) = (raw.flatMap hex2).map hexW := by
    by_cases e : raw = []
    · rw [if_pos e, e]; rfl
    · rw [if_neg e]; simp [halvesL]
  rw [if_neg (by rw [hh, hl, List.length_map, hex2_len]; simp), if_neg (by simp [h1, h28]), hl, pair_back]

theorem parse_back (d : Dat) (o : Nm) (h : checkD d = 0) (hk : DatOK d) : parseD d.ty (wordsG false [] (textD d)) o = (d, 0) := by
  have hc := checked_counted h
  have hty : ¬ (d.ty < 1 ∨ 65535 < d.ty) := by
    intro e; rw [checkD_type e] at h; cases h
  rw [checkD_rest hty hc] at h
  have hns : checkNs d.names = 0 := by
    by_cases e : checkNs d.names = 0
    · exact e
    · rw [if_pos e] at h; exact absurd h e
  rw [if_neg (by rw [hns]; simp)] at h
  have hmx : ¬ (d.ty = 15 ∧ 65535 < d.nums.headD 0) := by
    intro e; rw [if_pos e] at h; cases h
  rw [if_neg hmx] at h
  have hlt : longT d.texts = false := by
    cases e : longT d.texts with
    | false => rfl
    | true => rw [e] at h; cases h
  rw [hlt, if_neg (by simp)] at h
  have hraw : d.raw.length ≤ 1024 := by
    by_cases e : 1024 < d.raw.length
    · rw [if_pos e] at h; cases h
    · omega
  have hnames := checkNs_all hns
  have hnums := hk.2.2.2.2.1
  have htexts : ∀ t ∈ d.texts, t.length ≤ 255 := by
    intro t ht
    by_cases e : 255 < t.length
    · exfalso
      have : longT d.texts = true := by unfold longT; rw [List.any_eq_true]; exact ⟨t, ht, by simpa using e⟩
      rw [hlt] at this; cases this
    · omega
  clear h hns hlt hk
  obtain ⟨ty, names, nums, texts, raw⟩ := d
  simp only at *
  by_cases h1 : ty = 1
  · subst h1
    have e := countedM_lit ⟨1, names, nums, texts, raw⟩ 0 0 4 rfl (by show (1 : Int) ≠ 16; decide)
    rw [hc] at e
    obtain ⟨e1, e2, e3, e4⟩ := of_decide_eq_true e.symm
    simp only at e1 e2 e3 e4
    obtain rfl := List.eq_nil_of_length_eq_zero e1
    obtain rfl := List.eq_nil_of_length_eq_zero e2
    obtain rfl := List.eq_nil_of_length_eq_zero e3
    have ht : textD ⟨1, [], [], [], raw⟩ = sepBy [46] (raw.map fun c => Lib.decDigits c.toNat) := rfl
    obtain ⟨x, r, hx⟩ : ∃ x r, raw = x :: r := by
      cases raw with
      | nil => simp at e4
      | cons x r => exact ⟨x, r, rfl⟩
    have hh : ∃ c t, sepBy [46] (raw.map fun c => Lib.decDigits c.toNat) = c :: t ∧ c ≠ 92 := by
      subst hx
      obtain ⟨t, ht⟩ := sep_first [46] (Lib.decDigits x.toNat) (r.map fun c => Lib.decDigits c.toNat)
      rw [List.map_cons, ht]
      exact dec_head _ _
    obtain ⟨n1, n2⟩ := isnt_of_head hh
    have hw := wg_sep [sepBy [46] (raw.map fun c => Lib.decDigits c.toNat)] (by
      intro p hp
      rw [List.mem_singleton] at hp
      subst hp
      exact ⟨pl_sep 46 (by decide) (by decide) (by decide) _ (fun p hp => by obtain ⟨c, _, rfl⟩ := List.mem_map.1 hp; exact (pl_dec _).1), n2⟩)
    have hb := address_back raw e4
    rw [ht]
    show parseD 1 (wordsG false [] (sepBy [32] [sepBy [46] (raw.map fun c => Lib.decDigits c.toNat)])) o = _
    rw [hw]
    generalize sepBy [46] (raw.map fun c => Lib.decDigits c.toNat) = s at *
    refine parse_form hty (by simpa using n1) (by show formD 1 1 ≠ []; decide) (by rfl) ?_
    show wordsD (Dat.of 1) o [52] [(s, false)] = _
    rw [wordsD_step _ _ _ _ _ _ _ (by simp) (by show (addressM s).2 = 0; rw [hb]), wordsD_nil, add_52, hb]
    rfl
  by_cases h28 : ty = 28
  · subst h28
    have e := countedM_lit ⟨28, names, nums, texts, raw⟩ 0 0 16 rfl (by show (28 : Int) ≠ 16; decide)
    rw [hc] at e
    obtain ⟨e1, e2, e3, e4⟩ := of_decide_eq_true e.symm
    simp only at e1 e2 e3 e4
    obtain rfl := List.eq_nil_of_length_eq_zero e1
    obtain rfl := List.eq_nil_of_length_eq_zero e2
    obtain rfl := List.eq_nil_of_length_eq_zero e3
    have ht : textD ⟨28, [], [], [], raw⟩ = sepBy [58] (hexes raw) := rfl
    obtain ⟨x, y, r, hx⟩ : ∃ x y r, raw = x :: y :: r := by
      match raw, e4 with
      | x :: y :: r, _ => exact ⟨x, y, r, rfl⟩
    have hh : ∃ c t, sepBy [58] (hexes raw) = c :: t ∧ c ≠ 92 := by
      subst hx
      obtain ⟨t, ht⟩ := sep_first [58] (hexD (256 * x.toNat + y.toNat)) (hexes r)
      show ∃ c t, sepBy [58] (hexD (256 * x.toNat + y.toNat) :: hexes r) = c :: t ∧ c ≠ 92
      rw [ht]
      exact hexD_head _ _
    obtain ⟨n1, n2⟩ := isnt_of_head hh
    have hw := wg_sep [sepBy [58] (hexes raw)] (by
      intro p hp
      rw [List.mem_singleton] at hp
      subst hp
      exact ⟨pl_sep 58 (by decide) (by decide) (by decide) _ (fun p hp => by obtain ⟨n, _, rfl⟩ := hexes_mem raw p hp; exact pl_hexD _), n2⟩)
    have hb := groups_back raw e4
    rw [ht]
    show parseD 28 (wordsG false [] (sepBy [32] [sepBy [58] (hexes raw)])) o = _
    rw [hw]
    generalize sepBy [58] (hexes raw) = s at *
    refine parse_form hty (by simpa using n1) (by show formD 28 1 ≠ []; decide) (by rfl) ?_
    show wordsD (Dat.of 28) o [54] [(s, false)] = _
    rw [wordsD_step _ _ _ _ _ _ _ (by simp) (by show (groupsM s).2 = 0; rw [hb]), wordsD_nil, add_54, hb]
    rfl
  have hnn : ∀ p ∈ names.map textN ++ nums.map Lib.decDigits, Pl p ∧ p ≠ [] := by
    intro p hp
    rcases List.mem_append.1 hp with hp | hp
    · obtain ⟨n, _, rfl⟩ := List.mem_map.1 hp; exact pl_textN n
    · obtain ⟨n, _, rfl⟩ := List.mem_map.1 hp; exact pl_dec n
  by_cases hN : ty = 2 ∨ ty = 5 ∨ ty = 12 ∨ ty = 39
  · have e := countedM_lit ⟨ty, names, nums, texts, raw⟩ 1 0 0 (by rcases hN with rfl | rfl | rfl | rfl <;> rfl) (by rintro rfl; simp at hN)
    rw [hc] at e
    obtain ⟨e1, e2, e3, e4⟩ := of_decide_eq_true e.symm
    simp only at e1 e2 e3 e4
    obtain rfl := List.eq_nil_of_length_eq_zero e2
    obtain rfl := List.eq_nil_of_length_eq_zero e3
    obtain rfl := List.eq_nil_of_length_eq_zero e4
    obtain ⟨n, rfl⟩ := List.length_eq_one_iff.1 e1
    have ht : textD ⟨ty, [n], [], [], []⟩ = sepBy [32] ([n].map textN) := by rcases hN with rfl | rfl | rfl | rfl <;> rfl
    have hf : formD ty 1 = [110] := by rcases hN with rfl | rfl | rfl | rfl <;> rfl
    rw [ht, wg_sep _ (fun p hp => hnn p (List.mem_append.2 (.inl hp)))]
    refine parse_form hty (by simpa using textN_isnt n) (by show formD ty 1 ≠ []; rw [hf]; simp) (by show (formD ty 1).length = 1; rw [hf]; rfl) ?_
    show wordsD (Dat.of ty) o (formD ty 1) _ = _
    rw [hf]
    have hw := wordsD_names o [] [] [n] (Dat.of ty) hnames
    exact hw
  by_cases h6 : ty = 6
  · subst h6
    have e := countedM_lit ⟨6, names, nums, texts, raw⟩ 2 5 0 rfl (by show (6 : Int) ≠ 16; decide)
    rw [hc] at e
    obtain ⟨e1, e2, e3, e4⟩ := of_decide_eq_true e.symm
    simp only at e1 e2 e3 e4
    obtain rfl := List.eq_nil_of_length_eq_zero e3
    obtain rfl := List.eq_nil_of_length_eq_zero e4
    have ht : textD ⟨6, names, nums, [], []⟩ = sepBy [32] (names.map textN ++ nums.map Lib.decDigits) := rfl
    have hf : formD 6 7 = List.replicate names.length 110 ++ (List.replicate nums.length 117 ++ []) := by rw [e1, e2]; rfl
    have hl : ((names.map textN ++ nums.map Lib.decDigits).map fun p => ((p, false) : Wd)).length = 7 := by simp [e1, e2]
    obtain ⟨n, r, rfl⟩ : ∃ n r, names = n :: r := by
      cases names with
      | nil => simp at e1
      | cons n r => exact ⟨n, r, rfl⟩
    rw [ht, wg_sep _ hnn]
    refine parse_form hty (by simpa using textN_isnt n) (by rw [hl]; decide) (by rw [hl]; rfl) ?_
    rw [hl, hf]
    have h1 := wordsD_names o (List.replicate nums.length 117 ++ []) (nums.map (fun n => (Lib.decDigits n, false)) ++ []) (n :: r) (Dat.of 6) hnames
    have h2 := wordsD_nums o [] [] nums { Dat.of 6 with names := (Dat.of 6).names ++ (n :: r) } hnums
    rw [h2] at h1
    have e5 : ((n :: r).map textN ++ nums.map Lib.decDigits).map (fun p => ((p, false) : Wd)) = (n :: r).map (fun n => (textN n, false)) ++ (nums.map (fun n => (Lib.decDigits n, false)) ++ []) := by rw [List.map_append, List.map_map, List.map_map, List.append_nil]; rfl
    rw [e5, h1]
    rfl
  by_cases h15 : ty = 15
  · subst h15
    have e := countedM_lit ⟨15, names, nums, texts, raw⟩ 1 1 0 rfl (by show (15 : Int) ≠ 16; decide)
    rw [hc] at e
    obtain ⟨e1, e2, e3, e4⟩ := of_decide_eq_true e.symm
    simp only at e1 e2 e3 e4
    obtain rfl := List.eq_nil_of_length_eq_zero e3
    obtain rfl := List.eq_nil_of_length_eq_zero e4
    obtain ⟨n, rfl⟩ := List.length_eq_one_iff.1 e1
    obtain ⟨m, rfl⟩ := List.length_eq_one_iff.1 e2
    have hm : m ≤ 65535 := by simp at hmx; omega
    have ht : textD ⟨15, [n], [m], [], []⟩ = sepBy [32] [Lib.decDigits m, textN n] := rfl
    have hw := wg_sep [Lib.decDigits m, textN n] (by
      intro p hp
      simp only [List.mem_cons, List.not_mem_nil, or_false] at hp
      rcases hp with rfl | rfl
      · exact pl_dec m
      · exact pl_textN n)
    have hh : Lib.decDigits m ≠ [92, 35] := by
      have h := dec_head m []
      rw [List.append_nil] at h
      exact (isnt_of_head h).1
    have hp := numM_dec m 65535 hm
    have hq := parse_textN (hnames n (by simp)) o
    rw [ht, hw]
    refine parse_form hty (by simpa using hh) (by show formD 15 2 ≠ []; decide) (by rfl) ?_
    show wordsD (Dat.of 15) o [112, 110] [(Lib.decDigits m, false), (textN n, false)] = _
    rw [wordsD_step _ _ _ _ _ _ _ (by simp) (by show (numM (Lib.decDigits m) 65535).2 = 0; rw [hp]), wordsD_step _ _ _ _ _ _ _ (by simp) (by show (parseN (textN n) o).2 = 0; rw [hq]), wordsD_nil, add_110, add_112, hp, hq]
    rfl
  by_cases h16 : ty = 16
  · subst h16
    have hc2 := of_decide_eq_true hc
    obtain ⟨e1, e2, e3, e4⟩ := hc2
    simp only [if_true] at e1 e2 e3 e4
    have e1 : names.length = 0 := by have : (countsM 16).1 = 0 := rfl; omega
    have e2 : nums.length = 0 := by have : (countsM 16).2.1 = 0 := rfl; omega
    have e4 : raw.length = 0 := by have h0 : (countsM 16).2.2 = 0 := rfl; have := e4 (by omega); omega
    obtain rfl := List.eq_nil_of_length_eq_zero e1
    obtain rfl := List.eq_nil_of_length_eq_zero e2
    obtain rfl := List.eq_nil_of_length_eq_zero e4
    have ht : textD ⟨16, [], [], texts, []⟩ = sepBy [32] (texts.map quotedM) := rfl
    have hf : formD 16 texts.length = List.replicate texts.length 116 := by
      unfold formD
      rw [if_neg (by decide), if_neg (by decide), if_neg (by decide), if_neg (by decide), if_neg (by decide), if_pos ⟨rfl, e3.2⟩]
    have hl : (texts.map fun t => ((quoteF t, true) : Wd)).length = texts.length := List.length_map _
    rw [ht, wg_txt]
    refine parse_form hty ?_ (by rw [hl, hf]; intro e; have := congrArg List.length e; simp at this; subst this; simp at e3) (by rw [hl, hf]; simp) ?_
    · cases texts with
      | nil => simp
      | cons t r => simp
    · rw [hl, hf]
      exact wordsD_texts o texts (Dat.of 16) htexts
  have hkn : knownM ty = false := by
    cases e : knownM ty with
    | false => rfl
    | true => have := known_types e; omega
  have hcz : countsM ty = (0, 0, -1) := by
    unfold countsM
    rw [if_neg h1, if_neg h28, if_neg hN, if_neg h15, if_neg h6, if_neg h16]
  have hc2 := of_decide_eq_true hc
  simp only [hcz] at hc2
  rw [if_neg h16] at hc2
  obtain ⟨e1, e2, e3, _⟩ := hc2
  obtain rfl := List.eq_nil_of_length_eq_zero (by omega : names.length = 0)
  obtain rfl := List.eq_nil_of_length_eq_zero (by omega : nums.length = 0)
  obtain rfl := List.eq_nil_of_length_eq_zero e3
  have ht : textD ⟨ty, [], [], [], raw⟩ = octetWordsM raw := by
    unfold textD
    simp only
    rw [if_neg h1, if_neg h28, if_neg (by omega), if_neg h15, if_neg h16]
  have hs : octetWordsM raw = sepBy [32] ([92, 35] :: Lib.decDigits raw.length :: (if raw = [] then [] else [raw.flatMap hex2])) := by
    unfold octetWordsM
    by_cases e : raw = []
    · rw [if_pos e, if_pos e]; simp [sepBy]
    · rw [if_neg e, if_neg e]; simp [sepBy]
  have hw := wg_sep ([92, 35] :: Lib.decDigits raw.length :: (if raw = [] then [] else [raw.flatMap hex2])) (by
    intro p hp
    rcases List.mem_cons.1 hp with rfl | hp
    · exact ⟨.pair .nil, by simp⟩
    rcases List.mem_cons.1 hp with rfl | hp
    · exact pl_dec _
    by_cases e : raw = []
    · rw [if_pos e] at hp; simp at hp
    · rw [if_neg e, List.mem_singleton] at hp
      subst hp
      refine ⟨Pl.flat pl_hex2 raw, ?_⟩
      cases raw with
      | nil => exact absurd rfl e
      | cons c r => simp [hex2])
  have hm : ([92, 35] :: Lib.decDigits raw.length :: (if raw = [] then [] else [raw.flatMap hex2])).map (fun p => ((p, false) : Wd)) = ([92, 35], false) :: (Lib.decDigits raw.length, false) :: (if raw = [] then [] else [(raw.flatMap hex2, false)]) := by
    by_cases e : raw = []
    · rw [if_pos e, if_pos e]; rfl
    · rw [if_neg e, if_neg e]; rfl
  have ho := octets_back ty raw hkn hraw
  rw [ht, hs, hw, hm]
  unfold parseD
  rw [if_neg hty, if_pos (show List.head? (([92, 35], false) :: _) = some (([92, 35], false) : Wd) from rfl), List.drop_one, List.tail_cons, ho]
  simp
end Go.Proofs.YtkjmghnbcnbdbaaGreatDoor
