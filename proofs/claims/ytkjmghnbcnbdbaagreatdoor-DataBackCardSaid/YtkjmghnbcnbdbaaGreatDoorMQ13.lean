/-
  The shelf's contracts at this dump that the proofs of this seat use (cut out of what the kit's lay-plain writes).
-/
import Derived.Shelf.Strings.Builder1
import Derived.Shelf.Strings.Builder2
import Derived.Shelf.Strings.OnBuilder
import Derived.Shelf.Small.Wraps
import Derived.Shelf.Strings.BuilderF
import Derived.Shelf.Strconv.Itoa0
import Derived.Shelf.Strconv.Itoa1
import Derived.Shelf.LaysM
import Derived.Shelf.Strconv.Itoa2
import Derived.Shelf.Strconv.Itoa3
import Derived.Shelf.Strings.Search1
import Derived.Shelf.Strings.Search2
import Derived.Shelf.Strings.Search3
import Derived.Shelf.Strings.Count
import Derived.Shelf.Strings.Shaped
import Derived.Shelf.Strconv.AppendUint10
import Derived.Shelf.Strconv.AppendInt10
import Derived.Shelf.Strconv.AppendIntPublic10
import Derived.Shelf.Strings.Prefix
import Derived.Shelf.Strings.Split
import Derived.Shelf.Strings.SplitShaped
import Derived.Shelf.Bits.Mul64
import Derived.Shelf.Strings.Repeat
import Derived.Shelf.Unicode.DecodeSlow
import Derived.Test.YtkjmghnbcnbdbaaGreatDoorProg
import Derived.Test.YtkjmghnbcnbdbaaGreatDoorMQ35
import Derived.Test.YtkjmghnbcnbdbaaGreatDoorMQ17
import Derived.Test.YtkjmghnbcnbdbaaGreatDoorMQ15
import Derived.Lib.AppendIntMem
namespace Go.Proofs
open Go.Shelf
def Tryz.lays156_ren : Go.Shelf.Ren := ⟨fun | 156 => 29 | 165 => 64 | 166 => 65 | 169 => 66 | 240 => 93 | 241 => 94 | 276 => 119 | 277 => 120 | n => n, fun | 31 => 24 | 9 => 9 | 3 => 3 | 4 => 4 | 0 => 0 | 20 => 20 | 72 => 94 | 76 => 98 | 70 => 92 | 37 => 25 | 75 => 97 | 127 => 131 | 164 => 157 | 5 => 5 | 80 => 100 | n => n, fun | n => n⟩
theorem Tryz.lays156 : Go.Proofs.Lays.n156 Tryz.prog Tryz.lays156_ren := {
  mixed := by kernel_rfl
  f156 := Tryz.func29.trans (congrArg some (by kernel_rfl))
  f165 := Tryz.func64.trans (congrArg some (by kernel_rfl))
  f166 := Tryz.func65.trans (congrArg some (by kernel_rfl))
  f169 := Tryz.func66.trans (congrArg some (by kernel_rfl))
  f240 := Tryz.func93.trans (congrArg some (by kernel_rfl))
  f241 := Tryz.func94.trans (congrArg some (by kernel_rfl))
  f276 := Tryz.func119.trans (congrArg some (by kernel_rfl))
  f277 := Tryz.func120.trans (congrArg some (by kernel_rfl))
  t0 := Tryz.underlying0
  a0 := Tryz.isAgg0
  z0 := Tryz.sizeOf0
  v0 := Tryz.zeroValue0
  t3 := Tryz.underlying3
  a3 := Tryz.isAgg3
  z3 := Tryz.sizeOf3
  v3 := Tryz.zeroValue3
  t4 := Tryz.underlying4
  a4 := Tryz.isAgg4
  z4 := Tryz.sizeOf4
  v4 := Tryz.zeroValue4
  t9 := Tryz.underlying9
  a9 := Tryz.isAgg9
  z9 := Tryz.sizeOf9
  v9 := Tryz.zeroValue9
  t20 := Tryz.underlying20
  a20 := Tryz.isAgg20
  z20 := Tryz.sizeOf20
  v20 := Tryz.zeroValue20
  t31 := Tryz.underlying24
  a31 := Tryz.isAgg24
  z31 := Tryz.sizeOf24
  v31 := Tryz.zeroValue24
  t37 := Tryz.underlying25
  a37 := Tryz.isAgg25
  z37 := Tryz.sizeOf25
  v37 := Tryz.zeroValue25
  t70 := Tryz.underlying92
  a70 := Tryz.isAgg92
  z70 := Tryz.sizeOf92
  v70 := Tryz.zeroValue92
  t72 := Tryz.underlying94
  a72 := Tryz.isAgg94
  z72 := Tryz.sizeOf94
  v72 := Tryz.zeroValue94
  t75 := Tryz.underlying97
  a75 := Tryz.isAgg97
  z75 := Tryz.sizeOf97
  v75 := Tryz.zeroValue97
  t76 := Tryz.underlying98
  a76 := Tryz.isAgg98
  z76 := Tryz.sizeOf98
  v76 := Tryz.zeroValue98
  t127 := Tryz.underlying131
  a127 := Tryz.isAgg131
  z127 := Tryz.sizeOf131
  v127 := Tryz.zeroValue131
  t164 := Tryz.underlying157
  a164 := Tryz.isAgg157
  z164 := Tryz.sizeOf157
  v164 := Tryz.zeroValue157 }
theorem Tryz.Builder_Extra_156 : Builder.Extra Tryz.prog Tryz.lays156_ren := {
  sizeBuilder := by kernel_rfl
  liesBuilder := by kernel_rfl
  t5 := Tryz.underlying5
  a5 := Tryz.isAgg5
  z5 := Tryz.sizeOf5
  v5 := Tryz.zeroValue5
  infoByte := by kernel_rfl
  cellsByte := by kernel_rfl
  sizeByte := by kernel_rfl
  neB5 := by decide }
open Go.RowKit in
/-- No element: the empty string; the world is as it was. (Whatever the slice's address and capacity: a nil slice too.) (LAID: no walk: one application.) -/
theorem Tryz.strings_Join_none (a : Option Addr) (c : Nat) (sep : ByteArray) (w : World) :
    Calls Tryz.prog 29 #[.slice a 0 c, .string sep] w fun e w' => e = .returned (.string ⟨#[]⟩) ∧ w' = w := Any.strings_Join_none Tryz.lays156 Tryz.Builder_Extra_156 a c sep w
open Go.RowKit in
/-- strings.Join: "Join concatenates the elements of its first argument to create a single string. The separator string sep is placed between elements in the resulting string.": HOWEVER MANY ELEMENTS. Below the heap's end the world is as it was. (LAID: no walk: one application.) -/
theorem Tryz.strings_Join (bk o c : Nat) (xs : List ByteArray) (sep : ByteArray) (w : World) (hcells : ∀ (j : Nat) x, xs[j]? = some x → w.cell? ⟨bk, o + j, none⟩ = some (.string x)) (hbk : bk < w.heap.size) (hN : xs.length ≤ 140737488355328) (hcap : xs.length ≤ c) (hlen : (Lib.join (xs.map (·.data.toList)) sep.data.toList).length ≤ 140737488355328) :
    Calls Tryz.prog 29 #[.slice (some ⟨bk, o, none⟩) xs.length c, .string sep] w fun e w' => e = .returned (.string ⟨(Lib.join (xs.map (·.data.toList)) sep.data.toList).toArray⟩) ∧ Below w.heap.size w w' := Any.strings_Join Tryz.lays156 Tryz.Builder_Extra_156 bk o c xs sep w hcells hbk hN hcap hlen
def Tryz.lays283_ren : Go.Shelf.Ren := ⟨fun | 283 => 115 | n => n, fun | 3 => 3 | 9 => 9 | 4 => 4 | n => n, fun | n => n⟩
theorem Tryz.lays283 : Go.Proofs.Lays.n283 Tryz.prog Tryz.lays283_ren := {
  mixed := by kernel_rfl
  f283 := Tryz.func115.trans (congrArg some (by kernel_rfl))
  t3 := Tryz.underlying3
  a3 := Tryz.isAgg3
  z3 := Tryz.sizeOf3
  v3 := Tryz.zeroValue3
  t4 := Tryz.underlying4
  a4 := Tryz.isAgg4
  z4 := Tryz.sizeOf4
  v4 := Tryz.zeroValue4
  t9 := Tryz.underlying9
  a9 := Tryz.isAgg9
  z9 := Tryz.sizeOf9
  v9 := Tryz.zeroValue9 }
open Go.Lib in
/-- internal/strconv.small: "small returns the string for an i with 0 <= i < nSmalls.": i's decimal numeral. The world is as it was. (LAID: no walk: one application.) -/
theorem Tryz.internal_strconv_small (i : Nat) (h : i < 100) (w : World) :
    Calls Tryz.prog 115 #[.int .i64 i] w fun e w' => e = .returned (.string ⟨(Lib.decDigits i).toArray⟩) ∧ w' = w := Any.internal_strconv_small Tryz.lays283 i h w
def Tryz.laysM284_ren : Go.Shelf.Ren := ⟨fun | 284 => 116 | 129 => 133 | 317 => 132 | 318 => 134 | n => n, fun | 53 => 89 | 3 => 3 | 212 => 173 | 0 => 0 | 4 => 4 | 46 => 90 | 5 => 5 | 9 => 9 | n => n, fun | 17 => 0 | n => n⟩
theorem Tryz.laysM284 : Go.Proofs.LaysM.n284 Tryz.prog Tryz.laysM284_ren := {
  mixed := by kernel_rfl
  f129 := Tryz.func133.trans (congrArg some (by kernel_rfl))
  f284 := Tryz.func116.trans (congrArg some (by kernel_rfl))
  f317 := Tryz.func132.trans (congrArg some (by kernel_rfl))
  f318 := Tryz.func134.trans (congrArg some (by kernel_rfl))
  t0 := Tryz.underlying0
  a0 := Tryz.isAgg0
  z0 := Tryz.sizeOf0
  v0 := Tryz.zeroValue0
  t3 := Tryz.underlying3
  a3 := Tryz.isAgg3
  z3 := Tryz.sizeOf3
  v3 := Tryz.zeroValue3
  t4 := Tryz.underlying4
  a4 := Tryz.isAgg4
  z4 := Tryz.sizeOf4
  v4 := Tryz.zeroValue4
  t5 := Tryz.underlying5
  a5 := Tryz.isAgg5
  z5 := Tryz.sizeOf5
  v5 := Tryz.zeroValue5
  t9 := Tryz.underlying9
  a9 := Tryz.isAgg9
  z9 := Tryz.sizeOf9
  v9 := Tryz.zeroValue9
  t46 := Tryz.underlying90
  a46 := Tryz.isAgg90
  z46 := Tryz.sizeOf90
  v46 := Tryz.zeroValue90
  t53 := Tryz.underlying89
  a53 := Tryz.isAgg89
  z53 := Tryz.sizeOf89
  v53 := Tryz.zeroValue89
  t212 := Tryz.underlying173
  a212 := Tryz.isAgg173
  z212 := Tryz.sizeOf173
  v212 := Tryz.zeroValue173
  g17 := by kernel_rfl
  i0 := by kernel_rfl
  i3 := by kernel_rfl
  i4 := by kernel_rfl
  i5 := by kernel_rfl
  i9 := by kernel_rfl
  i46 := by kernel_rfl
  i53 := by kernel_rfl
  i212 := by kernel_rfl
  m17 := by kernel_rfl }
open Go.Lib in
/-- internal/strconv.numDigits, at a d that is not 0: THE NUMBER OF d's DECIMAL DIGITS. The world is as it was. (LAID: no walk: one application.) -/
theorem Tryz.internal_strconv_numDigits (u : Nat) (h1 : 1 ≤ u) (h2 : u < 18446744073709551616) (w : World) (htab : Lib.TabIs Tryz.prog w "internal/strconv.uint64pow10" .u64 Lib.pow10Tab) :
    Calls Tryz.prog 116 #[.int .u64 u] w fun e w' => e = .returned (.int .i64 (Lib.nDigits u)) ∧ w' = w := Any.internal_strconv_numDigits Tryz.laysM284 u h1 h2 w htab
def Tryz.lays285_ren : Go.Shelf.Ren := ⟨fun | 285 => 117 | n => n, fun | 37 => 25 | 53 => 89 | 3 => 3 | 4 => 4 | 51 => 56 | 9 => 9 | 5 => 5 | 0 => 0 | n => n, fun | n => n⟩
theorem Tryz.lays285 : Go.Proofs.Lays.n285 Tryz.prog Tryz.lays285_ren := {
  mixed := by kernel_rfl
  f285 := Tryz.func117.trans (congrArg some (by kernel_rfl))
  t0 := Tryz.underlying0
  a0 := Tryz.isAgg0
  z0 := Tryz.sizeOf0
  v0 := Tryz.zeroValue0
  t3 := Tryz.underlying3
  a3 := Tryz.isAgg3
  z3 := Tryz.sizeOf3
  v3 := Tryz.zeroValue3
  t4 := Tryz.underlying4
  a4 := Tryz.isAgg4
  z4 := Tryz.sizeOf4
  v4 := Tryz.zeroValue4
  t5 := Tryz.underlying5
  a5 := Tryz.isAgg5
  z5 := Tryz.sizeOf5
  v5 := Tryz.zeroValue5
  t9 := Tryz.underlying9
  a9 := Tryz.isAgg9
  z9 := Tryz.sizeOf9
  v9 := Tryz.zeroValue9
  t37 := Tryz.underlying25
  a37 := Tryz.isAgg25
  z37 := Tryz.sizeOf25
  v37 := Tryz.zeroValue25
  t51 := Tryz.underlying56
  a51 := Tryz.isAgg56
  z51 := Tryz.sizeOf56
  v51 := Tryz.zeroValue56
  t53 := Tryz.underlying89
  a53 := Tryz.isAgg89
  z53 := Tryz.sizeOf89
  v53 := Tryz.zeroValue89 }
open Go.RowKit Go.Sort Go.Lib in
/-- internal/strconv.formatBase10: "formatBase10 formats the decimal representation of u into a. The caller is responsible for ensuring that a is big enough to hold u. If a is too big, leading zeros will be filled in as needed.": THE ROW HOLDS u's DIGITS ('FmtInv .. 0 ..': every place t holds 'dg u (len - 1 - t)'); all else is as it was but for the count of draws. (LAID: no walk: one application.) -/
theorem Tryz.internal_strconv_formatBase10 (blk off cap : Nat) (u : Nat) (d : Array UInt8) (w : World) (hH : Holds (fun (b : UInt8) => Value.int .u8 (b.toNat : Int)) w blk off d) (hu : u < 10 ^ d.size) (hu64 : u < 18446744073709551616) (hsz : d.size < 4611686018427387904) :
    Calls Tryz.prog 117 #[.slice (some ⟨blk, off, none⟩) d.size cap, .int .u64 u] w fun e w' =>
      e = .returned (.tuple #[]) ∧ ∃ (n v' : Nat) (dk : Array UInt8), w' = (putRow (fun (b : UInt8) => Value.int .u8 (b.toNat : Int)) w blk off dk).drewN n ∧ FmtInv d.size u 0 v' dk := Any.internal_strconv_formatBase10 Tryz.lays285 blk off cap u d w hH hu hu64 hsz
def Tryz.laysM171_ren : Go.Shelf.Ren := ⟨fun | 171 => 62 | 243 => 91 | 246 => 114 | 283 => 115 | 284 => 116 | 285 => 117 | 286 => 118 | 129 => 133 | 317 => 132 | 318 => 134 | 319 => 135 | 320 => 136 | 337 => 143 | 338 => 144 | n => n, fun | 3 => 3 | 9 => 9 | 2 => 2 | 4 => 4 | 171 => 152 | 0 => 0 | 53 => 89 | 37 => 25 | 5 => 5 | 173 => 155 | 212 => 173 | 51 => 56 | 20 => 20 | 213 => 174 | 46 => 90 | 232 => 185 | 233 => 186 | n => n, fun | 17 => 0 | 18 => 2 | 19 => 3 | n => n⟩
theorem Tryz.laysM171 : Go.Proofs.LaysM.n171 Tryz.prog Tryz.laysM171_ren := {
  mixed := by kernel_rfl
  f129 := Tryz.func133.trans (congrArg some (by kernel_rfl))
  f171 := Tryz.func62.trans (congrArg some (by kernel_rfl))
  f243 := Tryz.func91.trans (congrArg some (by kernel_rfl))
  f246 := Tryz.func114.trans (congrArg some (by kernel_rfl))
  f283 := Tryz.func115.trans (congrArg some (by kernel_rfl))
  f284 := Tryz.func116.trans (congrArg some (by kernel_rfl))
  f285 := Tryz.func117.trans (congrArg some (by kernel_rfl))
  f286 := Tryz.func118.trans (congrArg some (by kernel_rfl))
  f317 := Tryz.func132.trans (congrArg some (by kernel_rfl))
  f318 := Tryz.func134.trans (congrArg some (by kernel_rfl))
  f319 := Tryz.func135.trans (congrArg some (by kernel_rfl))
  f320 := Tryz.func136.trans (congrArg some (by kernel_rfl))
  f337 := Tryz.func143.trans (congrArg some (by kernel_rfl))
  f338 := Tryz.func144.trans (congrArg some (by kernel_rfl))
  t0 := Tryz.underlying0
  a0 := Tryz.isAgg0
  z0 := Tryz.sizeOf0
  v0 := Tryz.zeroValue0
  t2 := Tryz.underlying2
  a2 := Tryz.isAgg2
  z2 := Tryz.sizeOf2
  v2 := Tryz.zeroValue2
  t3 := Tryz.underlying3
  a3 := Tryz.isAgg3
  z3 := Tryz.sizeOf3
  v3 := Tryz.zeroValue3
  t4 := Tryz.underlying4
  a4 := Tryz.isAgg4
  z4 := Tryz.sizeOf4
  v4 := Tryz.zeroValue4
  t5 := Tryz.underlying5
  a5 := Tryz.isAgg5
  z5 := Tryz.sizeOf5
  v5 := Tryz.zeroValue5
  t9 := Tryz.underlying9
  a9 := Tryz.isAgg9
  z9 := Tryz.sizeOf9
  v9 := Tryz.zeroValue9
  t20 := Tryz.underlying20
  a20 := Tryz.isAgg20
  z20 := Tryz.sizeOf20
  v20 := Tryz.zeroValue20
  t37 := Tryz.underlying25
  a37 := Tryz.isAgg25
  z37 := Tryz.sizeOf25
  v37 := Tryz.zeroValue25
  t46 := Tryz.underlying90
  a46 := Tryz.isAgg90
  z46 := Tryz.sizeOf90
  v46 := Tryz.zeroValue90
  t51 := Tryz.underlying56
  a51 := Tryz.isAgg56
  z51 := Tryz.sizeOf56
  v51 := Tryz.zeroValue56
  t53 := Tryz.underlying89
  a53 := Tryz.isAgg89
  z53 := Tryz.sizeOf89
  v53 := Tryz.zeroValue89
  t171 := Tryz.underlying152
  a171 := Tryz.isAgg152
  z171 := Tryz.sizeOf152
  v171 := Tryz.zeroValue152
  t173 := Tryz.underlying155
  a173 := Tryz.isAgg155
  z173 := Tryz.sizeOf155
  v173 := Tryz.zeroValue155
  t212 := Tryz.underlying173
  a212 := Tryz.isAgg173
  z212 := Tryz.sizeOf173
  v212 := Tryz.zeroValue173
  t213 := Tryz.underlying174
  a213 := Tryz.isAgg174
  z213 := Tryz.sizeOf174
  t232 := Tryz.underlying185
  a232 := Tryz.isAgg185
  z232 := Tryz.sizeOf185
  v232 := Tryz.zeroValue185
  t233 := Tryz.underlying186
  a233 := Tryz.isAgg186
  z233 := Tryz.sizeOf186
  v233 := Tryz.zeroValue186
  g17 := by kernel_rfl
  g18 := by kernel_rfl
  g19 := by kernel_rfl
  i0 := by kernel_rfl
  i2 := by kernel_rfl
  i3 := by kernel_rfl
  i4 := by kernel_rfl
  i5 := by kernel_rfl
  i9 := by kernel_rfl
  i20 := by kernel_rfl
  i37 := by kernel_rfl
  i46 := by kernel_rfl
  i51 := by kernel_rfl
  i53 := by kernel_rfl
  i171 := by kernel_rfl
  i173 := by kernel_rfl
  i212 := by kernel_rfl
  i232 := by kernel_rfl
  i233 := by kernel_rfl
  m17 := by kernel_rfl
  m18 := by kernel_rfl
  m19 := by kernel_rfl }
open Go.RowKit Go.Sort Go.Lib in
/-- strconv.Itoa: "Itoa is equivalent to FormatInt(int64(i), 10).": i's DECIMAL NUMERAL ('Lib.itoa': a '-' where i is negative, then the digits), FOR EVERY int. The world behind the call: the world before it, new blocks behind the heap (the library's 'var a [24]byte'), draws. (LAID: no walk: one application.) -/
theorem Tryz.strconv_Itoa (n : Int) (h0 : -9223372036854775808 ≤ n) (h1 : n ≤ 9223372036854775807) (w : World) (htab : Lib.TabIs Tryz.prog w "internal/strconv.uint64pow10" .u64 Lib.pow10Tab) :
    Calls Tryz.prog 62 #[.int .i64 n] w fun e w' => e = .returned (.string ⟨(Lib.itoa n).toArray⟩) ∧ ∃ k os, w' = grow (w.drewN k) os := Any.strconv_Itoa Tryz.laysM171 n h0 h1 w htab
def Tryz.lays171_ren : Go.Shelf.Ren := ⟨fun | 171 => 62 | 243 => 91 | 246 => 114 | 283 => 115 | 284 => 116 | 285 => 117 | 286 => 118 | 129 => 133 | 317 => 132 | 318 => 134 | 319 => 135 | 320 => 136 | 337 => 143 | 338 => 144 | n => n, fun | 3 => 3 | 9 => 9 | 2 => 2 | 4 => 4 | 171 => 152 | 0 => 0 | 53 => 89 | 37 => 25 | 5 => 5 | 173 => 155 | 212 => 173 | 51 => 56 | 20 => 20 | 213 => 174 | 46 => 90 | 232 => 185 | 233 => 186 | n => n, fun | 17 => 0 | 18 => 2 | 19 => 3 | n => n⟩
theorem Tryz.lays171 : Go.Proofs.Lays.n171 Tryz.prog Tryz.lays171_ren := {
  mixed := by kernel_rfl
  f129 := Tryz.func133.trans (congrArg some (by kernel_rfl))
  f171 := Tryz.func62.trans (congrArg some (by kernel_rfl))
  f243 := Tryz.func91.trans (congrArg some (by kernel_rfl))
  f246 := Tryz.func114.trans (congrArg some (by kernel_rfl))
  f283 := Tryz.func115.trans (congrArg some (by kernel_rfl))
  f284 := Tryz.func116.trans (congrArg some (by kernel_rfl))
  f285 := Tryz.func117.trans (congrArg some (by kernel_rfl))
  f286 := Tryz.func118.trans (congrArg some (by kernel_rfl))
  f317 := Tryz.func132.trans (congrArg some (by kernel_rfl))
  f318 := Tryz.func134.trans (congrArg some (by kernel_rfl))
  f319 := Tryz.func135.trans (congrArg some (by kernel_rfl))
  f320 := Tryz.func136.trans (congrArg some (by kernel_rfl))
  f337 := Tryz.func143.trans (congrArg some (by kernel_rfl))
  f338 := Tryz.func144.trans (congrArg some (by kernel_rfl))
  t0 := Tryz.underlying0
  a0 := Tryz.isAgg0
  z0 := Tryz.sizeOf0
  v0 := Tryz.zeroValue0
  t2 := Tryz.underlying2
  a2 := Tryz.isAgg2
  z2 := Tryz.sizeOf2
  v2 := Tryz.zeroValue2
  t3 := Tryz.underlying3
  a3 := Tryz.isAgg3
  z3 := Tryz.sizeOf3
  v3 := Tryz.zeroValue3
  t4 := Tryz.underlying4
  a4 := Tryz.isAgg4
  z4 := Tryz.sizeOf4
  v4 := Tryz.zeroValue4
  t5 := Tryz.underlying5
  a5 := Tryz.isAgg5
  z5 := Tryz.sizeOf5
  v5 := Tryz.zeroValue5
  t9 := Tryz.underlying9
  a9 := Tryz.isAgg9
  z9 := Tryz.sizeOf9
  v9 := Tryz.zeroValue9
  t20 := Tryz.underlying20
  a20 := Tryz.isAgg20
  z20 := Tryz.sizeOf20
  v20 := Tryz.zeroValue20
  t37 := Tryz.underlying25
  a37 := Tryz.isAgg25
  z37 := Tryz.sizeOf25
  v37 := Tryz.zeroValue25
  t46 := Tryz.underlying90
  a46 := Tryz.isAgg90
  z46 := Tryz.sizeOf90
  v46 := Tryz.zeroValue90
  t51 := Tryz.underlying56
  a51 := Tryz.isAgg56
  z51 := Tryz.sizeOf56
  v51 := Tryz.zeroValue56
  t53 := Tryz.underlying89
  a53 := Tryz.isAgg89
  z53 := Tryz.sizeOf89
  v53 := Tryz.zeroValue89
  t171 := Tryz.underlying152
  a171 := Tryz.isAgg152
  z171 := Tryz.sizeOf152
  v171 := Tryz.zeroValue152
  t173 := Tryz.underlying155
  a173 := Tryz.isAgg155
  z173 := Tryz.sizeOf155
  v173 := Tryz.zeroValue155
  t212 := Tryz.underlying173
  a212 := Tryz.isAgg173
  z212 := Tryz.sizeOf173
  v212 := Tryz.zeroValue173
  t213 := Tryz.underlying174
  a213 := Tryz.isAgg174
  z213 := Tryz.sizeOf174
  t232 := Tryz.underlying185
  a232 := Tryz.isAgg185
  z232 := Tryz.sizeOf185
  v232 := Tryz.zeroValue185
  t233 := Tryz.underlying186
  a233 := Tryz.isAgg186
  z233 := Tryz.sizeOf186
  v233 := Tryz.zeroValue186
  g17 := by kernel_rfl
  g18 := by kernel_rfl
  g19 := by kernel_rfl }
open Go.RowKit Go.Sort Go.Lib in
/-- THE ROAD WITHOUT THE TABLE: 0 <= i < 100: NO PREMISE ON THE WORLD, AND THE WORLD IS AS IT WAS: a row that keeps its argument in that range need list no table ('laid = []'). (LAID: no walk: one application.) -/
theorem Tryz.strconv_Itoa_small (i : Nat) (hi : i < 100) (w : World) :
    Calls Tryz.prog 62 #[.int .i64 i] w fun e w' => e = .returned (.string ⟨(Lib.decDigits i).toArray⟩) ∧ w' = w := Any.strconv_Itoa_small Tryz.lays171 i hi w
def Tryz.laysM176_ren : Go.Shelf.Ren := ⟨fun | 176 => 69 | 249 => 96 | 288 => 122 | 283 => 115 | 284 => 116 | 285 => 117 | 286 => 118 | 129 => 133 | 317 => 132 | 318 => 134 | 319 => 135 | 320 => 136 | 337 => 143 | 338 => 144 | n => n, fun | 37 => 25 | 2 => 2 | 3 => 3 | 53 => 89 | 4 => 4 | 9 => 9 | 171 => 152 | 0 => 0 | 173 => 155 | 212 => 173 | 51 => 56 | 5 => 5 | 20 => 20 | 213 => 174 | 46 => 90 | 232 => 185 | 233 => 186 | n => n, fun | 17 => 0 | 18 => 2 | 19 => 3 | n => n⟩
theorem Tryz.laysM176 : Go.Proofs.LaysM.n176 Tryz.prog Tryz.laysM176_ren := {
  mixed := by kernel_rfl
  f129 := Tryz.func133.trans (congrArg some (by kernel_rfl))
  f176 := Tryz.func69.trans (congrArg some (by kernel_rfl))
  f249 := Tryz.func96.trans (congrArg some (by kernel_rfl))
  f283 := Tryz.func115.trans (congrArg some (by kernel_rfl))
  f284 := Tryz.func116.trans (congrArg some (by kernel_rfl))
  f285 := Tryz.func117.trans (congrArg some (by kernel_rfl))
  f286 := Tryz.func118.trans (congrArg some (by kernel_rfl))
  f288 := Tryz.func122.trans (congrArg some (by kernel_rfl))
  f317 := Tryz.func132.trans (congrArg some (by kernel_rfl))
  f318 := Tryz.func134.trans (congrArg some (by kernel_rfl))
  f319 := Tryz.func135.trans (congrArg some (by kernel_rfl))
  f320 := Tryz.func136.trans (congrArg some (by kernel_rfl))
  f337 := Tryz.func143.trans (congrArg some (by kernel_rfl))
  f338 := Tryz.func144.trans (congrArg some (by kernel_rfl))
  t0 := Tryz.underlying0
  a0 := Tryz.isAgg0
  z0 := Tryz.sizeOf0
  v0 := Tryz.zeroValue0
  t2 := Tryz.underlying2
  a2 := Tryz.isAgg2
  z2 := Tryz.sizeOf2
  v2 := Tryz.zeroValue2
  t3 := Tryz.underlying3
  a3 := Tryz.isAgg3
  z3 := Tryz.sizeOf3
  v3 := Tryz.zeroValue3
  t4 := Tryz.underlying4
  a4 := Tryz.isAgg4
  z4 := Tryz.sizeOf4
  v4 := Tryz.zeroValue4
  t5 := Tryz.underlying5
  a5 := Tryz.isAgg5
  z5 := Tryz.sizeOf5
  v5 := Tryz.zeroValue5
  t9 := Tryz.underlying9
  a9 := Tryz.isAgg9
  z9 := Tryz.sizeOf9
  v9 := Tryz.zeroValue9
  t20 := Tryz.underlying20
  a20 := Tryz.isAgg20
  z20 := Tryz.sizeOf20
  v20 := Tryz.zeroValue20
  t37 := Tryz.underlying25
  a37 := Tryz.isAgg25
  z37 := Tryz.sizeOf25
  v37 := Tryz.zeroValue25
  t46 := Tryz.underlying90
  a46 := Tryz.isAgg90
  z46 := Tryz.sizeOf90
  v46 := Tryz.zeroValue90
  t51 := Tryz.underlying56
  a51 := Tryz.isAgg56
  z51 := Tryz.sizeOf56
  v51 := Tryz.zeroValue56
  t53 := Tryz.underlying89
  a53 := Tryz.isAgg89
  z53 := Tryz.sizeOf89
  v53 := Tryz.zeroValue89
  t171 := Tryz.underlying152
  a171 := Tryz.isAgg152
  z171 := Tryz.sizeOf152
  v171 := Tryz.zeroValue152
  t173 := Tryz.underlying155
  a173 := Tryz.isAgg155
  z173 := Tryz.sizeOf155
  v173 := Tryz.zeroValue155
  t212 := Tryz.underlying173
  a212 := Tryz.isAgg173
  z212 := Tryz.sizeOf173
  v212 := Tryz.zeroValue173
  t213 := Tryz.underlying174
  a213 := Tryz.isAgg174
  z213 := Tryz.sizeOf174
  t232 := Tryz.underlying185
  a232 := Tryz.isAgg185
  z232 := Tryz.sizeOf185
  v232 := Tryz.zeroValue185
  t233 := Tryz.underlying186
  a233 := Tryz.isAgg186
  z233 := Tryz.sizeOf186
  v233 := Tryz.zeroValue186
  g17 := by kernel_rfl
  g18 := by kernel_rfl
  g19 := by kernel_rfl
  i0 := by kernel_rfl
  i2 := by kernel_rfl
  i3 := by kernel_rfl
  i4 := by kernel_rfl
  i5 := by kernel_rfl
  i9 := by kernel_rfl
  i20 := by kernel_rfl
  i37 := by kernel_rfl
  i46 := by kernel_rfl
  i51 := by kernel_rfl
  i53 := by kernel_rfl
  i171 := by kernel_rfl
  i173 := by kernel_rfl
  i212 := by kernel_rfl
  i232 := by kernel_rfl
  i233 := by kernel_rfl
  m17 := by kernel_rfl
  m18 := by kernel_rfl
  m19 := by kernel_rfl }
open Go.RowKit Go.Sort Go.Lib in
/-- strconv.AppendInt: "AppendInt appends the string form of the integer i, as generated by FormatInt, to dst and returns the extended buffer.": AT BASE 10: WHAT COMES BACK OWNS dst's CELLS AND, BEHIND THEM, i's DECIMAL NUMERAL ('Lib.itoa i': at most 20 bytes), for every int64. Below the call's own blocks nothing has turned. (LAID: no walk: one application.) -/
theorem Tryz.strconv_AppendInt_10 (B n : Nat) (i : Int) (h0 : -9223372036854775808 ≤ i) (h1 : i ≤ 9223372036854775807) (sv : Value) (xs : List Value) (w : World) (hown : w.ownsRow B 5 1 sv n xs) (hBw : B ≤ w.heap.size) (hlim : n + 21 ≤ 140737488355328) (htab : Lib.TabBelow Tryz.prog B w "internal/strconv.uint64pow10" .u64 Lib.pow10Tab) :
    Calls Tryz.prog 69 #[sv, .int .i64 i, .int .i64 10] w fun e w' => ∃ v', e = .returned v' ∧ w'.ownsRow B 5 1 v' (n + (Lib.itoa i).length) (xs ++ Lib.byteCells (Lib.itoa i)) ∧ Below B w w' ∧ Lib.OthersKept 5 none w w' := Any.strconv_AppendInt_10 Tryz.laysM176 B n i h0 h1 sv xs w hown hBw hlim htab
def Tryz.lays146_ren : Go.Shelf.Ren := ⟨fun | 146 => 131 | 221 => 142 | 268 => 146 | 138 => 147 | 143 => 148 | 195 => 149 | 197 => 150 | 218 => 151 | 219 => 152 | 260 => 153 | 217 => 154 | 225 => 155 | 224 => 156 | 267 => 157 | 266 => 158 | 314 => 159 | n => n, fun | 9 => 9 | 31 => 24 | 3 => 3 | 4 => 4 | 0 => 0 | 105 => 187 | 21 => 21 | 5 => 5 | 46 => 90 | 119 => 190 | 139 => 193 | 138 => 192 | 146 => 176 | 51 => 56 | n => n, fun | 1 => 1 | 3 => 4 | 4 => 5 | n => n⟩
theorem Tryz.lays146 : Go.Proofs.Lays.n146 Tryz.prog Tryz.lays146_ren := {
  mixed := by kernel_rfl
  f138 := Tryz.func147.trans (congrArg some (by kernel_rfl))
  f143 := Tryz.func148.trans (congrArg some (by kernel_rfl))
  f146 := Tryz.func131.trans (congrArg some (by kernel_rfl))
  f195 := Tryz.func149.trans (congrArg some (by kernel_rfl))
  f197 := Tryz.func150.trans (congrArg some (by kernel_rfl))
  f217 := Tryz.func154.trans (congrArg some (by kernel_rfl))
  f218 := Tryz.func151.trans (congrArg some (by kernel_rfl))
  f219 := Tryz.func152.trans (congrArg some (by kernel_rfl))
  f221 := Tryz.func142.trans (congrArg some (by kernel_rfl))
  f224 := Tryz.func156.trans (congrArg some (by kernel_rfl))
  f225 := Tryz.func155.trans (congrArg some (by kernel_rfl))
  f260 := Tryz.func153.trans (congrArg some (by kernel_rfl))
  f266 := Tryz.func158.trans (congrArg some (by kernel_rfl))
  f267 := Tryz.func157.trans (congrArg some (by kernel_rfl))
  f268 := Tryz.func146.trans (congrArg some (by kernel_rfl))
  f314 := Tryz.func159.trans (congrArg some (by kernel_rfl))
  t0 := Tryz.underlying0
  a0 := Tryz.isAgg0
  z0 := Tryz.sizeOf0
  v0 := Tryz.zeroValue0
  t3 := Tryz.underlying3
  a3 := Tryz.isAgg3
  z3 := Tryz.sizeOf3
  v3 := Tryz.zeroValue3
  t4 := Tryz.underlying4
  a4 := Tryz.isAgg4
  z4 := Tryz.sizeOf4
  v4 := Tryz.zeroValue4
  t5 := Tryz.underlying5
  a5 := Tryz.isAgg5
  z5 := Tryz.sizeOf5
  v5 := Tryz.zeroValue5
  t9 := Tryz.underlying9
  a9 := Tryz.isAgg9
  z9 := Tryz.sizeOf9
  v9 := Tryz.zeroValue9
  t21 := Tryz.underlying21
  a21 := Tryz.isAgg21
  z21 := Tryz.sizeOf21
  v21 := Tryz.zeroValue21
  t31 := Tryz.underlying24
  a31 := Tryz.isAgg24
  z31 := Tryz.sizeOf24
  v31 := Tryz.zeroValue24
  t46 := Tryz.underlying90
  a46 := Tryz.isAgg90
  z46 := Tryz.sizeOf90
  v46 := Tryz.zeroValue90
  t51 := Tryz.underlying56
  a51 := Tryz.isAgg56
  z51 := Tryz.sizeOf56
  v51 := Tryz.zeroValue56
  t105 := Tryz.underlying187
  a105 := Tryz.isAgg187
  z105 := Tryz.sizeOf187
  v105 := Tryz.zeroValue187
  t119 := Tryz.underlying190
  a119 := Tryz.isAgg190
  z119 := Tryz.sizeOf190
  t138 := Tryz.underlying192
  a138 := Tryz.isAgg192
  z138 := Tryz.sizeOf192
  v138 := Tryz.zeroValue192
  t139 := Tryz.underlying193
  a139 := Tryz.isAgg193
  z139 := Tryz.sizeOf193
  v139 := Tryz.zeroValue193
  t146 := Tryz.underlying176
  a146 := Tryz.isAgg176
  z146 := Tryz.sizeOf176
  v146 := Tryz.zeroValue176
  g1 := by kernel_rfl
  g3 := by kernel_rfl
  g4 := by kernel_rfl }
open Go.RowKit Go.Lib in
/-- strings.Split. (LAID: no walk: one application.) -/
theorem Tryz.strings_Split (s sep : ByteArray) (m : Int) (w : World) (hs : s.size < 4294967281) (hm : w.cell? ⟨1, 0, none⟩ = some (.int .i64 m)) (h1 : 1 ≤ sep.size) :
    Calls Tryz.prog 131 #[.string s, .string sep] w fun e w' =>
      e = .returned (.slice (some ⟨w.heap.size, 0, none⟩) (Lib.countB s sep + 1) (Lib.countB s sep + 1)) ∧ w' = w.alloc (.cells ((Lib.splitB sep 0 (Lib.countB s sep) s).map Value.string).toArray 9) := Any.strings_Split Tryz.lays146 (by kernel_rfl) s sep m w hs hm h1
def Tryz.lays105_ren : Go.Shelf.Ren := ⟨fun | 105 => 108 | 212 => 124 | 99 => 125 | 165 => 64 | 166 => 65 | 170 => 126 | 169 => 66 | 263 => 138 | 264 => 139 | 206 => 140 | 240 => 93 | 241 => 94 | 276 => 119 | 277 => 120 | n => n, fun | 9 => 9 | 3 => 3 | 4 => 4 | 20 => 20 | 0 => 0 | 46 => 90 | 109 => 165 | 5 => 5 | 72 => 94 | 76 => 98 | 51 => 56 | 146 => 176 | 53 => 89 | 148 => 178 | 70 => 92 | 37 => 25 | 75 => 97 | 127 => 131 | 164 => 157 | 80 => 100 | n => n, fun | n => n⟩
theorem Tryz.lays105 : Go.Proofs.Lays.n105 Tryz.prog Tryz.lays105_ren := {
  mixed := by kernel_rfl
  f99 := Tryz.func125.trans (congrArg some (by kernel_rfl))
  f105 := Tryz.func108.trans (congrArg some (by kernel_rfl))
  f165 := Tryz.func64.trans (congrArg some (by kernel_rfl))
  f166 := Tryz.func65.trans (congrArg some (by kernel_rfl))
  f169 := Tryz.func66.trans (congrArg some (by kernel_rfl))
  f170 := Tryz.func126.trans (congrArg some (by kernel_rfl))
  f206 := Tryz.func140.trans (congrArg some (by kernel_rfl))
  f212 := Tryz.func124.trans (congrArg some (by kernel_rfl))
  f240 := Tryz.func93.trans (congrArg some (by kernel_rfl))
  f241 := Tryz.func94.trans (congrArg some (by kernel_rfl))
  f263 := Tryz.func138.trans (congrArg some (by kernel_rfl))
  f264 := Tryz.func139.trans (congrArg some (by kernel_rfl))
  f276 := Tryz.func119.trans (congrArg some (by kernel_rfl))
  f277 := Tryz.func120.trans (congrArg some (by kernel_rfl))
  t0 := Tryz.underlying0
  a0 := Tryz.isAgg0
  z0 := Tryz.sizeOf0
  v0 := Tryz.zeroValue0
  t3 := Tryz.underlying3
  a3 := Tryz.isAgg3
  z3 := Tryz.sizeOf3
  v3 := Tryz.zeroValue3
  t4 := Tryz.underlying4
  a4 := Tryz.isAgg4
  z4 := Tryz.sizeOf4
  v4 := Tryz.zeroValue4
  t5 := Tryz.underlying5
  a5 := Tryz.isAgg5
  z5 := Tryz.sizeOf5
  v5 := Tryz.zeroValue5
  t9 := Tryz.underlying9
  a9 := Tryz.isAgg9
  z9 := Tryz.sizeOf9
  v9 := Tryz.zeroValue9
  t20 := Tryz.underlying20
  a20 := Tryz.isAgg20
  z20 := Tryz.sizeOf20
  v20 := Tryz.zeroValue20
  t37 := Tryz.underlying25
  a37 := Tryz.isAgg25
  z37 := Tryz.sizeOf25
  v37 := Tryz.zeroValue25
  t46 := Tryz.underlying90
  a46 := Tryz.isAgg90
  z46 := Tryz.sizeOf90
  v46 := Tryz.zeroValue90
  t51 := Tryz.underlying56
  a51 := Tryz.isAgg56
  z51 := Tryz.sizeOf56
  v51 := Tryz.zeroValue56
  t53 := Tryz.underlying89
  a53 := Tryz.isAgg89
  z53 := Tryz.sizeOf89
  v53 := Tryz.zeroValue89
  t70 := Tryz.underlying92
  a70 := Tryz.isAgg92
  z70 := Tryz.sizeOf92
  v70 := Tryz.zeroValue92
  t72 := Tryz.underlying94
  a72 := Tryz.isAgg94
  z72 := Tryz.sizeOf94
  v72 := Tryz.zeroValue94
  t75 := Tryz.underlying97
  a75 := Tryz.isAgg97
  z75 := Tryz.sizeOf97
  v75 := Tryz.zeroValue97
  t76 := Tryz.underlying98
  a76 := Tryz.isAgg98
  z76 := Tryz.sizeOf98
  v76 := Tryz.zeroValue98
  t109 := Tryz.underlying165
  a109 := Tryz.isAgg165
  z109 := Tryz.sizeOf165
  v109 := Tryz.zeroValue165
  t127 := Tryz.underlying131
  a127 := Tryz.isAgg131
  z127 := Tryz.sizeOf131
  v127 := Tryz.zeroValue131
  t146 := Tryz.underlying176
  a146 := Tryz.isAgg176
  z146 := Tryz.sizeOf176
  v146 := Tryz.zeroValue176
  t148 := Tryz.underlying178
  a148 := Tryz.isAgg178
  z148 := Tryz.sizeOf178
  v148 := Tryz.zeroValue178
  t164 := Tryz.underlying157
  a164 := Tryz.isAgg157
  z164 := Tryz.sizeOf157
  v164 := Tryz.zeroValue157 }
theorem Tryz.Builder_Extra_105 : Builder.Extra Tryz.prog Tryz.lays105_ren := {
  sizeBuilder := by kernel_rfl
  liesBuilder := by kernel_rfl
  t5 := Tryz.underlying5
  a5 := Tryz.isAgg5
  z5 := Tryz.sizeOf5
  v5 := Tryz.zeroValue5
  infoByte := by kernel_rfl
  cellsByte := by kernel_rfl
  sizeByte := by kernel_rfl
  neB5 := by decide }
open Go.RowKit Go.Lib in
/-- **strings.Repeat: count ≥ 0, the result within one allocation: count copies of s.** (LAID: no walk: one application.) -/
theorem Tryz.strings_Repeat (s : ByteArray) (c : Nat) (w : World) (hc : c ≤ 9223372036854775807) (hlen : s.size * c ≤ 140737488355328) :
    Calls Tryz.prog 108 #[.string s, .int .i64 c] w fun e w' => e = .returned (.string ⟨(Lib.repeatL s.data.toList c).toArray⟩) ∧ Below w.heap.size w w' := Any.strings_Repeat Tryz.lays105 Tryz.Builder_Extra_105 s c w hc hlen
end Go.Proofs

/-
  Package rtype's table looked up: by the number, by the name.
-/
namespace Go.Proofs.YtkjmghnbcnbdbaaGreatDoor
set_option maxRecDepth 20000
open Go.RowKit Go.Shelf

theorem fin_prefix {n : Nat} {p : List (Fin n)} {x : Fin n} (h : (p ++ [x]) <+: List.finRange n) : ∀ j : Fin n, j.val < x.val → j ∈ p := by
  have hl : p.length + 1 ≤ n := by have := h.length_le; simpa using this
  have hg : ∀ i (h1 : i < p.length + 1), (p ++ [x])[i]'(by simpa using h1) = ⟨i, by omega⟩ := fun i h1 => by
    have := h.getElem (i := i) (by simpa using h1)
    rw [this]; simp
  have hx : x.val = p.length := by
    have := hg p.length (by omega)
    rw [List.getElem_append_right (Nat.le_refl _)] at this
    simp at this; rw [this]
  intro j hj
  have h1 : j.val < p.length := by omega
  have := hg j.val (by omega)
  rw [List.getElem_append_left h1] at this
  rw [← show p[j.val] = j from this]; exact List.getElem_mem h1
theorem results_sb {fn : Func} {t u : Tmp} {S B : TypeId} (h : fn.results = #[.cell t S, .cell u B]) (hS : Tryz.prog.underlying S = some .string) (hB : Tryz.prog.underlying B = some .bool) (tmps : Array Value) (W : World) {a b : Nat} {v z : Value}
    (ht : tmps.getD t undef = .pointer (some ⟨a, 0, none⟩)) (hu : tmps.getD u undef = .pointer (some ⟨b, 0, none⟩)) (hc : W.cell? ⟨a, 0, none⟩ = some v) (hd : W.cell? ⟨b, 0, none⟩ = some z) : (results fn tmps).run Tryz.prog W = .ok (.tuple #[v, z]) W := by
  have ht' : tmps[t]?.getD undef = .pointer (some ⟨a, 0, none⟩) := by rw [← ht]; simp
  have hu' : tmps[u]?.getD undef = .pointer (some ⟨b, 0, none⟩) := by rw [← hu]; simp
  have h1 : ∀ w, Sem.run Tryz.prog (underlying S) w = .ok _ w := run_underlying hS
  have h2 : ∀ w, Sem.run Tryz.prog (underlying B) w = .ok _ w := run_underlying hB
  simp [results, h, ht', hu', loadVar, asAddr, go_sem, h1, h2, hc, hd, isAgg]
theorem results_ib {fn : Func} {t u : Tmp} {S B : TypeId} {k : IntKind} (h : fn.results = #[.cell t S, .cell u B]) (hS : Tryz.prog.underlying S = some (.int k)) (hB : Tryz.prog.underlying B = some .bool) (tmps : Array Value) (W : World) {a b : Nat} {v z : Value}
    (ht : tmps.getD t undef = .pointer (some ⟨a, 0, none⟩)) (hu : tmps.getD u undef = .pointer (some ⟨b, 0, none⟩)) (hc : W.cell? ⟨a, 0, none⟩ = some v) (hd : W.cell? ⟨b, 0, none⟩ = some z) : (results fn tmps).run Tryz.prog W = .ok (.tuple #[v, z]) W := by
  have ht' : tmps[t]?.getD undef = .pointer (some ⟨a, 0, none⟩) := by rw [← ht]; simp
  have hu' : tmps[u]?.getD undef = .pointer (some ⟨b, 0, none⟩) := by rw [← hu]; simp
  have h1 : ∀ w, Sem.run Tryz.prog (underlying S) w = .ok _ w := run_underlying hS
  have h2 : ∀ w, Sem.run Tryz.prog (underlying B) w = .ok _ w := run_underlying hB
  simp [results, h, ht', hu', loadVar, asAddr, go_sem, h1, h2, hc, hd, isAgg]
theorem rowOfT_at {t : Int} {x : Fin 9} {p : List (Fin 9)} (hp : (p ++ [x]) <+: List.finRange 9) (h : typeT x.val = t) (hn : ∀ j ∈ p, typeT j.val ≠ t) : rowOfT t = some x.val :=
  rowOfT_first x.isLt h (fun j hj => hn ⟨j, Nat.lt_trans hj x.isLt⟩ (fin_prefix hp ⟨j, Nat.lt_trans hj x.isLt⟩ hj))
theorem rowOfS_at {t : List UInt8} {x : Fin 9} {p : List (Fin 9)} (hp : (p ++ [x]) <+: List.finRange 9) (h : typeS x.val = t) (hn : ∀ j ∈ p, typeS j.val ≠ t) : rowOfS t = some x.val :=
  rowOfS_first x.isLt h (fun j hj => hn ⟨j, Nat.lt_trans hj x.isLt⟩ (fin_prefix hp ⟨j, Nat.lt_trans hj x.isLt⟩ hj))
def keyOfM (s : List UInt8) : Int × Bool := match rowOfS s with | some j => (typeT j, true) | none => (0, false)

section
attribute [local go_sem] Oper.semAt_some
set_option maxRecDepth 100000 in
set_option maxHeartbeats 4000000 in
theorem table_value (g : Nat) (t : Int) (w : World) (hN : NRow g w) :
    Calls Tryz.prog 105 #[.agg #[.slice (some ⟨g, 0, none⟩) 9 9], .int .i64 t] w fun e w' => e = .returned (.tuple #[.string ⟨(typeNameM t).toArray⟩, .bool (knownM t)]) ∧ Below w.heap.size w w' := by
  refine (callsIn_wide (n := 5)).1 ?_
  refine callsIn_of_wp_marks Tryz.func105 rfl trivial ?_ rfl
  simp only [Tryz.ntmps105, List.size_toArray, List.length_cons, List.length_nil, Nat.reduceAdd, Nat.reduceSub, Array.replicate_succ, Array.replicate_zero, List.push_toArray, List.append_toArray, List.nil_append, List.cons_append]
  gi_wp2_with (refine ⟨trivial, ?_⟩; gi_at_call 123; refine (callsIn_wide.2 (table_all _ _)).mono ?_; rintro e w' ⟨rfl, rfl⟩)
  obtain ⟨W0, hW0⟩ : ∃ W0, (((((w.alloc (.cells #[.slice (some ⟨g, 0, none⟩) 9 9] 140)).alloc (.cells #[.int .i64 t] 3)).alloc (.cells #[.string ⟨#[]⟩] 9)).alloc (.cells #[.bool false] 4)).alloc (.cells #[.slice (some ⟨g, 0, none⟩) 9 9] 140)) = W0 := ⟨_, rfl⟩
  have bK : Boxed W0 (w.heap.size + 1) 3 (.int .i64 t) := by
    have := Boxed.new (w.alloc (.cells #[.slice (some ⟨g, 0, none⟩) 9 9] 140)) 3 (.int .i64 t)
    rw [World.size_alloc] at this
    rw [← hW0]; exact ((this.alloc _).alloc _).alloc _
  have bR : Boxed W0 (w.heap.size + 1 + 1) 9 (.string ⟨#[]⟩) := by
    have := Boxed.new ((w.alloc (.cells #[.slice (some ⟨g, 0, none⟩) 9 9] 140)).alloc (.cells #[.int .i64 t] 3)) 9 (.string ⟨#[]⟩)
    rw [World.size_alloc, World.size_alloc] at this
    rw [← hW0]; exact (this.alloc _).alloc _
  have bF : Boxed W0 (w.heap.size + 1 + 1 + 1) 4 (.bool false) := by
    have := Boxed.new (((w.alloc (.cells #[.slice (some ⟨g, 0, none⟩) 9 9] 140)).alloc (.cells #[.int .i64 t] 3)).alloc (.cells #[.string ⟨#[]⟩] 9)) 4 (.bool false)
    rw [World.size_alloc, World.size_alloc, World.size_alloc] at this
    rw [← hW0]; exact this.alloc _
  have bT : Boxed W0 (w.heap.size + 1 + 1 + 1 + 1) 140 (.slice (some ⟨g, 0, none⟩) 9 9) := by
    have := Boxed.new ((((w.alloc (.cells #[.slice (some ⟨g, 0, none⟩) 9 9] 140)).alloc (.cells #[.int .i64 t] 3)).alloc (.cells #[.string ⟨#[]⟩] 9)).alloc (.cells #[.bool false] 4)) 140 (.slice (some ⟨g, 0, none⟩) 9 9)
    rw [World.size_alloc, World.size_alloc, World.size_alloc, World.size_alloc] at this
    rw [← hW0]; exact this
  have hsz : W0.heap.size = w.heap.size + 5 := by rw [← hW0]; simp
  have hB0 : Below w.heap.size w W0 := by rw [← hW0]; exact (((((Below.refl _ w).alloc (Nat.le_refl _) _).alloc (by simp) _).alloc (by simp; omega) _).alloc (by simp; omega) _).alloc (by simp; omega) _
  have hN0 := hN.below hB0
  have hgw := hN.1
  rw [hW0]
  have HZ := Lib.hid hsz; clear hsz hW0
  refine wpIn_rangeFunc_ownG rfl (by omega) (gf := 137) (lb := #[.pointer (some ⟨w.heap.size + 1 + 1 + 1 + 1, 0, none⟩)]) rfl trivial (enters_of Tryz.func137 (by kernel_rfl) rfl)
    (all_stops _ (by omega) (w.heap.size + 1 + 1 + 1 + 1) g W0 (by rw [HZ.out]; omega) bT.cell hN0) keepT_t (keepT_b (by rw [HZ.out]; omega) hN0.1) (Below.refl _ _) (fun _ => rfl)
    (fun pre W => Boxed W (w.heap.size + 1) 3 (.int .i64 t) ∧ Boxed W (w.heap.size + 1 + 1) 9 (.string ⟨#[]⟩) ∧ Boxed W (w.heap.size + 1 + 1 + 1) 4 (.bool false) ∧ Below w.heap.size w W ∧ ∀ j ∈ pre, typeT j.val ≠ t)
    (fun k pre W => k = .ret ∧ ∃ p x, pre = p ++ [x] ∧ Boxed W (w.heap.size + 1 + 1) 9 (strV (typeS x.val)) ∧ Boxed W (w.heap.size + 1 + 1 + 1) 4 (.bool true) ∧ Below w.heap.size w W ∧ typeT x.val = t ∧ ∀ j ∈ p, typeT j.val ≠ t)
    (OwnFrom.and (Own.from (boxed_own _ _ _) _) (OwnFrom.and (Own.from (boxed_own _ _ _) _) (OwnFrom.and (Own.from (boxed_own _ _ _) _) (OwnFrom.and (ownFrom_below (Nat.le_refl _) (by rw [HZ.out]; omega)) (ownFrom_pure _ _)))))
    ?hix
    ⟨bK, bR, bF, hB0, by simp⟩
    (fun j => { tmps := #[.agg #[.slice (some ⟨g, 0, none⟩) 9 9], .int .i64 t, .pointer (some ⟨w.heap.size, 0, none⟩), .pointer (some ⟨w.heap.size + 1, 0, none⟩), .pointer (some ⟨w.heap.size + 1 + 1, 0, none⟩), .pointer (some ⟨w.heap.size + 1 + 1 + 1, 0, none⟩), .int .i64 (typeT j.val), strV (typeS j.val), undef, .agg #[.slice (some ⟨g, 0, none⟩) 9 9], .func (.func 137) #[] #[.pointer (some ⟨w.heap.size + 1 + 1 + 1 + 1, 0, none⟩)], .int .i64 (typeT j.val), strV (typeS j.val), undef, undef, undef, undef, undef], defers := [] }) ?assign ?body ?done ?stop
  case hix =>
    intro k pre W W' row hs hg hr
    obtain ⟨h1, p, x, e, h2, h3, h4, h5, h6⟩ := hs
    have hO : ∀ {B : Nat} {t : TypeId} {v : Value}, Boxed W B t v → Boxed W' B t v := fun hb => Own.from (boxed_own _ _ (fun _ : Unit => _)) _ () W W' row hb hg hr
    exact ⟨h1, p, x, e, hO h2, hO h3, ownFrom_below (β := Unit) (Nat.le_refl _) (by rw [HZ.out]; omega) () W W' row h4 hg hr, h5, h6⟩
  case assign =>
    intro l x W K hK
    unfold rowV strV
    unfold strV at hK
    gi_wp2
    exact hK
  case body =>
    rintro l pre x W ⟨hK, hR, hF, hB, hC⟩ hlt
    have ck := hK.cell
    have cr := hR.cell; have fr := hR.frozen
    have cf := hF.cell; have ff := hF.frozen
    obtain ⟨sx, hsx, hsz, hsv⟩ := str_of (typeS x.val)
    obtain ⟨tx, htx⟩ : ∃ tx, typeT x.val = tx := ⟨_, rfl⟩
    rw [htx, hsv]
    have hxk : x.val < 9 := x.isLt
    by_cases he : (tx == t) = true
    · have hx : typeT x.val = t := by rw [htx]; simpa using he
      have HX := Lib.hid hx
      have HSV := Lib.hid hsv
      clear hsx hsz hsv htx hx
      gi_wp2
      refine ⟨((KeepsOthers.setCell _ _ _).trans (KeepsOthers.setCell _ _ _)).from _, rfl, pre, x, rfl, ?_, ?_, ?_, HX.out, hC⟩
      · rw [HSV.out]; exact (hR.set _).other (by omega) _
      · exact (hF.other (by omega) _).set _
      · exact (hB.setCell (p := ⟨w.heap.size + 1 + 1, 0, none⟩) (by simp; omega) _).setCell (p := ⟨w.heap.size + 1 + 1 + 1, 0, none⟩) (by simp; omega) _
    · have he0 : (tx == t) = false := by simpa using he
      have hx : typeT x.val ≠ t := by rw [htx]; simpa using he0
      have HX := Lib.hid hx
      clear hsx hsz hsv htx hx he
      gi_wp2
      refine ⟨(KeepsOthers.refl _).from _, KeepT.refl _ _ _, hK, hR, hF, hB, ?_⟩
      intro j hj
      rcases List.mem_append.1 hj with hj | hj
      · exact hC j hj
      · obtain rfl := List.mem_singleton.1 hj; exact HX.out
  case done =>
    rintro D ys W hD rfl ⟨hK, hR, hF, hB, hC⟩ hK2
    have cr := hR.cell; have fr := hR.frozen
    have cf := hF.cell; have ff := hF.frozen
    have hD1 : w.heap.size + 1 + 1 ≠ D := by have := HZ.out; omega
    have hD2 : w.heap.size + 1 + 1 + 1 ≠ D := by have := HZ.out; omega
    have hno : rowOfT t = none := rowOfT_never (fun j hj => hC ⟨j, hj⟩ (List.mem_finRange _))
    have HNO := Lib.hid hno; clear hno hC
    gi_wp2
    refine ⟨by simp, .inl ⟨_, _, rfl, run_takeDeferred (heap_setOther (heap_setOther hK2 hD1.symm _) hD2.symm _), ?_⟩⟩
    refine ⟨_, results_sb rfl Tryz.underlying9 Tryz.underlying4 _ _ rfl rfl (out_cell ((hR.set _).other (by omega) _) hD1 _) (out_cell ((hF.other (by omega) _).set _) hD2 _), ?_, ?_⟩
    · unfold typeNameM knownM; rw [HNO.out]; rfl
    · exact below_putO ((hB.setCell (p := ⟨w.heap.size + 1 + 1, 0, none⟩) (by simp; omega) _).setCell (p := ⟨w.heap.size + 1 + 1 + 1, 0, none⟩) (by simp; omega) _) (by have := HZ.out; omega) (Nat.le_refl _)
  case stop =>
    rintro D c pre W hD hp ⟨rfl, p, x, rfl, hR, hF, hB, hx, hC⟩ hK2
    have hD1 : w.heap.size + 1 + 1 ≠ D := by have := HZ.out; omega
    have hD2 : w.heap.size + 1 + 1 + 1 ≠ D := by have := HZ.out; omega
    have hsome : rowOfT t = some x.val := rowOfT_at hp hx hC
    have HS := Lib.hid hsome; clear hsome hC hx
    gi_wp2
    refine ⟨by simp, .inl ⟨_, _, rfl, run_takeDeferred hK2, ?_⟩⟩
    refine ⟨_, results_sb rfl Tryz.underlying9 Tryz.underlying4 _ _ rfl rfl (out_cell hR hD1 _) (out_cell hF hD2 _), ?_, ?_⟩
    · unfold typeNameM knownM; rw [HS.out]; rfl
    · exact below_putO hB (by have := HZ.out; omega) (Nat.le_refl _)

end
end Go.Proofs.YtkjmghnbcnbdbaaGreatDoor

/-
  The document's ParseType.
-/
namespace Go.Proofs.YtkjmghnbcnbdbaaGreatDoor
set_option maxRecDepth 20000
open Go.RowKit Go.Shelf

theorem take_type (s : List UInt8) : ((foldL s).take 4 = [116, 121, 112, 101]) ↔ ((greatL s).take 4 = [84, 89, 80, 69]) := by
  constructor
  · intro h
    have := congrArg greatL h
    rw [show greatL [116, 121, 112, 101] = [84, 89, 80, 69] by decide] at this
    rw [← this, ← greatL_fold s]; simp [greatL, List.map_take]
  · intro h
    have := congrArg foldL h
    rw [show foldL [84, 89, 80, 69] = [116, 121, 112, 101] by decide] at this
    rw [← this, ← foldL_great s]; simp [foldL, List.map_take]
theorem numM_er (l : List UInt8) (most : Nat) : (numM l most).2 = 0 ∨ (numM l most).2 = 2 ∨ (numM l most).2 = 7 := by
  unfold numM; split
  · split <;> simp
  · simp
/-- Behind the names: a number. -/
def endType (l : List UInt8) : Int × Int := if (numM l 65535).2 = 2 then (0, 6) else if (numM l 65535).2 ≠ 0 ∨ (numM l 65535).1 = 0 then (0, 7) else ((numM l 65535).1, 0)
theorem parseType_none {s : List UInt8} (h : rowOfS (greatL s) = none) : parseTypeM s = if (greatL s).take 4 = [84, 89, 80, 69] then endType (s.drop 4) else (0, 6) := by unfold parseTypeM endType; rw [h]
theorem parseType_some {s : List UInt8} {j : Nat} (h : rowOfS (greatL s) = some j) : parseTypeM s = (typeT j, 0) := by unfold parseTypeM; rw [h]
def ParseTPost (l : List UInt8) (w : World) (e : Ending) (w' : World) : Prop := e = .returned (.tuple #[.int .i64 (parseTypeM l).1, .int .i64 (parseTypeM l).2]) ∧ Below w.heap.size w w'
theorem ptype_fin {l : List UInt8} {w w' : World} {e : Ending} (v er : Int) (h : parseTypeM l = (v, er)) (he : e = .returned (.tuple #[.int .i64 v, .int .i64 er])) (hb : Below w.heap.size w w') : ParseTPost l w e w' := by
  unfold ParseTPost; rw [h]; exact ⟨he, hb⟩
theorem typeName_at (j : Nat) (hj : j < 9) : typeNameM (typeT j) = typeS j := by unfold typeNameM; rw [rowOfT_typeT j hj]

end Go.Proofs.YtkjmghnbcnbdbaaGreatDoor

/-
  Package rtype: Text, Known, Parse.
-/
namespace Go.Proofs.YtkjmghnbcnbdbaaGreatDoor
set_option maxRecDepth 20000
open Go.RowKit Go.Shelf

/-- The library's table of powers of ten lies as its text lays it. -/
def Tab (W : World) : Prop := Lib.TabIs Tryz.prog W "internal/strconv.uint64pow10" .u64 Lib.pow10Tab
theorem Tab.below {W W' : World} (h : Tab W) (hb : Below W.heap.size W W') : Tab W' := (Lib.tabBelow_of_tabIs h) W' hb
theorem itoa_len (n : Int) (h0 : -9223372036854775808 ≤ n) (h1 : n ≤ 9223372036854775807) : (Lib.itoa n).length ≤ 20 := by
  unfold Lib.itoa
  split
  · have := dec_len n.natAbs (by omega); simp only [List.length_cons]; omega
  · have := dec_len n.toNat (by omega); omega
theorem strconv_Itoa (n : Int) (h0 : -9223372036854775808 ≤ n) (h1 : n ≤ 9223372036854775807) (w : World) (hT : Tab w) :
    Calls Tryz.prog 62 #[.int .i64 n] w fun e w' => e = .returned (.string ⟨(Lib.itoa n).toArray⟩) ∧ Below w.heap.size w w' := by
  refine (Tryz.strconv_Itoa n h0 h1 w hT).mono ?_
  rintro e w' ⟨he, k, os, rfl⟩
  exact ⟨he, Lib.below_grow _ w (Nat.le_refl _) k os⟩
theorem typeName_len (t : Int) : (typeNameM t).length ≤ 5 := by
  unfold typeNameM
  cases h : rowOfT t with
  | none => simp
  | some j => exact (typeS_ne j (find_range h).1).2.2

set_option maxHeartbeats 2000000 in
theorem rtype_Known (t : Int) (w : World) :
    Calls Tryz.prog 83 #[.int .i64 t] w fun e w' => e = .returned (.bool (knownM t)) ∧ Below w.heap.size w w' := by
  have hV := fun g W h => table_value g t W h
  generalize (⟨(typeNameM t).toArray⟩ : ByteArray) = s at *
  generalize knownM t = b at *
  go_enter Tryz.func83, Tryz.ntmps83
  go_wp2_with (first | (go_at_call 104; refine (rtype_names _).mono ?_; rintro e w1 ⟨g, rfl, hN, hb1⟩) | (go_at_call 105; refine (hV _ _ hN).mono ?_; rintro e w2 ⟨rfl, hb2⟩))
  go_ret
  exact ⟨rfl, hb1.trans (hb2.mono hb1.size)⟩

end Go.Proofs.YtkjmghnbcnbdbaaGreatDoor

/-
  rdata: digitOf, counted.
-/
namespace Go.Proofs.YtkjmghnbcnbdbaaGreatDoor
open Go.RowKit Go.Shelf

theorem hex_fin {c : UInt8} {w : World} {e : Ending} (v : Int) (b : Bool) (h : (hexU c = none ∧ v = 0 ∧ b = false) ∨ ∃ n : Nat, hexU c = some n ∧ v = n ∧ b = true) (he : e = .returned (.tuple #[.int .i64 v, .bool b])) :
    e = .returned (.tuple #[.int .i64 (hexV c : Int), .bool (hexB c)]) ∧ w = w := by
  subst he
  refine ⟨?_, rfl⟩
  unfold hexV hexB
  rcases h with ⟨h, rfl, rfl⟩ | ⟨n, h, rfl, rfl⟩ <;> rw [h] <;> rfl
set_option maxHeartbeats 2000000 in
theorem rdata_digitOf (c : UInt8) (w : World) :
    Calls Tryz.prog 107 #[.int .u8 (c.toNat : Int)] w fun e w' => e = .returned (.tuple #[.int .i64 (hexV c : Int), .bool (hexB c)]) ∧ w = w' := by
  have hc : (c.toNat : Int) ≤ 255 := by have := c.toNat_lt; omega
  by_cases h1 : (48 : Int) ≤ (c.toNat : Int)
  · by_cases h2 : (c.toNat : Int) ≤ 57
    · go_enter Tryz.func107, Tryz.ntmps107
      go_wp2
      go_ret2
      refine hex_fin _ _ ?_ rfl
      exact .inr ⟨c.toNat - 48, by unfold hexU; rw [if_pos (by omega)], by omega, rfl⟩
    · by_cases h3 : (97 : Int) ≤ (c.toNat : Int)
      · by_cases h4 : (c.toNat : Int) ≤ 102
        · go_enter Tryz.func107, Tryz.ntmps107
          go_wp2
          go_ret2
          refine hex_fin _ _ ?_ rfl
          exact .inr ⟨c.toNat - 97 + 10, by unfold hexU; rw [if_neg (by omega), if_pos (by omega)], by omega, rfl⟩
        · have h5 : (65 : Int) ≤ (c.toNat : Int) := by omega
          have h6 : ¬ (c.toNat : Int) ≤ 70 := by omega
          go_enter Tryz.func107, Tryz.ntmps107
          go_wp2
          go_ret2
          refine hex_fin _ _ ?_ rfl
          exact .inl ⟨by unfold hexU; rw [if_neg (by omega), if_neg (by omega), if_neg (by omega)], by omega, rfl⟩
      · by_cases h5 : (65 : Int) ≤ (c.toNat : Int)
        · by_cases h6 : (c.toNat : Int) ≤ 70
          · go_enter Tryz.func107, Tryz.ntmps107
            go_wp2
            go_ret2
            refine hex_fin _ _ ?_ rfl
            exact .inr ⟨c.toNat - 65 + 10, by unfold hexU; rw [if_neg (by omega), if_neg (by omega), if_pos (by omega)], by omega, rfl⟩
          · go_enter Tryz.func107, Tryz.ntmps107
            go_wp2
            go_ret2
            refine hex_fin _ _ ?_ rfl
            exact .inl ⟨by unfold hexU; rw [if_neg (by omega), if_neg (by omega), if_neg (by omega)], by omega, rfl⟩
        · go_enter Tryz.func107, Tryz.ntmps107
          go_wp2
          go_ret2
          refine hex_fin _ _ ?_ rfl
          exact .inl ⟨by unfold hexU; rw [if_neg (by omega), if_neg (by omega), if_neg (by omega)], by omega, rfl⟩
  · have h3 : ¬ (97 : Int) ≤ (c.toNat : Int) := by omega
    have h5 : ¬ (65 : Int) ≤ (c.toNat : Int) := by omega
    go_enter Tryz.func107, Tryz.ntmps107
    go_wp2
    go_ret2
    refine hex_fin _ _ ?_ rfl
    exact .inl ⟨by unfold hexU; rw [if_neg (by omega), if_neg (by omega), if_neg (by omega)], by omega, rfl⟩

set_option maxHeartbeats 4000000 in
theorem counted_1 (an au ax ar : Option Addr) (n1 n2 n3 n4 c1 c2 c3 c4 : Nat) (w : World) :
    Calls Tryz.prog 25 #[.agg #[.int .i64 1, .slice an n1 c1, .slice au n2 c2, .slice ax n3 c3, .slice ar n4 c4]] w fun e w' => e = .returned (.bool (decide (n1 = 0 ∧ n2 = 0 ∧ n3 = 0 ∧ n4 = 4))) ∧ Below w.heap.size w w' := by
  go_enter Tryz.func25, Tryz.ntmps25
  go_wp2
  all_goals
    go_ret
    refine ⟨ret_bool ?_, (Below.refl _ _).alloc (Nat.le_refl _) _⟩
    show (_ : Bool) = _
    rw [Bool.eq_iff_iff]
    simp only [beq_iff_eq, decide_eq_true_eq, Bool.false_eq_true, false_iff]
    omega
set_option maxHeartbeats 4000000 in
theorem counted_28 (an au ax ar : Option Addr) (n1 n2 n3 n4 c1 c2 c3 c4 : Nat) (w : World) :
    Calls Tryz.prog 25 #[.agg #[.int .i64 28, .slice an n1 c1, .slice au n2 c2, .slice ax n3 c3, .slice ar n4 c4]] w fun e w' => e = .returned (.bool (decide (n1 = 0 ∧ n2 = 0 ∧ n3 = 0 ∧ n4 = 16))) ∧ Below w.heap.size w w' := by
  go_enter Tryz.func25, Tryz.ntmps25
  go_wp2
  all_goals
    go_ret
    refine ⟨ret_bool ?_, (Below.refl _ _).alloc (Nat.le_refl _) _⟩
    show (_ : Bool) = _
    rw [Bool.eq_iff_iff]
    simp only [beq_iff_eq, decide_eq_true_eq, Bool.false_eq_true, false_iff]
    omega
set_option maxHeartbeats 4000000 in
theorem counted_2 (an au ax ar : Option Addr) (n1 n2 n3 n4 c1 c2 c3 c4 : Nat) (w : World) :
    Calls Tryz.prog 25 #[.agg #[.int .i64 2, .slice an n1 c1, .slice au n2 c2, .slice ax n3 c3, .slice ar n4 c4]] w fun e w' => e = .returned (.bool (decide (n1 = 1 ∧ n2 = 0 ∧ n3 = 0 ∧ n4 = 0))) ∧ Below w.heap.size w w' := by
  go_enter Tryz.func25, Tryz.ntmps25
  go_wp2
  all_goals
    go_ret
    refine ⟨ret_bool ?_, (Below.refl _ _).alloc (Nat.le_refl _) _⟩
    show (_ : Bool) = _
    rw [Bool.eq_iff_iff]
    simp only [beq_iff_eq, decide_eq_true_eq, Bool.false_eq_true, false_iff]
    omega
set_option maxHeartbeats 4000000 in
theorem counted_5 (an au ax ar : Option Addr) (n1 n2 n3 n4 c1 c2 c3 c4 : Nat) (w : World) :
    Calls Tryz.prog 25 #[.agg #[.int .i64 5, .slice an n1 c1, .slice au n2 c2, .slice ax n3 c3, .slice ar n4 c4]] w fun e w' => e = .returned (.bool (decide (n1 = 1 ∧ n2 = 0 ∧ n3 = 0 ∧ n4 = 0))) ∧ Below w.heap.size w w' := by
  go_enter Tryz.func25, Tryz.ntmps25
  go_wp2
  all_goals
    go_ret
    refine ⟨ret_bool ?_, (Below.refl _ _).alloc (Nat.le_refl _) _⟩
    show (_ : Bool) = _
    rw [Bool.eq_iff_iff]
    simp only [beq_iff_eq, decide_eq_true_eq, Bool.false_eq_true, false_iff]
    omega
set_option maxHeartbeats 4000000 in
theorem counted_12 (an au ax ar : Option Addr) (n1 n2 n3 n4 c1 c2 c3 c4 : Nat) (w : World) :
    Calls Tryz.prog 25 #[.agg #[.int .i64 12, .slice an n1 c1, .slice au n2 c2, .slice ax n3 c3, .slice ar n4 c4]] w fun e w' => e = .returned (.bool (decide (n1 = 1 ∧ n2 = 0 ∧ n3 = 0 ∧ n4 = 0))) ∧ Below w.heap.size w w' := by
  go_enter Tryz.func25, Tryz.ntmps25
  go_wp2
  all_goals
    go_ret
    refine ⟨ret_bool ?_, (Below.refl _ _).alloc (Nat.le_refl _) _⟩
    show (_ : Bool) = _
    rw [Bool.eq_iff_iff]
    simp only [beq_iff_eq, decide_eq_true_eq, Bool.false_eq_true, false_iff]
    omega
set_option maxHeartbeats 4000000 in
theorem counted_39 (an au ax ar : Option Addr) (n1 n2 n3 n4 c1 c2 c3 c4 : Nat) (w : World) :
    Calls Tryz.prog 25 #[.agg #[.int .i64 39, .slice an n1 c1, .slice au n2 c2, .slice ax n3 c3, .slice ar n4 c4]] w fun e w' => e = .returned (.bool (decide (n1 = 1 ∧ n2 = 0 ∧ n3 = 0 ∧ n4 = 0))) ∧ Below w.heap.size w w' := by
  go_enter Tryz.func25, Tryz.ntmps25
  go_wp2
  all_goals
    go_ret
    refine ⟨ret_bool ?_, (Below.refl _ _).alloc (Nat.le_refl _) _⟩
    show (_ : Bool) = _
    rw [Bool.eq_iff_iff]
    simp only [beq_iff_eq, decide_eq_true_eq, Bool.false_eq_true, false_iff]
    omega
set_option maxHeartbeats 4000000 in
theorem counted_15 (an au ax ar : Option Addr) (n1 n2 n3 n4 c1 c2 c3 c4 : Nat) (w : World) :
    Calls Tryz.prog 25 #[.agg #[.int .i64 15, .slice an n1 c1, .slice au n2 c2, .slice ax n3 c3, .slice ar n4 c4]] w fun e w' => e = .returned (.bool (decide (n1 = 1 ∧ n2 = 1 ∧ n3 = 0 ∧ n4 = 0))) ∧ Below w.heap.size w w' := by
  go_enter Tryz.func25, Tryz.ntmps25
  go_wp2
  all_goals
    go_ret
    refine ⟨ret_bool ?_, (Below.refl _ _).alloc (Nat.le_refl _) _⟩
    show (_ : Bool) = _
    rw [Bool.eq_iff_iff]
    simp only [beq_iff_eq, decide_eq_true_eq, Bool.false_eq_true, false_iff]
    omega
set_option maxHeartbeats 4000000 in
theorem counted_6 (an au ax ar : Option Addr) (n1 n2 n3 n4 c1 c2 c3 c4 : Nat) (w : World) :
    Calls Tryz.prog 25 #[.agg #[.int .i64 6, .slice an n1 c1, .slice au n2 c2, .slice ax n3 c3, .slice ar n4 c4]] w fun e w' => e = .returned (.bool (decide (n1 = 2 ∧ n2 = 5 ∧ n3 = 0 ∧ n4 = 0))) ∧ Below w.heap.size w w' := by
  go_enter Tryz.func25, Tryz.ntmps25
  go_wp2
  all_goals
    go_ret
    refine ⟨ret_bool ?_, (Below.refl _ _).alloc (Nat.le_refl _) _⟩
    show (_ : Bool) = _
    rw [Bool.eq_iff_iff]
    simp only [beq_iff_eq, decide_eq_true_eq, Bool.false_eq_true, false_iff]
    omega
set_option maxHeartbeats 4000000 in
theorem counted_16 (an au ax ar : Option Addr) (n1 n2 n3 n4 c1 c2 c3 c4 : Nat) (w : World) :
    Calls Tryz.prog 25 #[.agg #[.int .i64 16, .slice an n1 c1, .slice au n2 c2, .slice ax n3 c3, .slice ar n4 c4]] w fun e w' => e = .returned (.bool (decide (n1 = 0 ∧ n2 = 0 ∧ (1 ≤ n3 ∧ n3 ≤ 32) ∧ n4 = 0))) ∧ Below w.heap.size w w' := by
  obtain ⟨m, hm⟩ : ∃ m, min (max (n3 : Int) 1) 32 = m := ⟨_, rfl⟩
  have HM := Lib.hid (show ((n3 : Int) = m ↔ 1 ≤ n3 ∧ n3 ≤ 32) by rw [← hm]; omega)
  go_enter Tryz.func25, Tryz.ntmps25
  go_wp2
  all_goals
    go_ret
    have hM := HM.out
    clear hm HM
    refine ⟨ret_bool ?_, (Below.refl _ _).alloc (Nat.le_refl _) _⟩
    show (_ : Bool) = _
    rw [Bool.eq_iff_iff]
    simp only [beq_iff_eq, decide_eq_true_eq, Bool.false_eq_true, false_iff]
    omega
set_option maxHeartbeats 4000000 in
theorem counted_other (t : Int) (e0 : (t == 1) = false) (e1 : (t == 28) = false) (e2 : (t == 2) = false) (e3 : (t == 5) = false) (e4 : (t == 12) = false) (e5 : (t == 39) = false) (e6 : (t == 15) = false) (e7 : (t == 6) = false) (e8 : (t == 16) = false) (an au ax ar : Option Addr) (n1 n2 n3 n4 c1 c2 c3 c4 : Nat) (w : World) :
    Calls Tryz.prog 25 #[.agg #[.int .i64 t, .slice an n1 c1, .slice au n2 c2, .slice ax n3 c3, .slice ar n4 c4]] w fun e w' => e = .returned (.bool (decide (n1 = 0 ∧ n2 = 0 ∧ n3 = 0))) ∧ Below w.heap.size w w' := by
  go_enter Tryz.func25, Tryz.ntmps25
  go_wp2
  all_goals
    go_ret
    refine ⟨ret_bool ?_, (Below.refl _ _).alloc (Nat.le_refl _) _⟩
    show (_ : Bool) = _
    clear e0 e1 e2 e3 e4 e5 e6 e7 e8
    first | (symm; apply decide_eq_true; omega) | (symm; apply decide_eq_false; omega) | (rw [Bool.eq_iff_iff]; simp only [beq_iff_eq, decide_eq_true_eq]; omega)

end Go.Proofs.YtkjmghnbcnbdbaaGreatDoor

/-
  rdata.counted, whatever the type.
-/
namespace Go.Proofs.YtkjmghnbcnbdbaaGreatDoor
open Go.RowKit Go.Shelf

theorem countedM_lit (d : Dat) (a b r : Nat) (h : countsM d.ty = ((a : Int), (b : Int), (r : Int))) (h16 : d.ty ≠ 16) : countedM d = decide (d.names.length = a ∧ d.nums.length = b ∧ d.texts.length = 0 ∧ d.raw.length = r) := by
  unfold countedM
  rw [h]
  apply decide_eq_decide.2
  rw [if_neg h16]
  show (d.names.length : Int) = (a : Int) ∧ (d.nums.length : Int) = (b : Int) ∧ _ ∧ ((0 : Int) ≤ (r : Int) → (d.raw.length : Int) = (r : Int)) ↔ _
  constructor
  · rintro ⟨h1, h2, h3, h4⟩
    have := h4 (by omega)
    exact ⟨by omega, by omega, h3, by omega⟩
  · rintro ⟨h1, h2, h3, h4⟩
    exact ⟨by omega, by omega, h3, fun _ => by omega⟩
theorem rdata_counted (v : Value) (d : Dat) (w : World) (hA : DatAt w v d) :
    Calls Tryz.prog 25 #[v] w fun e w' => e = .returned (.bool (countedM d)) ∧ Below w.heap.size w w' := by
  obtain ⟨vn, vu, vt, vr, rfl, ⟨vs, ⟨an, cn, rfl, _⟩, hl, _⟩, ⟨au, cu, rfl, _⟩, ⟨⟨ax, cx, rfl, _⟩, _⟩, ⟨ar, cr, rfl, _⟩⟩ := hA
  rw [hl, List.length_map, List.length_map]
  have key : ∀ (t : Int) (p : Bool), d.ty = t → countedM d = p → (Calls Tryz.prog 25 #[.agg #[.int .i64 t, .slice an d.names.length cn, .slice au d.nums.length cu, .slice ax d.texts.length cx, .slice ar d.raw.length cr]] w fun e w' => e = .returned (.bool p) ∧ Below w.heap.size w w') →
      Calls Tryz.prog 25 #[.agg #[.int .i64 d.ty, .slice an d.names.length cn, .slice au d.nums.length cu, .slice ax d.texts.length cx, .slice ar d.raw.length cr]] w fun e w' => e = .returned (.bool (countedM d)) ∧ Below w.heap.size w w' := by
    rintro t p h1 h2 h; rw [h1, h2]; exact h
  by_cases h1 : d.ty = 1
  · refine key 1 _ h1 ?_ (counted_1 an au ax ar _ _ _ _ cn cu cx cr w)
    exact countedM_lit d 0 0 4 (by rw [h1]; rfl) (by omega)
  by_cases h28 : d.ty = 28
  · refine key 28 _ h28 ?_ (counted_28 an au ax ar _ _ _ _ cn cu cx cr w)
    exact countedM_lit d 0 0 16 (by rw [h28]; rfl) (by omega)
  by_cases h2 : d.ty = 2
  · refine key 2 _ h2 ?_ (counted_2 an au ax ar _ _ _ _ cn cu cx cr w)
    exact countedM_lit d 1 0 0 (by rw [h2]; rfl) (by omega)
  by_cases h5 : d.ty = 5
  · refine key 5 _ h5 ?_ (counted_5 an au ax ar _ _ _ _ cn cu cx cr w)
    exact countedM_lit d 1 0 0 (by rw [h5]; rfl) (by omega)
  by_cases h12 : d.ty = 12
  · refine key 12 _ h12 ?_ (counted_12 an au ax ar _ _ _ _ cn cu cx cr w)
    exact countedM_lit d 1 0 0 (by rw [h12]; rfl) (by omega)
  by_cases h39 : d.ty = 39
  · refine key 39 _ h39 ?_ (counted_39 an au ax ar _ _ _ _ cn cu cx cr w)
    exact countedM_lit d 1 0 0 (by rw [h39]; rfl) (by omega)
  by_cases h15 : d.ty = 15
  · refine key 15 _ h15 ?_ (counted_15 an au ax ar _ _ _ _ cn cu cx cr w)
    exact countedM_lit d 1 1 0 (by rw [h15]; rfl) (by omega)
  by_cases h6 : d.ty = 6
  · refine key 6 _ h6 ?_ (counted_6 an au ax ar _ _ _ _ cn cu cx cr w)
    exact countedM_lit d 2 5 0 (by rw [h6]; rfl) (by omega)
  by_cases h16 : d.ty = 16
  · refine key 16 _ h16 ?_ (counted_16 an au ax ar _ _ _ _ cn cu cx cr w)
    unfold countedM
    rw [show countsM d.ty = (0, 0, 0) by rw [h16]; rfl]
    apply decide_eq_decide.2
    rw [if_pos h16]
    show (d.names.length : Int) = 0 ∧ (d.nums.length : Int) = 0 ∧ _ ∧ ((0 : Int) ≤ 0 → (d.raw.length : Int) = 0) ↔ _
    constructor
    · rintro ⟨h1, h2, h3, h4⟩
      have := h4 (by omega)
      exact ⟨by omega, by omega, h3, by omega⟩
    · rintro ⟨h1, h2, h3, h4⟩
      exact ⟨by omega, by omega, h3, fun _ => by omega⟩
  refine key d.ty _ rfl ?_ (counted_other d.ty (by simpa using h1) (by simpa using h28) (by simpa using h2) (by simpa using h5) (by simpa using h12) (by simpa using h39) (by simpa using h15) (by simpa using h6) (by simpa using h16) an au ax ar _ _ _ _ cn cu cx cr w)
  have hc : countsM d.ty = (0, 0, -1) := by
    unfold countsM
    rw [if_neg h1, if_neg h28, if_neg (by omega), if_neg h15, if_neg h6, if_neg h16]
  unfold countedM
  rw [hc]
  apply decide_eq_decide.2
  rw [if_neg h16]
  show (d.names.length : Int) = 0 ∧ (d.nums.length : Int) = 0 ∧ _ ∧ ((0 : Int) ≤ -1 → (d.raw.length : Int) = -1) ↔ _
  constructor
  · rintro ⟨h1, h2, h3, h4⟩
    exact ⟨by omega, by omega, h3⟩
  · rintro ⟨h1, h2, h3⟩
    exact ⟨by omega, by omega, h3, fun h => by omega⟩
end Go.Proofs.YtkjmghnbcnbdbaaGreatDoor

