/-
  The known examples of stage 7, on the plain function.
-/
import Derived.Test.YtlgbdbaacjahpaaTokO
namespace Go.Proofs.Ytlgbdbaacjahpaa
set_option maxRecDepth 20000

deriving instance DecidableEq for Ent
def kn7a : List UInt8 := [59, 32, 97, 108, 108, 10, 32, 97, 32, 40, 32, 34, 98, 59, 99, 34, 10, 32, 100, 32, 41, 32, 101, 32, 59, 32, 120, 10, 102, 92, 59, 103, 10]
def kn7b : List UInt8 := [97, 10, 34, 98, 10]
def kn7c : List UInt8 := [97, 32, 40, 10, 40, 10]
theorem kn7a_is : entK kn7a = ([⟨2, true, [([97], false), ([98, 59, 99], true), ([100], false), ([101], false)]⟩, ⟨4, false, [([102, 92, 59, 103], false)]⟩], 0, 0) := by decide +kernel
theorem kn7b_is : entK kn7b = ([], 2, 2) := by decide +kernel
theorem kn7c_is : entK kn7c = ([], 1, 2) := by decide +kernel
theorem kn7a_bytes : "; all\n a ( \"b;c\"\n d ) e ; x\nf\\;g\n".toUTF8.data.toList = kn7a := by decide +kernel
end Go.Proofs.Ytlgbdbaacjahpaa
