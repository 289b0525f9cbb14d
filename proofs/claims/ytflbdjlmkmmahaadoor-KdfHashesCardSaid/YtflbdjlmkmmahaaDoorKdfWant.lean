/- The hash of the chapter's example, as the kernel runs it. -/
import Derived.Test.YtflbdjlmkmmahaaDoorMacWant
import Derived.Test.YtflbdjlmkmmahaaDoorKdfPlain
namespace Go.Proofs.YtflbdjlmkmmahaaDoor
set_option linter.unusedVariables false

def passL : List UInt8 := [112, 97, 115, 115, 119, 111, 114, 100]
def saltL : List UInt8 := [115, 97, 108, 116]
def kdfIn : List UInt8 := [70, 87, 69, 69, 65, 89, 68, 82, 54, 54, 54, 54, 54, 54, 54, 54, 54, 54, 54, 54, 54, 54, 54, 54, 54, 54, 54, 54, 54, 54, 54, 54, 54, 54, 54, 54, 54, 54, 54, 54, 54, 54, 54, 54, 54, 54, 54, 54, 54, 54, 54, 54, 54, 54, 54, 54, 54, 54, 54, 54, 54, 54, 54, 54, 115, 97, 108, 116, 0, 0, 0, 1]
def kdfD : List UInt8 := [51, 214, 179, 118, 242, 59, 56, 217, 19, 145, 228, 255, 140, 103, 109, 171, 210, 166, 48, 209, 172, 159, 99, 231, 176, 159, 53, 162, 150, 244, 70, 110]
def kdfOut : List UInt8 := [44, 61, 47, 47, 43, 51, 46, 56, 92, 92, 92, 92, 92, 92, 92, 92, 92, 92, 92, 92, 92, 92, 92, 92, 92, 92, 92, 92, 92, 92, 92, 92, 92, 92, 92, 92, 92, 92, 92, 92, 92, 92, 92, 92, 92, 92, 92, 92, 92, 92, 92, 92, 92, 92, 92, 92, 92, 92, 92, 92, 92, 92, 92, 92, 51, 214, 179, 118, 242, 59, 56, 217, 19, 145, 228, 255, 140, 103, 109, 171, 210, 166, 48, 209, 172, 159, 99, 231, 176, 159, 53, 162, 150, 244, 70, 110]
theorem kdf_in : flipL (keyL passL) 0x36 ++ (saltL ++ [0, 0, 0, 1]) = kdfIn := by decide +kernel
theorem kdf_out : flipL (keyL passL) 0x5c ++ kdfD = kdfOut := by decide +kernel
theorem kdf_inB : chainB 2 firstL (kdfIn ++ padL kdfIn.length) (fun l => l) = [869708662, 4063967449, 328328447, 2355588523, 3534106833, 2896126951, 2963223970, 2532591214] := by decide +kernel
theorem kdf_outB : chainB 2 firstL (kdfOut ++ padL kdfOut.length) (fun l => l) = [303019727, 4244157228, 1139221074, 1455749175, 2825210057, 751580488, 134584444, 3071009147] := by decide +kernel
theorem kdf_sum : sumL kdfIn = kdfD := (sum_by _ 2 _ (by decide +kernel) kdf_inB).trans (by decide +kernel)
theorem kdf_code : codeL passL (saltL ++ [0, 0, 0, 1]) = [18, 15, 182, 207, 252, 248, 179, 44, 67, 231, 34, 82, 86, 196, 248, 55, 168, 101, 72, 201, 44, 204, 53, 72, 8, 5, 152, 124, 183, 11, 225, 123] := by
  unfold codeL codeKL
  rw [kdf_in, kdf_sum, kdf_out]
  exact (sum_by _ 2 _ (by decide +kernel) kdf_outB).trans (by decide +kernel)
theorem kdf_hash : hashL passL saltL 1 = [18, 15, 182, 207, 252, 248, 179, 44, 67, 231, 34, 82, 86, 196, 248, 55, 168, 101, 72, 201, 44, 204, 53, 72, 8, 5, 152, 124, 183, 11, 225, 123] := by
  rw [hashL, hashL, uL, uL, kdf_code]
  decide +kernel
end Go.Proofs.YtflbdjlmkmmahaaDoor
