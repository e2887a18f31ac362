/- BlockNames: the examples as numbers. -/
import Derived.Test.YtjnldmbjeiejdaaG39
import Derived.Test.YtjnldmbjeiejdaaG45
namespace Go.Proofs.Ytjnldmbjeiejdaa
open Go.RowKit

def exK : List KV := [([97, 98], [49]), ([97, 98, 99], [])]
def exB : List Int := [2, 0, 2, 1, 97, 98, 49, 2, 1, 0, 99, 1, 0]
theorem exB_len : exB.length = 13 := rfl
theorem ex_blk : blk exK = exB := by decide +kernel
theorem ex_cut : bRes (exB.take 12) = ([], 62, 12) := by decide +kernel
theorem ex_more : bRes (exB ++ [0]) = ([], 63, 13) := by decide +kernel
theorem ex_zero : bRes [0] = ([], 61, 0) := by decide +kernel
theorem ex_whole : bRes exB = (exK, 0, 0) := by decide +kernel

end Go.Proofs.Ytjnldmbjeiejdaa
