/-
  The digests of no bytes and of abc, reckoned by the kernel. No condition.
-/
import Derived.Test.YtkblpcegdfhmoaaDoorDSum
namespace Go.Proofs.YtkblpcegdfhmoaaDoor
open Go.RowKit

/-- The steps' constants. -/
def rootsZ : List Int := [1116352408, 1899447441, 3049323471, 3921009573, 961987163, 1508970993, 2453635748, 2870763221, 3624381080, 310598401, 607225278, 1426881987, 1925078388, 2162078206, 2614888103, 3248222580, 3835390401, 4022224774, 264347078, 604807628, 770255983, 1249150122, 1555081692, 1996064986, 2554220882, 2821834349, 2952996808, 3210313671, 3336571891, 3584528711, 113926993, 338241895, 666307205, 773529912, 1294757372, 1396182291, 1695183700, 1986661051, 2177026350, 2456956037, 2730485921, 2820302411, 3259730800, 3345764771, 3516065817, 3600352804, 4094571909, 275423344, 430227734, 506948616, 659060556, 883997877, 958139571, 1322822218, 1537002063, 1747873779, 1955562222, 2024104815, 2227730452, 2361852424, 2428436474, 2756734187, 3204031479, 3329325298]
def Ks : List B32 := rootsZ.map fun z => BitVec.ofInt 32 z

/-- The sign of four bits. -/
def signs : List B8 := [48, 49, 50, 51, 52, 53, 54, 55, 56, 57, 97, 98, 99, 100, 101, 102]
def sign (i : Nat) : B8 := signs.getD i 0
/-- The signs of the first k bytes. -/
def hexS (d : List B8) : Nat → List B8
  | 0 => []
  | k + 1 => hexS d k ++ [sign ((d.getD k 0).toNat / 16), sign ((d.getD k 0).toNat % 16)]
theorem hexS_length (d : List B8) : ∀ k, (hexS d k).length = 2 * k
  | 0 => rfl
  | k + 1 => by simp [hexS, hexS_length d k]; omega

def textA : List B8 := [101, 51, 98, 48, 99, 52, 52, 50, 57, 56, 102, 99, 49, 99, 49, 52, 57, 97, 102, 98, 102, 52, 99, 56, 57, 57, 54, 102, 98, 57, 50, 52, 50, 55, 97, 101, 52, 49, 101, 52, 54, 52, 57, 98, 57, 51, 52, 99, 97, 52, 57, 53, 57, 57, 49, 98, 55, 56, 53, 50, 98, 56, 53, 53]
def textB : List B8 := [98, 97, 55, 56, 49, 54, 98, 102, 56, 102, 48, 49, 99, 102, 101, 97, 52, 49, 52, 49, 52, 48, 100, 101, 53, 100, 97, 101, 50, 50, 50, 51, 98, 48, 48, 51, 54, 49, 97, 51, 57, 54, 49, 55, 55, 97, 57, 99, 98, 52, 49, 48, 102, 102, 54, 49, 102, 50, 48, 48, 49, 53, 97, 100]

set_option maxRecDepth 1000000 in
theorem known_none : hexS (sha Ks []) 32 = textA := by decide +kernel
set_option maxRecDepth 1000000 in
theorem known_abc : hexS (sha Ks [97, 98, 99]) 32 = textB := by decide +kernel

end Go.Proofs.YtkblpcegdfhmoaaDoor
