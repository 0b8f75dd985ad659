/-
  The document's table, reckoned by the kernel from its primes: it is the program's own constants. No condition.
-/
import Derived.Test.YtkblpcegdfhmoaaDoorDRefNum
namespace Go.Proofs.YtkblpcegdfhmoaaDoor
open Go.RowKit

set_option maxRecDepth 1000000 in
theorem squares : [2, 3, 5, 7, 11, 13, 17, 19].map (fun p => rootN p 2) = [1779033703, 3144134277, 1013904242, 2773480762, 1359893119, 2600822924, 528734635, 1541459225] := by decide +kernel
set_option maxRecDepth 1000000 in
theorem cubes0 : [2, 3, 5, 7, 11, 13, 17, 19].map (fun p => rootN p 3) = [1116352408, 1899447441, 3049323471, 3921009573, 961987163, 1508970993, 2453635748, 2870763221] := by decide +kernel
set_option maxRecDepth 1000000 in
theorem cubes1 : [23, 29, 31, 37, 41, 43, 47, 53].map (fun p => rootN p 3) = [3624381080, 310598401, 607225278, 1426881987, 1925078388, 2162078206, 2614888103, 3248222580] := by decide +kernel
set_option maxRecDepth 1000000 in
theorem cubes2 : [59, 61, 67, 71, 73, 79, 83, 89].map (fun p => rootN p 3) = [3835390401, 4022224774, 264347078, 604807628, 770255983, 1249150122, 1555081692, 1996064986] := by decide +kernel
set_option maxRecDepth 1000000 in
theorem cubes3 : [97, 101, 103, 107, 109, 113, 127, 131].map (fun p => rootN p 3) = [2554220882, 2821834349, 2952996808, 3210313671, 3336571891, 3584528711, 113926993, 338241895] := by decide +kernel
set_option maxRecDepth 1000000 in
theorem cubes4 : [137, 139, 149, 151, 157, 163, 167, 173].map (fun p => rootN p 3) = [666307205, 773529912, 1294757372, 1396182291, 1695183700, 1986661051, 2177026350, 2456956037] := by decide +kernel
set_option maxRecDepth 1000000 in
theorem cubes5 : [179, 181, 191, 193, 197, 199, 211, 223].map (fun p => rootN p 3) = [2730485921, 2820302411, 3259730800, 3345764771, 3516065817, 3600352804, 4094571909, 275423344] := by decide +kernel
set_option maxRecDepth 1000000 in
theorem cubes6 : [227, 229, 233, 239, 241, 251, 257, 263].map (fun p => rootN p 3) = [430227734, 506948616, 659060556, 883997877, 958139571, 1322822218, 1537002063, 1747873779] := by decide +kernel
set_option maxRecDepth 1000000 in
theorem cubes7 : [269, 271, 277, 281, 283, 293, 307, 311].map (fun p => rootN p 3) = [1955562222, 2024104815, 2227730452, 2361852424, 2428436474, 2756734187, 3204031479, 3329325298] := by decide +kernel
def primesL : List Nat := [2, 3, 5, 7, 11, 13, 17, 19, 23, 29, 31, 37, 41, 43, 47, 53, 59, 61, 67, 71, 73, 79, 83, 89, 97, 101, 103, 107, 109, 113, 127, 131, 137, 139, 149, 151, 157, 163, 167, 173, 179, 181, 191, 193, 197, 199, 211, 223, 227, 229, 233, 239, 241, 251, 257, 263, 269, 271, 277, 281, 283, 293, 307, 311]
theorem primes_parts : primesL = [2, 3, 5, 7, 11, 13, 17, 19] ++ [23, 29, 31, 37, 41, 43, 47, 53] ++ [59, 61, 67, 71, 73, 79, 83, 89] ++ [97, 101, 103, 107, 109, 113, 127, 131] ++ [137, 139, 149, 151, 157, 163, 167, 173] ++ [179, 181, 191, 193, 197, 199, 211, 223] ++ [227, 229, 233, 239, 241, 251, 257, 263] ++ [269, 271, 277, 281, 283, 293, 307, 311] := rfl
theorem cubes_all : primesL.map (fun p => rootN p 3) = [1116352408, 1899447441, 3049323471, 3921009573, 961987163, 1508970993, 2453635748, 2870763221] ++ [3624381080, 310598401, 607225278, 1426881987, 1925078388, 2162078206, 2614888103, 3248222580] ++ [3835390401, 4022224774, 264347078, 604807628, 770255983, 1249150122, 1555081692, 1996064986] ++ [2554220882, 2821834349, 2952996808, 3210313671, 3336571891, 3584528711, 113926993, 338241895] ++ [666307205, 773529912, 1294757372, 1396182291, 1695183700, 1986661051, 2177026350, 2456956037] ++ [2730485921, 2820302411, 3259730800, 3345764771, 3516065817, 3600352804, 4094571909, 275423344] ++ [430227734, 506948616, 659060556, 883997877, 958139571, 1322822218, 1537002063, 1747873779] ++ [1955562222, 2024104815, 2227730452, 2361852424, 2428436474, 2756734187, 3204031479, 3329325298] := by
  rw [primes_parts]
  simp only [List.map_append, cubes0, cubes1, cubes2, cubes3, cubes4, cubes5, cubes6, cubes7]
theorem squares_all : (primesL.take 8).map (fun p => rootN p 2) = [1779033703, 3144134277, 1013904242, 2773480762, 1359893119, 2600822924, 528734635, 1541459225] := squares
theorem table_now : tabN (primesN 310) = (start8.list ++ Ks).map BitVec.toNat := by
  have e : primesN 310 = primesL := primes_now
  unfold tabN
  rw [e, cubes_all, squares_all]
  decide +kernel
theorem table_is : Vn (tabN (primesN 310)) = Wi start8.list ++ Wi Ks := by
  rw [table_now]
  simp only [Vn, Wi, nw, List.map_map, List.map_append]
  rfl

end Go.Proofs.YtkblpcegdfhmoaaDoor
