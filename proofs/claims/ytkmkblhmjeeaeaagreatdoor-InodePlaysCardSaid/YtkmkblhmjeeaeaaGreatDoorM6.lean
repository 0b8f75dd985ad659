/-
  The library's contracts at this program's numbers. Conditions: those of each contract.
-/
import Derived.Shelf.Sort.Plain
import Derived.Shelf.Slices.In.SortNone
import Derived.Shelf.Bytes.SlSearch0
import Derived.Ground.SlbCloneProg
import Derived.Shelf.Bytes.SlClone
import Derived.Ground.SlbNamesProg
import Derived.Shelf.Bytes.SlJoin
import Derived.Shelf.Bytes.SlEqualAll
import Derived.Shelf.Bytes.Small
import Derived.Test.YtkmkblhmjeeaeaaGreatDoorProg
import Derived.Test.YtkmkblhmjeeaeaaGreatDoorM3
import Derived.WalkMore
import Derived.Sort.OwnSortedInts
import Derived.Deep.QuietTactic
import Derived.BigQuiet
section
namespace Go.Proofs
open Go.Shelf
def Tryz.lays189_ren : Go.Shelf.Ren := ⟨fun | 189 => 75 | 125 => 107 | 257 => 106 | 128 => 134 | 129 => 135 | 294 => 125 | 295 => 126 | 296 => 127 | 297 => 128 | 298 => 129 | 299 => 130 | 216 => 131 | 300 => 132 | 301 => 133 | 328 => 151 | 329 => 152 | 330 => 153 | 331 => 154 | 332 => 155 | 215 => 156 | 343 => 165 | n => n, fun | 28 => 60 | 3 => 3 | 46 => 181 | 0 => 0 | 51 => 121 | 53 => 152 | 4 => 4 | 183 => 204 | 182 => 203 | 131 => 91 | 5 => 5 | 9 => 9 | 218 => 227 | 222 => 231 | 228 => 241 | 229 => 242 | n => n, fun | n => n⟩
theorem Tryz.lays189 : Go.Proofs.Lays.n189 Tryz.prog Tryz.lays189_ren := {
  mixed := by kernel_rfl
  f125 := Tryz.func107.trans (congrArg some (by kernel_rfl))
  f128 := Tryz.func134.trans (congrArg some (by kernel_rfl))
  f129 := Tryz.func135.trans (congrArg some (by kernel_rfl))
  f189 := Tryz.func75.trans (congrArg some (by kernel_rfl))
  f215 := Tryz.func156.trans (congrArg some (by kernel_rfl))
  f216 := Tryz.func131.trans (congrArg some (by kernel_rfl))
  f257 := Tryz.func106.trans (congrArg some (by kernel_rfl))
  f294 := Tryz.func125.trans (congrArg some (by kernel_rfl))
  f295 := Tryz.func126.trans (congrArg some (by kernel_rfl))
  f296 := Tryz.func127.trans (congrArg some (by kernel_rfl))
  f297 := Tryz.func128.trans (congrArg some (by kernel_rfl))
  f298 := Tryz.func129.trans (congrArg some (by kernel_rfl))
  f299 := Tryz.func130.trans (congrArg some (by kernel_rfl))
  f300 := Tryz.func132.trans (congrArg some (by kernel_rfl))
  f301 := Tryz.func133.trans (congrArg some (by kernel_rfl))
  f328 := Tryz.func151.trans (congrArg some (by kernel_rfl))
  f329 := Tryz.func152.trans (congrArg some (by kernel_rfl))
  f330 := Tryz.func153.trans (congrArg some (by kernel_rfl))
  f331 := Tryz.func154.trans (congrArg some (by kernel_rfl))
  f332 := Tryz.func155.trans (congrArg some (by kernel_rfl))
  f343 := Tryz.func165.trans (congrArg some (by kernel_rfl))
  t0 := Tryz.underlying0
  a0 := Tryz.isAgg0
  z0 := Tryz.sizeOf0
  v0 := Tryz.zeroValue0
  t3 := Tryz.underlying3
  a3 := Tryz.isAgg3
  z3 := Tryz.sizeOf3
  v3 := Tryz.zeroValue3
  t4 := Tryz.underlying4
  a4 := Tryz.isAgg4
  z4 := Tryz.sizeOf4
  v4 := Tryz.zeroValue4
  t5 := Tryz.underlying5
  a5 := Tryz.isAgg5
  z5 := Tryz.sizeOf5
  v5 := Tryz.zeroValue5
  t9 := Tryz.underlying9
  a9 := Tryz.isAgg9
  z9 := Tryz.sizeOf9
  v9 := Tryz.zeroValue9
  t28 := Tryz.underlying60
  a28 := Tryz.isAgg60
  z28 := Tryz.sizeOf60
  v28 := Tryz.zeroValue60
  t46 := Tryz.underlying181
  a46 := Tryz.isAgg181
  z46 := Tryz.sizeOf181
  v46 := Tryz.zeroValue181
  t51 := Tryz.underlying121
  a51 := Tryz.isAgg121
  z51 := Tryz.sizeOf121
  v51 := Tryz.zeroValue121
  t53 := Tryz.underlying152
  a53 := Tryz.isAgg152
  z53 := Tryz.sizeOf152
  v53 := Tryz.zeroValue152
  t131 := Tryz.underlying91
  a131 := Tryz.isAgg91
  z131 := Tryz.sizeOf91
  v131 := Tryz.zeroValue91
  t182 := Tryz.underlying203
  a182 := Tryz.isAgg203
  z182 := Tryz.sizeOf203
  v182 := Tryz.zeroValue203
  t183 := Tryz.underlying204
  a183 := Tryz.isAgg204
  z183 := Tryz.sizeOf204
  v183 := Tryz.zeroValue204
  t218 := Tryz.underlying227
  a218 := Tryz.isAgg227
  z218 := Tryz.sizeOf227
  v218 := Tryz.zeroValue227
  t222 := Tryz.underlying231
  a222 := Tryz.isAgg231
  z222 := Tryz.sizeOf231
  v222 := Tryz.zeroValue231
  t228 := Tryz.underlying241
  a228 := Tryz.isAgg241
  z228 := Tryz.sizeOf241
  v228 := Tryz.zeroValue241
  t229 := Tryz.underlying242
  a229 := Tryz.isAgg242
  z229 := Tryz.sizeOf242
  v229 := Tryz.zeroValue242 }
open Go.Sort Go.RowKit in
theorem Tryz.slices_Sort_int (blk off cap : Nat) (zs : List Int) (w : World) (hH : Holds (Value.int .i64) w blk off zs.toArray) (hblk : blk < w.heap.size) (hsz : zs.length < 4611686018427387904) :
    Calls Tryz.prog 75 #[.slice (some ⟨blk, off, none⟩) zs.length cap] w fun e w' =>
      e = .returned (.tuple #[]) ∧ ∃ n os, w' = grow (putRow (Value.int .i64) (Sort.ahead w n) blk off (zs.mergeSort fun x y => decide (x ≤ y)).toArray) os := Any.slices_Sort_int Tryz.lays189 blk off cap zs w hH hblk hsz
open Go.RowKit Go.Sort in
theorem Tryz.slices_Sort_int_none (p : Option Addr) (cap : Nat) (w : World) :
    Calls Tryz.prog 75 #[.slice p 0 cap] w fun e w' => e = .returned (.tuple #[]) ∧ w' = w := Any.slices_Sort_int_none Tryz.lays189 p cap w
def Tryz.lays115_ren : Go.Shelf.Ren := ⟨fun | 115 => 45 | n => n, fun | 37 => 40 | 4 => 4 | 9 => 9 | 5 => 5 | n => n, fun | n => n⟩
theorem Tryz.lays115 : Go.Proofs.Lays.n115 Tryz.prog Tryz.lays115_ren := {
  mixed := by kernel_rfl
  f115 := Tryz.func45.trans (congrArg some (by kernel_rfl))
  t4 := Tryz.underlying4
  a4 := Tryz.isAgg4
  z4 := Tryz.sizeOf4
  v4 := Tryz.zeroValue4
  t9 := Tryz.underlying9
  a9 := Tryz.isAgg9
  z9 := Tryz.sizeOf9
  v9 := Tryz.zeroValue9
  t37 := Tryz.underlying40
  a37 := Tryz.isAgg40
  z37 := Tryz.sizeOf40
  v37 := Tryz.zeroValue40 }
open Go.Proofs Go.RowKit Go.Lib in
theorem Tryz.bytes_Equal_strs (v1 v2 : Value) (t1 t2 : ByteArray) (w : World) (h1 : (convert 40 9 v1).run Tryz.prog w = .ok (.string t1) w) (h2 : (convert 40 9 v2).run Tryz.prog w = .ok (.string t2) w) :
    Calls Tryz.prog 45 #[v1, v2] w fun e w' => e = .returned (.bool (t1.toList == t2.toList)) ∧ w' = w := Any.bytes_Equal_strs Tryz.lays115 v1 v2 t1 t2 w h1 h2
def Tryz.laysSlK4_ren : Go.Shelf.Ren := ⟨fun | 4 => 101 | n => n, fun | 22 => 40 | 4 => 4 | 5 => 5 | n => n, fun | n => n⟩
theorem Tryz.laysSlK4 : Go.Proofs.SlLaysK.n4 Tryz.prog Tryz.laysSlK4_ren := {
  mixed := by kernel_rfl
  f4 := Tryz.func101.trans (congrArg some (by kernel_rfl))
  t4 := Tryz.underlying4
  a4 := Tryz.isAgg4
  z4 := Tryz.sizeOf4
  v4 := Tryz.zeroValue4
  t22 := Tryz.underlying40
  a22 := Tryz.isAgg40
  z22 := Tryz.sizeOf40
  v22 := Tryz.zeroValue40
  t5 := Tryz.underlying5
  i5 := by kernel_rfl }
open Go.RowKit Go.Lib in
theorem Tryz.bytes_Clone_at (a : Addr) (n c : Nat) (xs : List Int) (w : World) (hx : xs.length = n) (hbig : n ≤ 140737488355328) (hc : ∀ i, i < n → w.cell? (a.add i) = some (.int .u8 (xs.getD i 0))) :
    Calls Tryz.prog 101 #[.slice (some a) n c] w fun e w' => ∃ v', e = .returned v' ∧ w'.ownsRow w.heap.size 5 1 v' n (xs.map (Value.int .u8)) ∧ v' ≠ .slice none 0 0 ∧ Below w.heap.size w w' := Any.bytes_Clone_at Tryz.laysSlK4 a n c xs w hx hbig hc
open Go.RowKit Go.Lib in
theorem Tryz.bytes_Clone_nil (n c : Nat) (w : World) :
    Calls Tryz.prog 101 #[.slice none n c] w fun e w' => e = .returned (.slice none 0 0) ∧ w' = w := Any.bytes_Clone_nil Tryz.laysSlK4 n c w
def Tryz.laysSlJ14_ren : Go.Shelf.Ren := ⟨fun | 14 => 95 | 15 => 121 | n => n, fun | 26 => 171 | 22 => 40 | 3 => 3 | 4 => 4 | 0 => 0 | 9 => 9 | 20 => 20 | 5 => 5 | n => n, fun | n => n⟩
theorem Tryz.laysSlJ14 : Go.Proofs.SlLaysJ.n14 Tryz.prog Tryz.laysSlJ14_ren := {
  mixed := by kernel_rfl
  f14 := Tryz.func95.trans (congrArg some (by kernel_rfl))
  f15 := Tryz.func121.trans (congrArg some (by kernel_rfl))
  t0 := Tryz.underlying0
  a0 := Tryz.isAgg0
  z0 := Tryz.sizeOf0
  v0 := Tryz.zeroValue0
  t3 := Tryz.underlying3
  a3 := Tryz.isAgg3
  z3 := Tryz.sizeOf3
  v3 := Tryz.zeroValue3
  t4 := Tryz.underlying4
  a4 := Tryz.isAgg4
  z4 := Tryz.sizeOf4
  v4 := Tryz.zeroValue4
  t9 := Tryz.underlying9
  a9 := Tryz.isAgg9
  z9 := Tryz.sizeOf9
  v9 := Tryz.zeroValue9
  t20 := Tryz.underlying20
  a20 := Tryz.isAgg20
  z20 := Tryz.sizeOf20
  v20 := Tryz.zeroValue20
  t22 := Tryz.underlying40
  a22 := Tryz.isAgg40
  z22 := Tryz.sizeOf40
  v22 := Tryz.zeroValue40
  t26 := Tryz.underlying171
  a26 := Tryz.isAgg171
  z26 := Tryz.sizeOf171
  v26 := Tryz.zeroValue171
  t5 := Tryz.underlying5
  z5 := Tryz.sizeOf5
  i5 := by kernel_rfl }
open Go.RowKit Go.Lib in
theorem Tryz.bytes_Join_many (b o n c : Nat) (vs : List Value) (ls : List (List UInt8)) (sv : Value) (sep : List UInt8) (w : World) (hn : ls.length = n) (h2 : 2 ≤ n) (hP : Lib.PartsAt w ⟨b, o, none⟩ vs ls) (hcap : n ≤ c) (hS : Lib.HoldsBytes w sv sep) (hn47 : n ≤ 140737488355328) (hlen : Lib.lens ls + sep.length * (n - 1) ≤ 140737488355328) :
    Calls Tryz.prog 95 #[.slice (some ⟨b, o, none⟩) n c, sv] w fun e w' => ∃ v', e = .returned v' ∧ Lib.FreshBytes w.heap.size w' v' (Lib.join ls sep) ∧ Below w.heap.size w w' := Any.bytes_Join_many Tryz.laysSlJ14 b o n c vs ls sv sep w hn h2 hP hcap hS hn47 hlen
open Go.RowKit Go.Lib in
theorem Tryz.bytes_Join_none (p : Option Addr) (c : Nat) (sv : Value) (w : World) :
    Calls Tryz.prog 95 #[.slice p 0 c, sv] w fun e w' => e = .returned (.slice (some ⟨w.heap.size, 0, none⟩) 0 0) ∧ w' = w.alloc (.cells #[] 5) := Any.bytes_Join_none Tryz.laysSlJ14 p c sv w
open Go.RowKit Go.Lib in
theorem Tryz.bytes_Join_one (b o c : Nat) (ad0 : Addr) (c0 : Nat) (l0 : List UInt8) (sv : Value) (w : World) (hcell : w.cell? ⟨b, o, none⟩ = some (.slice (some ad0) l0.length c0)) (hc : ∀ (i : Nat) x, l0[i]? = some x → w.cell? (ad0.add i) = some (.int .u8 (x.toNat : Int))) (h0 : 0 < l0.length) (hs : l0.length ≤ 140737488355328) :
    Calls Tryz.prog 95 #[.slice (some ⟨b, o, none⟩) 1 c, sv] w fun e w' => ∃ v', e = .returned v' ∧ Lib.FreshBytes w.heap.size w' v' l0 ∧ Below w.heap.size w w' := Any.bytes_Join_one Tryz.laysSlJ14 b o c ad0 c0 l0 sv w hcell hc h0 hs
open Go.RowKit Go.Lib in
theorem Tryz.bytes_Join_one_empty (b o c : Nat) (p0 : Option Addr) (c0 : Nat) (sv : Value) (w : World) (hcell : w.cell? ⟨b, o, none⟩ = some (.slice p0 0 c0)) :
    Calls Tryz.prog 95 #[.slice (some ⟨b, o, none⟩) 1 c, sv] w fun e w' => e = .returned (.slice none 0 0) ∧ w' = w := Any.bytes_Join_one_empty Tryz.laysSlJ14 b o c p0 c0 sv w hcell
def Tryz.laysnb115_ren : Go.Shelf.Ren := ⟨fun | 115 => 45 | n => n, fun | 37 => 40 | 4 => 4 | 9 => 9 | 5 => 5 | n => n, fun | n => n⟩
theorem Tryz.laysnb115 : Go.Proofs.Lays.nb115 Tryz.prog Tryz.laysnb115_ren := {
  mixed := by kernel_rfl
  f115 := Tryz.func45.trans (congrArg some (by kernel_rfl))
  t4 := Tryz.underlying4
  a4 := Tryz.isAgg4
  z4 := Tryz.sizeOf4
  v4 := Tryz.zeroValue4
  t9 := Tryz.underlying9
  a9 := Tryz.isAgg9
  z9 := Tryz.sizeOf9
  v9 := Tryz.zeroValue9
  t37 := Tryz.underlying40
  a37 := Tryz.isAgg40
  z37 := Tryz.sizeOf40
  v37 := Tryz.zeroValue40
  t5 := Tryz.underlying5
  a5 := Tryz.isAgg5
  z5 := Tryz.sizeOf5
  v5 := Tryz.zeroValue5 }
theorem Tryz.bytes_Equal_all (p1 p2 : Option Addr) (n c m d : Nat) (xs ys : List Int) (w : World) (hx : xs.length = n) (hy : ys.length = m) (h1 : Lib.BytesIn w p1 n xs) (h2 : Lib.BytesIn w p2 m ys) :
    Calls Tryz.prog 45 #[.slice p1 n c, .slice p2 m d] w fun e w' => e = .returned (.bool (Lib.bytesOf xs == Lib.bytesOf ys)) ∧ w' = w := Any.bytes_Equal_all Tryz.laysnb115 p1 p2 n c m d xs ys w hx hy h1 h2
theorem Tryz.bytes_Equal (v1 v2 : Value) (xs ys : List Int) (w : World) (h1 : (convert 40 9 v1).run Tryz.prog w = .ok (.string (strOfNums xs)) w) (h2 : (convert 40 9 v2).run Tryz.prog w = .ok (.string (strOfNums ys)) w) :
    Calls Tryz.prog 45 #[v1, v2] w fun e w' => e = .returned (.bool (Lib.bytesOf xs == Lib.bytesOf ys)) ∧ w' = w := Any.bytes_Equal Tryz.lays115 v1 v2 xs ys w h1 h2
end Go.Proofs
end

/-
  New, Laid, Power, Arm and a sector that is read: what each does to a disk. Conditions: the disk is held.
-/

section
set_option maxRecDepth 100000
set_option linter.unusedSimpArgs false
set_option linter.unusedVariables false
namespace Go.Proofs.YtkmkblhmjeeaeaaGreatDoor
open Go.RowKit

/-- A slice of the call's own, of these bytes. -/
def OwnBytes (B : Nat) (xs : List Int) (w : World) (e : Ending) (w' : World) : Prop := ∃ v', e = .returned v' ∧ w'.ownsRow w.heap.size 5 1 v' xs.length (U xs) ∧ v' ≠ .slice none 0 0 ∧ Below B w w'

theorem clone_bytes (w : World) (a : Addr) (n c : Nat) (xs : List Int) (hx : xs.length = n) (hbig : n ≤ 140737488355328) (hc : ∀ j u, (U xs)[j]? = some u → w.cell? (a.add j) = some u) :
    Calls Tryz.prog 101 #[.slice (some a) n c] w (OwnBytes w.heap.size xs w) := by
  subst hx
  refine (Tryz.bytes_Clone_at a xs.length c xs w rfl hbig ?_).mono fun e w' h => ?_
  · intro i hi
    refine hc i _ ?_
    rw [U_get, List.getElem?_eq_getElem hi]
    simp [hi]
  · exact h

theorem flush_nil (w : World) : Calls Tryz.prog 89 #[.pointer none] w fun e w' => e = .returned (.int .i64 9) ∧ w = w' := by
  go_enter Tryz.func89, Tryz.ntmps89
  go_wp2_with (go_at_call 47; refine (on_nil _).mono ?_; rintro e w' ⟨rfl, rfl⟩)
  go_ret
  exact ⟨rfl, rfl⟩

end Go.Proofs.YtkmkblhmjeeaeaaGreatDoor
end

/-
  Read: what it tells of a sector. Conditions: the disk is held.
-/

section
set_option maxRecDepth 100000
set_option linter.unusedSimpArgs false
set_option linter.unusedVariables false
namespace Go.Proofs.YtkmkblhmjeeaeaaGreatDoor
open Go.RowKit

theorem read_nil (w : World) (no : Int) : Calls Tryz.prog 66 #[.pointer none, .int .i64 no] w fun e w' => e = .returned (.tuple #[.slice none 0 0, .int .i64 9]) ∧ w = w' := by
  go_enter Tryz.func66, Tryz.ntmps66
  go_wp2_with fail
  go_step3
  go_wp2_with (go_at_call 47; refine (on_nil _).mono ?_; rintro e w' ⟨rfl, rfl⟩)
  rw [Exit.noGoto_ret]
  go_ret2
  exact ⟨rfl, rfl⟩

theorem read_off (w : World) (D : Nat) (no : Int) (c0 : w.cell? ⟨D, 0, none⟩ = some (.bool false)) :
    Calls Tryz.prog 66 #[.pointer (some ⟨D, 0, none⟩), .int .i64 no] w fun e w' => e = .returned (.tuple #[.slice none 0 0, .int .i64 9]) ∧ w = w' := by
  go_enter Tryz.func66, Tryz.ntmps66
  go_wp2_with fail
  go_step3
  go_wp2_with (go_at_call 47; refine (on_any _ D _ c0).mono ?_; rintro e w' ⟨rfl, rfl⟩)
  rw [Exit.noGoto_ret]
  go_ret2
  exact ⟨rfl, rfl⟩

theorem read_arg (w : World) (D L n lc : Nat) (no : Int) (hn : n ≤ 4096) (c0 : w.cell? ⟨D, 0, none⟩ = some (.bool true)) (c3 : w.cell? ⟨D, 3, none⟩ = some (.slice (some ⟨L, 0, none⟩) (64 * n) lc)) (hbad : ¬ (0 ≤ no ∧ no < n)) :
    Calls Tryz.prog 66 #[.pointer (some ⟨D, 0, none⟩), .int .i64 no] w fun e w' => e = .returned (.tuple #[.slice none 0 0, .int .i64 1]) ∧ w = w' := by
  have hd : decide (0 ≤ no ∧ no < n) = false := decide_eq_false hbad
  clear hbad
  go_enter Tryz.func66, Tryz.ntmps66
  go_wp2_with fail
  go_step3
  go_wp2_with (first | (go_at_call 47; refine (on_any _ D _ c0).mono ?_; rintro e w' ⟨rfl, rfl⟩) | (go_at_call 99; refine (has_any _ D L n lc no hn c3).mono ?_; rw [hd]; rintro e w' ⟨rfl, rfl⟩))
  rw [Exit.noGoto_ret]
  go_ret2
  exact ⟨rfl, rfl⟩

/-- What Read leaves: the bytes in memory of the call's own. -/
def ReadPost (xs : List Int) (w : World) (e : Ending) (w' : World) : Prop := ∃ v', e = .returned (.tuple #[v', .int .i64 0]) ∧ w'.ownsRow w.heap.size 5 1 v' xs.length (U xs) ∧ v' ≠ .slice none 0 0 ∧ Below w.heap.size w w'

/-- No waiting write from place i on is of sector k. -/
def NoneFrom (s : St) (k i : Nat) : Prop := ∀ p ∈ s.waits.drop i, p.1 ≠ (k : Int)
theorem NoneFrom.start (s : St) (k : Nat) : NoneFrom s k s.waits.length := by
  intro p hp
  simp at hp

theorem seen_none {s : St} {k : Nat} (h : NoneFrom s k 0) : seen s k = (s.laid.drop (64 * k)).take 64 := by
  unfold seen
  have : s.waits.reverse.find? (fun p => p.1 == (k : Int)) = none := by
    rw [List.find?_eq_none]
    intro p hp
    have := h p (by simpa using hp)
    simpa using this
  rw [this]
theorem seen_some {s : St} {k j : Nat} {p : Int × List Int} (h : NoneFrom s k (j + 1)) (hp : s.waits[j]? = some p) (hk : p.1 = (k : Int)) : seen s k = p.2 := by
  unfold seen
  obtain ⟨hj, hpe⟩ := List.getElem?_eq_some_iff.1 hp
  have e : s.waits = s.waits.take j ++ p :: s.waits.drop (j + 1) := by
    rw [← hpe, List.getElem_cons_drop, List.take_append_drop]
  have : s.waits.reverse.find? (fun p => p.1 == (k : Int)) = some p := by
    rw [e, List.reverse_append, List.reverse_cons, List.append_assoc, List.find?_append]
    have h0 : (s.waits.drop (j + 1)).reverse.find? (fun p => p.1 == (k : Int)) = none := by
      rw [List.find?_eq_none]
      intro q hq
      have := h q (by simpa using hq)
      simpa using this
    rw [h0]
    simp [hk]
  rw [this]
theorem NoneFrom.step {s : St} {k j : Nat} {p : Int × List Int} (h : NoneFrom s k (j + 1)) (hp : s.waits[j]? = some p) (hk : (p.1 == (k : Int)) = false) : NoneFrom s k j := by
  obtain ⟨hj, hpe⟩ := List.getElem?_eq_some_iff.1 hp
  intro q hq
  rw [← List.getElem_cons_drop hj, hpe] at hq
  rcases List.mem_cons.1 hq with rfl | hq
  · simpa using hk
  · exact h q hq

theorem add_off (g o j : Nat) : (⟨g, o, none⟩ : Addr).add j = ⟨g, o + j, none⟩ := by unfold Addr.add; split <;> simp_all
theorem sector_cells {w : World} {L k : Nat} {laid : List Int} {tl : List Value} (hL : Blk w L 5 (U laid ++ tl)) : ∀ j u, (U ((laid.drop (64 * k)).take 64))[j]? = some u → w.cell? ((⟨L, k * 64, none⟩ : Addr).add j) = some u := by
  intro j u hu
  rw [add_off, hL.cell]
  rw [← U_take, ← U_drop, List.getElem?_take] at hu
  split at hu
  · rw [List.getElem?_drop] at hu
    rw [List.getElem?_append_left (by have := (List.getElem?_eq_some_iff.1 hu).1; omega), ← hu, Nat.mul_comm]
  · cases hu
theorem wait_cells {w : World} {g o : Nat} {bs : List Int} (h : ∀ j x, bs[j]? = some x → w.cell? ⟨g, o + j, none⟩ = some (.int .u8 x)) : ∀ j u, (U bs)[j]? = some u → w.cell? ((⟨g, o, none⟩ : Addr).add j) = some u := by
  intro j u hu
  rw [U_get] at hu
  cases hx : bs[j]? with
  | none => rw [hx] at hu; cases hu
  | some x =>
    rw [hx] at hu
    simp only [Option.map_some, Option.some.injEq] at hu
    subst hu
    rw [add_off]
    exact h j x hx

set_option maxHeartbeats 400000 in
theorem read_ok (B : Nat) (w : World) (D L : Nat) (wv : Value) (s : St) (k : Nat) (hd : IsDisk B w D L wv s) (hon : s.on = true) (hk : k < s.n) :
    Calls Tryz.prog 66 #[.pointer (some ⟨D, 0, none⟩), .int .i64 k] w (ReadPost (seen s k) w) := by
  obtain ⟨A, c, rfl, hform⟩ := hd.form
  have hn := hd.good.n2
  have hcap := hd.good.cap
  have hlc := hd.good.lc0
  obtain ⟨c0, c1, c2, c3, c4, c5, c6⟩ := dk_cells hd.disk
  rw [hon] at c0
  have hdc : decide (0 ≤ (k : Int) ∧ (k : Int) < s.n) = true := decide_eq_true ⟨by omega, by omega⟩
  have HD := Lib.hid hd
  have HF := Lib.hid hform
  clear hd hform c1 c2 c5 c6
  go_enter Tryz.func66, Tryz.ntmps66
  go_wp2_with fail
  go_step3
  go_wp2_with (first | (go_at_call 47; refine (on_any _ D _ c0).mono ?_; rintro e w' ⟨rfl, rfl⟩) | (go_at_call 99; refine (has_any _ D L s.n s.lc k hn c3).mono ?_; rw [hdc]; rintro e w' ⟨rfl, rfl⟩) | (go_at_call 100; refine (sector_any _ D L s.n s.lc k hlc hn hk c3).mono ?_; rintro e w' ⟨rfl, rfl⟩))
  go_step3
  go_wp2_with fail
  go_loop [6, 7] (fun v p => ∃ i : Nat, i ≤ s.waits.length ∧ p = .int .i64 ((i : Int) - 1) ∧ v = .slice (some ⟨L, k * 64, none⟩) 64 (s.lc - k * 64) ∧ NoneFrom s k i) (fun _ p => (intOf p + 1).toNat)
  case atStart => exact ⟨s.waits.length, Nat.le_refl _, rfl, rfl, NoneFrom.start s k⟩
  case round =>
    obtain ⟨i, hi, rfl, rfl, hnf⟩ := hrel
    have HN := Lib.hid hnf
    clear hnf
    match i, hi, HN with
    | 0, hi, HN =>
      go_wp2_with fail
      refine (clone_bytes w ⟨L, k * 64, none⟩ 64 (s.lc - k * 64) ((s.laid.drop (64 * k)).take 64) (by rw [List.length_take, List.length_drop, HD.out.good.size]; omega) (by omega) (sector_cells HD.out.laid)).mono ?_
      rintro e w' ⟨v', rfl, h1, h2⟩
      have H := Lib.hid (And.intro h1 h2)
      clear h1 h2
      go_wp2_with fail
      rw [Exit.noGoto_ret]
      go_ret2
      exact ⟨v', rfl, by rw [seen_none HN.out]; exact H.out⟩
    | j + 1, hi, HN =>
      obtain ⟨p, hp⟩ : ∃ p, s.waits[j]? = some p := ⟨_, List.getElem?_eq_getElem (by omega)⟩
      obtain ⟨g, rfl, hno, hbs⟩ := HF.out j p hp
      have ej : (((j + 1 : Nat) : Int) - 1) = (j : Int) := by omega
      rw [ej]
      have hlen := (HD.out.good.sec p (List.mem_of_getElem? hp)).2.2
      have HP := Lib.hid hp
      have HB := Lib.hid hbs
      have HL := Lib.hid hlen
      clear hp hbs ej hlen
      by_cases hq : p.1 = (k : Int)
      · have hq' : (p.1 == (k : Int)) = true := by simpa using hq
        have HQ := Lib.hid hq
        clear hq
        go_wp2_with fail
        refine (clone_bytes w ⟨g, j * 65 + 1, none⟩ 64 64 p.2 HL.out (by omega) (wait_cells HB.out)).mono ?_
        rintro e w' ⟨v', rfl, h1, h2⟩
        have H := Lib.hid (And.intro h1 h2)
        clear h1 h2
        go_wp2_with fail
        rw [Exit.noGoto_ret]
        go_ret2
        exact ⟨v', rfl, by rw [seen_some HN.out HP.out HQ.out]; exact H.out⟩
      · have hq' : (p.1 == (k : Int)) = false := by simpa using hq
        clear hq
        go_wp2_with fail
        go_round
        case rel => exact ⟨j, by omega, rfl, rfl, HN.out.step HP.out hq'⟩
        case measure => simp [intOf]

end Go.Proofs.YtkmkblhmjeeaeaaGreatDoor
end

/-
  Flush: what it does to a disk. Conditions: the disk is held.
-/

section
set_option maxRecDepth 100000
set_option linter.unusedSimpArgs false
set_option linter.unusedVariables false
namespace Go.Proofs.YtkmkblhmjeeaeaaGreatDoor
open Go.RowKit

theorem flush_off (w : World) (D : Nat) (c0 : w.cell? ⟨D, 0, none⟩ = some (.bool false)) :
    Calls Tryz.prog 89 #[.pointer (some ⟨D, 0, none⟩)] w fun e w' => e = .returned (.int .i64 9) ∧ w = w' := by
  go_enter Tryz.func89, Tryz.ntmps89
  go_wp2_with (go_at_call 47; refine (on_any _ D _ c0).mono ?_; rintro e w' ⟨rfl, rfl⟩)
  go_ret
  exact ⟨rfl, rfl⟩

theorem flush_none (w : World) (D L : Nat) (n lc : Nat) (wv : Value) (wr fl : Int) (hd : Blk w D 117 (dk true true 0 L n lc wv wr fl)) :
    Calls Tryz.prog 89 #[.pointer (some ⟨D, 0, none⟩)] w fun e w' => e = .returned (.int .i64 9) ∧
      Blk w' D 117 (dk false true 0 L n lc wv wr fl) ∧ Only [D] w w' := by
  obtain ⟨c0, c1, c2, c3, c4, c5, c6⟩ := dk_cells hd
  have HD := Lib.hid hd
  clear hd
  go_enter Tryz.func89, Tryz.ntmps89
  go_wp2_with (first | (go_at_call 47; refine (on_any _ D _ c0).mono ?_; rintro e w' ⟨rfl, rfl⟩))
  refine (spend_no w D true L n lc wv wr fl HD.out).mono ?_
  rintro e w1 ⟨rfl, hd1, ho1⟩
  have H := Lib.hid (And.intro hd1 ho1)
  clear hd1 ho1
  go_wp2_with fail
  go_ret
  exact ⟨rfl, H.out.1, H.out.2⟩

/-- The writes' slice and its cells, in a later world in which the row stands. -/
def Form (w : World) (A : Option Addr) (ws : List (Int × List Int)) : Prop := ∀ i p, ws[i]? = some p →
    ∃ g, A = some ⟨g, 0, none⟩ ∧ w.cell? ⟨g, i * 65, none⟩ = some (.int .i64 p.1) ∧ ∀ j x, p.2[j]? = some x → w.cell? ⟨g, i * 65 + 1 + j, none⟩ = some (.int .u8 x)
theorem Form.only {w w' : World} {A : Option Addr} {ws : List (Int × List Int)} {S : List Nat} (h : Form w A ws) (ho : Only S w w') (hA : ∀ a, A = some a → a.block ∉ S) : Form w' A ws := by
  intro i p hp
  obtain ⟨g, rfl, h1, h2⟩ := h i p hp
  have hb : w'.heap[g]? = w.heap[g]? := ho.block g (World.block_lt_of_cell? w _ h1) (hA _ rfl)
  exact ⟨g, rfl, (World.cell?_of_block (a := ⟨g, i * 65, none⟩) hb).trans h1, fun j x hx => (World.cell?_of_block (a := ⟨g, i * 65 + 1 + j, none⟩) hb).trans (h2 j x hx)⟩

/-- What the loop of Flush keeps. -/
def LayRel (L : Nat) (s : St) (w : World) (k : Nat) (wr : World) : Prop := Blk wr L 5 (U (layAll s.laid (s.waits.take k)) ++ s.tl) ∧ Only [L] w wr

theorem flush_end (B : Nat) (w w1 wr : World) (D L : Nat) (wv : Value) (s : St) (hd : IsDisk B w D L wv s) (hon : s.on = true) (hs : ¬ (s.armed = true ∧ s.left = 0)) (hfl : s.fl < 1000000) (ho1 : Only [D] w w1)
    (hdr : Blk wr D 117 (dk true s.armed (nextLeft s.armed s.left) L s.n s.lc wv s.wr s.fl)) (hr : LayRel L s w1 s.waits.length wr) :
    IsDisk B ((wr.setCell ⟨D, 4, none⟩ (.slice none 0 0)).setCell ⟨D, 6, none⟩ (.int .i64 (s.fl + 1))) D L (.slice none 0 0) { s with left := nextLeft s.armed s.left, laid := layAll s.laid s.waits, waits := [], fl := s.fl + 1 } ∧
    Only [D, L] w ((wr.setCell ⟨D, 4, none⟩ (.slice none 0 0)).setCell ⟨D, 6, none⟩ (.int .i64 (s.fl + 1))) := by
  have hDL : L ≠ D := hd.laid.ne_ hd.disk (by decide)
  obtain ⟨r1, r2⟩ := hr
  rw [List.take_length] at r1
  refine ⟨⟨?_, ?_, World.ownsRow_nil _ _ _ _, hd.baseD, hd.baseL, ?_⟩, ?_⟩
  · have := (hdr.set_ 4 (.slice none 0 0)).set_ 6 (.int .i64 (s.fl + 1))
    rw [hon]
    exact this
  · exact (r1.far (p := ⟨D, 4, none⟩) hDL _).far (p := ⟨D, 6, none⟩) hDL _
  · have hg := hd.good
    exact ⟨layAll_length _ _ hg.size hg.sec, hg.n1, hg.n2, by intro p hp; simp at hp, (left_ok hg hs).1, (left_ok hg hs).2, by simp, hg.wr0, hg.wr1, by have := hg.fl0; show 0 ≤ s.fl + 1; omega, by show s.fl + 1 ≤ 1000000; omega, hg.lc0⟩
  · have h1 : Only [D, L] w wr := (ho1.mono (by intro k hk _; simp at hk; simp [hk])).trans (r2.mono (by intro k hk _; simp at hk; simp [hk]))
    exact (h1.setCell (.inl (by simp)) _).setCell (.inl (by simp)) _

set_option maxHeartbeats 1000000 in
theorem flush_bare (B : Nat) (w : World) (D L : Nat) (wv : Value) (s : St) (hd : IsDisk B w D L wv s) (hon : s.on = true) (hs : ¬ (s.armed = true ∧ s.left = 0)) (hfl : s.fl < 1000000) :
    Calls Tryz.prog 89 #[.pointer (some ⟨D, 0, none⟩)] w fun e w' => e = .returned (.int .i64 0) ∧
      IsDisk B w' D L (.slice none 0 0) { s with left := nextLeft s.armed s.left, laid := layAll s.laid s.waits, waits := [], fl := s.fl + 1 } ∧ Only [D, L] w w' := by
  obtain ⟨A, c, rfl, hform⟩ := hd.form
  have hn := hd.good.n2
  have hcap := hd.good.cap
  have hlc := hd.good.lc0
  have hw0 := hd.good.fl0
  have hdisk := hd.disk
  rw [hon] at hdisk
  obtain ⟨c0, c1, c2, c3, c4, c5, c6⟩ := dk_cells hdisk
  have HD := Lib.hid hd
  have HF : Hid (Form w A s.waits) := hform
  have HS := Lib.hid hs
  have HON := Lib.hid hon
  have HK := Lib.hid hdisk
  clear hd hform hs hon hdisk
  go_enter Tryz.func89, Tryz.ntmps89
  go_wp2_with (first | (go_at_call 47; refine (on_any _ D _ c0).mono ?_; rintro e w' ⟨rfl, rfl⟩))
  refine (spend_ok w D true s.armed s.left L s.n s.lc _ s.wr s.fl HK.out HS.out HD.out.good.left0 HD.out.good.left1).mono ?_
  rintro e w1 ⟨rfl, hd1, ho1⟩
  clear c0 c1 c2 c3 c4 c5 c6
  obtain ⟨c0, c1, c2, c3, c4, c5, c6⟩ := dk_cells hd1
  have Hd1 := Lib.hid hd1
  have Ho1 := Lib.hid ho1
  clear hd1 ho1
  have hrowD : (Value.slice A s.waits.length c).ownBlock ≠ some D := own_blk_ne HD.out.own HD.out.disk (by decide)
  have hrowL : (Value.slice A s.waits.length c).ownBlock ≠ some L := own_blk_ne HD.out.own HD.out.laid (by decide)
  have hDL : D ≠ L := HD.out.disk.ne_ HD.out.laid (by decide)
  have HR := Lib.hid (And.intro hrowD (And.intro hrowL hDL))
  clear hrowD hrowL hDL
  have hF1 : Form w1 A s.waits := HF.out.only Ho1.out (by
    intro a ha
    subst ha
    have := HR.out.1
    simpa [Value.ownBlock] using this)
  have HF1 := Lib.hid hF1
  have hL1 : Blk w1 L 5 (U s.laid ++ s.tl) := HD.out.laid.only Ho1.out (by simpa using fun e => HR.out.2.2 e.symm)
  have HL1 := Lib.hid hL1
  clear hF1 hL1 HF
  go_wp2_with fail
  go_loopw [19] (fun i wr => ∃ k : Nat, k ≤ s.waits.length ∧ i = .int .i64 k ∧ LayRel L s w1 k wr) (fun i _ => s.waits.length - (intOf i).toNat)
  case atStart => exact ⟨0, Nat.zero_le _, rfl, by simpa [layAll] using HL1.out, Only.refl _ _⟩
  case round =>
    obtain ⟨k, hk, rfl, hrel⟩ := hrel
    have HR1 := Lib.hid hrel
    have hdr : Blk wr D 117 (dk true s.armed (nextLeft s.armed s.left) L s.n s.lc (.slice A s.waits.length c) s.wr s.fl) := Hd1.out.only hrel.2 (by simpa using HR.out.2.2)
    clear c0 c1 c2 c3 c4 c5 c6
    obtain ⟨c0, c1, c2, c3, c4, c5, c6⟩ := dk_cells hdr
    have f4 := hdr.frozen 4
    have Hdr := Lib.hid hdr
    clear hrel hdr
    by_cases hlt : k < s.waits.length
    · obtain ⟨p, hp⟩ : ∃ p, s.waits[k]? = some p := ⟨_, List.getElem?_eq_getElem hlt⟩
      obtain ⟨g, rfl, hno, hbs⟩ := (HF1.out.only HR1.out.2 (by
        intro a ha
        subst ha
        have := HR.out.2.1
        simpa [Value.ownBlock] using this)) k p hp
      have hsec := HD.out.good.sec p (List.mem_of_getElem? hp)
      have hpn : p.1 = ((p.1.toNat : Nat) : Int) := by omega
      rw [hpn] at hno
      have HP := Lib.hid (And.intro hp (And.intro hsec hpn))
      have HB := Lib.hid hbs
      clear hp hsec hpn hbs
      go_wp2_with (go_at_call 120; refine (lay_any _ D L g (k * 65) s.n s.lc p.1.toNat (layAll s.laid (s.waits.take k)) p.2 s.tl hlc hn (by have := HP.out.2.1; omega) c3 HR1.out.1 (layAll_length _ _ HD.out.good.size (fun q hq => HD.out.good.sec q (List.mem_of_mem_take hq))) HP.out.2.1.2.2 hno HB.out).mono ?_; rintro e w2 ⟨rfl, h1, h2⟩; have HH := Lib.hid (And.intro h1 h2); clear h1 h2)
      go_roundw
      case rel =>
        refine ⟨k + 1, by omega, by go_num, ?_, HR1.out.2.trans HH.out.2⟩
        have e : s.waits.take (k + 1) = s.waits.take k ++ [p] := by
          rw [List.take_add_one, HP.out.1]; rfl
        rw [e, layAll_snoc]
        exact HH.out.1
      case measure => simp [intOf]; omega
    · obtain rfl : k = s.waits.length := by omega
      have H3 : Blk (wr.setCell ⟨D, 4, none⟩ (.slice none 0 0)) D 117 (dk true s.armed (nextLeft s.armed s.left) L s.n s.lc (.slice none 0 0) s.wr s.fl) := Hdr.out.set_ 4 _
      have c6'' := (dk_cells H3).2.2.2.2.2.2
      have f6'' := H3.frozen 6
      have HH3 := Lib.hid H3
      clear H3
      go_wp2_with (go_at_call 119; refine (atom_add _ ⟨D, 6, none⟩ s.fl hw0 (by omega) c6'' f6'').mono ?_; rintro e w' ⟨rfl, rfl⟩)
      go_ret
      refine ⟨rfl, flush_end B w w1 wr D L _ s HD.out HON.out HS.out hfl Ho1.out Hdr.out HR1.out⟩

theorem flush_ok (B : Nat) (w : World) (D L : Nat) (wv : Value) (s : St) (hd : IsDisk B w D L wv s) (hon : s.on = true) (hs : ¬ (s.armed = true ∧ s.left = 0)) (hfl : s.fl < 1000000) :
    Calls Tryz.prog 89 #[.pointer (some ⟨D, 0, none⟩)] w fun e w' => e = .returned (.int .i64 0) ∧
      DiskPost B D L [D, L] w { s with left := nextLeft s.armed s.left, laid := layAll s.laid s.waits, waits := [], fl := s.fl + 1 } w' :=
  (flush_bare B w D L wv s hd hon hs hfl).mono fun _ _ ⟨h1, h2, h3⟩ => ⟨h1, _, h2, h3⟩

/-- Flush, in whatever state. -/
theorem flush_any (B : Nat) (w : World) (D L : Nat) (wv : Value) (s : St) (hd : IsDisk B w D L wv s) (hfl : s.fl < 1000000) :
    Calls Tryz.prog 89 #[.pointer (some ⟨D, 0, none⟩)] w fun e w' => e = .returned (.int .i64 s.flush.1) ∧ DiskPost B D L [D, L] w s.flush.2 w' := by
  obtain ⟨c0, c1, c2, c3, c4, c5, c6⟩ := dk_cells hd.disk
  unfold St.flush
  by_cases hon : s.on = false
  · rw [if_pos hon]
    rw [hon] at c0
    exact (flush_off w D c0).mono fun e w' ⟨he, hw⟩ => ⟨he, by subst hw; exact ⟨wv, hd, Only.refl _ _⟩⟩
  rw [if_neg hon]
  have hon' : s.on = true := by cases h : s.on <;> simp_all
  by_cases hs : s.armed = true ∧ s.left = 0
  · rw [if_pos hs]
    have hdisk := hd.disk
    rw [hon', hs.1, hs.2] at hdisk
    refine (flush_none w D L s.n s.lc wv s.wr s.fl hdisk).mono fun e w' ⟨he, hb, ho⟩ => ⟨he, wv, ⟨?_, ?_, ?_, hd.baseD, hd.baseL, ?_⟩, ho.mono (by intro k hk _; simp at hk; simp [hk])⟩
    · show Blk w' D _ (dk false s.armed s.left L s.n s.lc wv s.wr s.fl)
      rw [hs.1, hs.2]; exact hb
    · exact hd.laid.only ho (by simpa using hd.laid.ne_ hd.disk (by decide))
    · refine ownsRow_only hd.own ho fun k hk => ?_
      have := own_blk_ne hd.own hd.disk (by decide)
      rw [hk] at this
      simpa using this
    · obtain ⟨g1, g2, g3, g4, g5, g6, g7, g8, g9, g10, g11, g12⟩ := hd.good
      exact ⟨g1, g2, g3, g4, g5, g6, g7, g8, g9, g10, g11, g12⟩
  · rw [if_neg hs]
    exact flush_ok B w D L wv s hd hon' hs hfl

end Go.Proofs.YtkmkblhmjeeaeaaGreatDoor
end

/-
  The places that Crash is told: a copy of them, sorted; and which waiting writes they keep. Conditions: the slice's numbers lie at its address.
-/

section
set_option maxRecDepth 100000
set_option linter.unusedSimpArgs false
set_option linter.unusedVariables false
namespace Go.Proofs.YtkmkblhmjeeaeaaGreatDoor
open Go.RowKit

/-- The numbers of a slice lie at its address (nil, empty or not). -/
def IntsAt (w : World) (A : Option Addr) (ks : List Int) : Prop := ∀ j x, ks[j]? = some x → ∃ g o, A = some ⟨g, o, none⟩ ∧ w.cell? ⟨g, o + j, none⟩ = some (.int .i64 x)

/-- A slice of the call's own, of these numbers, behind the call. -/
def OwnInts (N : Nat) (ks : List Int) (w : World) (e : Ending) (w' : World) : Prop := ∃ v', e = .returned v' ∧ w'.ownsRow N 3 1 v' ks.length (ks.map (Value.int .i64)) ∧ Below N w w'

/-- The sorted list. -/
def sorted (ks : List Int) : List Int := ks.mergeSort fun x y => decide (x ≤ y)

theorem sort_ints (N : Nat) (w : World) (v : Value) (ks : List Int) (hN : N ≤ w.heap.size) (hbig : ks.length ≤ 1000000) (h : w.ownsRow N 3 1 v ks.length (ks.map (Value.int .i64))) :
    Calls Tryz.prog 75 #[v] w fun e w' => e = .returned (.tuple #[]) ∧ w'.ownsRow N 3 1 v ks.length ((sorted ks).map (Value.int .i64)) ∧ Below N w w' := by
  have hsl : (sorted ks).length = ks.length := by simp [sorted]
  rcases h.2 with ⟨rfl, h0⟩ | ⟨g, cap, cur, rfl, hbase, hb, h1, h2, h3, h4⟩
  · have hk : ks = [] := List.eq_nil_of_length_eq_zero h0
    subst hk
    exact (Tryz.slices_Sort_int_none none 0 w).mono fun e w' ⟨he, hw⟩ => by subst hw; exact ⟨he, by simpa [sorted] using World.ownsRow_nil w' N 3 1, Below.refl _ _⟩
  · refine (Tryz.slices_Sort_int g 0 cap ks w (holds_of_blockI hb (by simpa using h4)) (Array.getElem?_eq_some_iff.1 hb).1 (by omega)).mono fun e w' ⟨he, nn, os, hw⟩ => ?_
    subst hw
    exact ⟨he, ownsRow_sortedI hsl hbase hb h1 h2 h3, (Below.refl N w).grown (grownBy_sortedI _) hN (fun k hk => by cases hk; exact hbase)⟩

/-- The waiting writes that are kept, in their order: those whose places are told. -/
def kept (ks : List Int) (ws : List (Int × List Int)) : List (Int × List Int) := (ws.zipIdx.filter fun x => decide ((x.2 : Int) ∈ ks)).map (·.1)
theorem kept_snoc (ks : List Int) (ws : List (Int × List Int)) (p : Int × List Int) : kept ks (ws ++ [p]) = if (ws.length : Int) ∈ ks then kept ks ws ++ [p] else kept ks ws := by
  unfold kept
  rw [List.zipIdx_append]
  by_cases h : (ws.length : Int) ∈ ks
  · simp [h]
  · simp [h]
theorem kept_mem {ks : List Int} {ws : List (Int × List Int)} {p : Int × List Int} (h : p ∈ kept ks ws) : p ∈ ws := by
  unfold kept at h
  simp only [List.mem_map, List.mem_filter] at h
  obtain ⟨x, ⟨h1, _⟩, rfl⟩ := h
  exact (List.mem_zipIdx' h1).2 ▸ List.getElem_mem _
theorem kept_length (ks : List Int) (ws : List (Int × List Int)) : (kept ks ws).length ≤ ws.length := by
  unfold kept
  rw [List.length_map]
  exact Nat.le_trans (List.length_filter_le _ _) (by simp)
theorem kept_none {ks : List Int} (ws ws' : List (Int × List Int)) (h : ∀ j : Nat, ws.length ≤ j → (j : Int) ∉ ks) : kept ks (ws ++ ws') = kept ks ws := by
  unfold kept
  rw [List.zipIdx_append, List.filter_append, List.map_append]
  have e : ((ws'.zipIdx (0 + ws.length)).filter fun x => decide ((x.2 : Int) ∈ ks)) = [] := List.filter_eq_nil_iff.2 (fun x hx => by
    have := List.le_snd_of_mem_zipIdx hx
    simpa using h x.2 (by omega))
  rw [e]
  simp

/-- What Crash makes of a state. -/
def St.crash (s : St) (ks : List Int) : Int × St := (((kept ks s.waits).length : Nat), { s with on := false, laid := layAll s.laid (kept ks s.waits), waits := [] })

/-- What is still to be told from place i on. -/
def Rest (ks rest : List Int) (i : Nat) : Prop := rest.Pairwise (· ≤ ·) ∧ ∀ j : Nat, i ≤ j → ((j : Int) ∈ rest ↔ (j : Int) ∈ ks)
theorem Rest.start (ks : List Int) : Rest ks (sorted ks) 0 := by
  refine ⟨?_, fun j _ => by simp [sorted, List.mem_mergeSort]⟩
  have := List.pairwise_mergeSort (le := fun x y : Int => decide (x ≤ y)) (fun a b c h1 h2 => by simp only [decide_eq_true_eq] at *; omega) (fun a b => by simp only [Bool.or_eq_true, decide_eq_true_eq]; omega) ks
  exact this.imp (by intro a b h; simpa using h)
theorem Rest.drop {ks rest : List Int} {x : Int} {i : Nat} (h : Rest ks (x :: rest) i) (hx : x < i) : Rest ks rest i := by
  obtain ⟨h1, h2⟩ := h
  refine ⟨(List.pairwise_cons.1 h1).2, fun j hj => ?_⟩
  rw [← h2 j hj, List.mem_cons]
  constructor
  · exact Or.inr
  · rintro (e | h)
    · omega
    · exact h
theorem Rest.next {ks rest : List Int} {i : Nat} (h : Rest ks rest i) : Rest ks rest (i + 1) := ⟨h.1, fun j hj => h.2 j (by omega)⟩
theorem Rest.nil {ks : List Int} {i : Nat} (h : Rest ks [] i) : ∀ j : Nat, i ≤ j → (j : Int) ∉ ks := fun j hj hm => by
  have := (h.2 j hj).2 hm
  simp at this
theorem Rest.head {ks rest : List Int} {x : Int} {i : Nat} (h : Rest ks (x :: rest) i) (hx : ¬ x < i) : (i : Int) ∈ ks ↔ x = i := by
  rw [← h.2 i (Nat.le_refl _), List.mem_cons]
  constructor
  · rintro (e | e)
    · exact e.symm
    · have := (List.pairwise_cons.1 h.1).1 _ e
      omega
  · intro e
    exact .inl e.symm

end Go.Proofs.YtkmkblhmjeeaeaaGreatDoor
end

/-
  Crash: what it does to a disk. Conditions: the disk is held; the places told lie at their address.
-/

section
set_option maxRecDepth 100000
set_option linter.unusedSimpArgs false
set_option linter.unusedVariables false
namespace Go.Proofs.YtkmkblhmjeeaeaaGreatDoor
open Go.RowKit

/-- What the loop of layKept keeps of the laid bytes. -/
def KeptRel (N L : Nat) (s : St) (ks : List Int) (w : World) (i : Nat) (c : Int) (wr : World) : Prop :=
  Blk wr L 5 (U (layAll s.laid (kept ks (s.waits.take i))) ++ s.tl) ∧ Only [L] w wr ∧ c = ((kept ks (s.waits.take i)).length : Nat) ∧ N ≤ w.heap.size
/-- The list of the places still told, in memory of the call's own. -/
def ToldAt (N : Nat) (A : Option Addr) (cap : Nat) (rest : List Int) (wr : World) : Prop :=
  rest.length ≤ cap ∧ cap ≤ maxLen ∧ ∀ j x, rest[j]? = some x → ∃ g o, A = some ⟨g, o, none⟩ ∧ N ≤ g ∧ wr.cell? ⟨g, o + j, none⟩ = some (.int .i64 x)

theorem ToldAt.only {N : Nat} {A : Option Addr} {cap : Nat} {rest : List Int} {w wr : World} {S : List Nat} (h : ToldAt N A cap rest w) (ho : Only S w wr) (hS : ∀ k, k ∈ S → k < N) : ToldAt N A cap rest wr := by
  refine ⟨h.1, h.2.1, fun j x hx => ?_⟩
  obtain ⟨g, o, e, hg, hc⟩ := h.2.2 j x hx
  refine ⟨g, o, e, hg, ?_⟩
  rw [World.cell?_of_block (w := w) (ho.block g (World.block_lt_of_cell? w _ hc) (fun hs => by have := hS g hs; omega))]
  exact hc
theorem ToldAt.tail {N g o cap : Nat} {x : Int} {rest : List Int} {w : World} (h : ToldAt N (some ⟨g, o, none⟩) cap (x :: rest) w) : ToldAt N (some ⟨g, o + 1, none⟩) (cap - 1) rest w := by
  obtain ⟨h1, h2, h3⟩ := h
  refine ⟨by simp at h1; omega, by omega, fun j y hy => ?_⟩
  obtain ⟨g', o', e, hg, hc⟩ := h3 (j + 1) y (by simpa using hy)
  cases e
  exact ⟨g, o + 1, rfl, hg, by rw [← hc]; congr 2; omega⟩
theorem ToldAt.of_own {N : Nat} {w : World} {v : Value} {ks : List Int} (h : w.ownsRow N 3 1 v ks.length (ks.map (Value.int .i64))) : ∃ A cap, v = .slice A ks.length cap ∧ ToldAt N A cap ks w := by
  rcases h.2 with ⟨rfl, h0⟩ | ⟨g, cap, cur, rfl, hbase, hb, h1, h2, h3, h4⟩
  · have hk : ks = [] := List.eq_nil_of_length_eq_zero h0
    subst hk
    exact ⟨none, 0, rfl, by simp, by simp [maxLen], fun j x hx => by simp at hx⟩
  · refine ⟨some ⟨g, 0, none⟩, cap, rfl, h1, h2, fun j x hx => ⟨g, 0, rfl, hbase, ?_⟩⟩
    have := h.cells (g := g) rfl j (.int .i64 x) (by rw [List.getElem?_map, hx]; rfl)
    have hadd : (⟨g, 0, none⟩ : Addr).add j = ⟨g, 0 + j, none⟩ := by unfold Addr.add; split <;> simp_all
    rwa [hadd] at this

def lenV : Value → Nat
  | .slice _ n _ => n
  | _ => 0

/-- The loop has gone through all that is kept. -/
theorem kept_end {L : Nat} {s : St} {ks : List Int} {w w2 wr : World} {cn : Int} (h : KeptRel w.heap.size L s ks w2 s.waits.length cn wr) (le : Below w.heap.size w w2) :
    Ending.returned (.int .i64 cn) = .returned (.int .i64 ((kept ks s.waits).length : Nat)) ∧ Blk wr L 5 (U (layAll s.laid (kept ks s.waits)) ++ s.tl) ∧ Only [L] w wr := by
  obtain ⟨h1, h2, h3, _⟩ := h
  rw [List.take_length] at h1 h3
  exact ⟨by rw [h3], h1, (Only.of_below le).trans h2⟩
theorem kept_stop {N L : Nat} {s : St} {ks : List Int} {w2 wr : World} {cn : Int} {i : Nat} (h : KeptRel N L s ks w2 i cn wr) (hi : i ≤ s.waits.length) (hr : ∀ j : Nat, i ≤ j → (j : Int) ∉ ks) : KeptRel N L s ks w2 s.waits.length cn wr := by
  obtain ⟨h1, h2, h3, h4⟩ := h
  have e : kept ks (s.waits.take s.waits.length) = kept ks (s.waits.take i) := by
    rw [List.take_length]
    have := kept_none (ks := ks) (s.waits.take i) (s.waits.drop i) (by intro j hj; exact hr j (by simp at hj; omega))
    rwa [List.take_append_drop] at this
  unfold KeptRel
  rw [e]
  exact ⟨h1, h2, h3, h4⟩

theorem KeptRel.cn {N L : Nat} {s : St} {ks : List Int} {w2 wr : World} {cn : Int} {i : Nat} (h : KeptRel N L s ks w2 i cn wr) : 0 ≤ cn ∧ cn ≤ i := by
  have h3 := h.2.2.1
  have := kept_length ks (s.waits.take i)
  rw [List.length_take] at this
  omega
theorem kept_lay {N L : Nat} {s : St} {ks : List Int} {w2 wr w3 : World} {cn : Int} {i : Nat} {p : Int × List Int} (h : KeptRel N L s ks w2 i cn wr) (hb : Blk w3 L 5 (U (putS (layAll s.laid (kept ks (s.waits.take i))) p.1.toNat p.2) ++ s.tl)) (ho : Only [L] wr w3)
    (et : s.waits.take (i + 1) = s.waits.take i ++ [p]) (hti : (s.waits.take i).length = i) (hin : (i : Int) ∈ ks) : KeptRel N L s ks w2 (i + 1) (cn + 1) w3 := by
  obtain ⟨h1, h2, h3, h4⟩ := h
  have e : kept ks (s.waits.take (i + 1)) = kept ks (s.waits.take i) ++ [p] := by rw [et, kept_snoc, hti, if_pos hin]
  unfold KeptRel
  rw [e, layAll_snoc]
  exact ⟨hb, h2.trans ho, by rw [h3]; simp, h4⟩
theorem kept_pass {N L : Nat} {s : St} {ks : List Int} {w2 wr : World} {cn : Int} {i : Nat} {p : Int × List Int} (h : KeptRel N L s ks w2 i cn wr)
    (et : s.waits.take (i + 1) = s.waits.take i ++ [p]) (hti : (s.waits.take i).length = i) (hin : (i : Int) ∉ ks) : KeptRel N L s ks w2 (i + 1) cn wr := by
  have e : kept ks (s.waits.take (i + 1)) = kept ks (s.waits.take i) := by rw [et, kept_snoc, hti, if_neg hin]
  unfold KeptRel
  rw [e]
  exact h

theorem crash_end {B : Nat} {w w1 : World} {D L : Nat} {wv : Value} {s : St} {ks : List Int} (hd : IsDisk B w D L wv s) (h1 : Blk w1 L 5 (U (layAll s.laid (kept ks s.waits)) ++ s.tl)) (h2 : Only [L] w w1)
    (hd2 : Blk (w1.setCell ⟨D, 4, none⟩ (.slice none 0 0)) D 117 (dk s.on s.armed s.left L s.n s.lc (.slice none 0 0) s.wr s.fl)) :
    DiskPost B D L [D, L] w (s.crash ks).2 ((w1.setCell ⟨D, 4, none⟩ (.slice none 0 0)).setCell ⟨D, 0, none⟩ (.bool false)) := by
  have hDL : L ≠ D := hd.laid.ne_ hd.disk (by decide)
  refine ⟨.slice none 0 0, ⟨hd2.set_ 0 _, (h1.far (p := ⟨D, 4, none⟩) hDL _).far (p := ⟨D, 0, none⟩) hDL _, World.ownsRow_nil _ _ _ _, hd.baseD, hd.baseL, ?_⟩, ?_⟩
  · have hg := hd.good
    exact ⟨layAll_length _ _ hg.size (fun p hp => hg.sec p (kept_mem hp)), hg.n1, hg.n2, by intro p hp; simp [St.crash] at hp, hg.left0, hg.left1, by simp [St.crash], hg.wr0, hg.wr1, hg.fl0, hg.fl1, hg.lc0⟩
  · have h : Only [D, L] w w1 := h2.mono (by intro k hk _; simp at hk; simp [hk])
    exact (h.setCell (.inl (by simp)) _).setCell (.inl (by simp)) _

end Go.Proofs.YtkmkblhmjeeaeaaGreatDoor
end

/-
  New, Power, Arm: what each does. Conditions: the disk is held (Power, Arm).
-/

section
set_option maxRecDepth 100000
set_option linter.unusedSimpArgs false
set_option linter.unusedVariables false
namespace Go.Proofs.YtkmkblhmjeeaeaaGreatDoor
open Go.RowKit

/-- A new disk of n sectors. -/
def fresh (n : Nat) : St := { on := true, armed := false, left := 0, n := n, lc := 64 * n, laid := List.replicate (64 * n) 0, tl := [], waits := [], wr := 0, fl := 0 }
theorem fresh_good {n : Nat} (h1 : 1 ≤ n) (h2 : n ≤ 4096) : Good (fresh n) :=
  ⟨by simp [fresh], h1, h2, by intro p hp; simp [fresh] at hp, Int.le_refl _, by simp [fresh], by simp [fresh], Int.le_refl _, by simp [fresh], Int.le_refl _, by simp [fresh], Nat.le_refl _⟩

theorem new_arg (w : World) (n : Int) (h : ¬ (1 ≤ n ∧ n ≤ 4096)) : Calls Tryz.prog 21 #[.int .i64 n] w fun e w' => e = .returned (.tuple #[.pointer none, .int .i64 1]) ∧ w = w' := by
  by_cases h1 : n < 1
  · go_enter Tryz.func21, Tryz.ntmps21
    go_wp2_with fail
    go_ret2
    exact ⟨rfl, rfl⟩
  · have h2 : decide (n < 1) = false := decide_eq_false h1
    have h3 : 4096 < n := by omega
    clear h
    go_enter Tryz.func21, Tryz.ntmps21
    go_wp2_with fail
    go_ret2
    exact ⟨rfl, rfl⟩

theorem byte_info : (Tryz.prog.info? 5).map (fun i => (i.zero, i.size, i.bytes)) = some (some (.int .u8 0), 1, 1) := by kernel_rfl
theorem made_bytes (n : Nat) : madeCells #[.int .u8 0] n = (U (List.replicate n 0)).toArray := by
  apply Array.toList_inj.1
  rw [toList_madeCells_one]
  simp [U]
theorem make_bytes (w : World) (n : Int) (h0 : 0 ≤ n) (h1 : n ≤ 1000000) : (Instr.makeSlice 40 (.int .i64 n) (.int .i64 n)).run Tryz.prog w = .ok (.slice (some ⟨w.heap.size, 0, none⟩) n.toNat n.toNat) (w.alloc (.cells (U (List.replicate n.toNat 0)).toArray 5)) := by
  obtain ⟨i0, hi, hz0, hz1, hz2⟩ := info_parts byte_info
  have := run_make (P := Tryz.prog) w 40 5 i0 (.int .u8 0) (by kernel_rfl) hi hz0 .i64 .i64 n n h0 (Int.le_refl _) (by rw [hz2]; omega) (by omega)
  rw [this, hz1, Nat.mul_one, ← made_bytes]
  rfl

/-- What New leaves. -/
def NewPost (n : Nat) (w : World) (e : Ending) (w' : World) : Prop := e = .returned (.tuple #[.pointer (some ⟨w.heap.size + 1, 0, none⟩), .int .i64 0]) ∧ IsDisk w.heap.size w' (w.heap.size + 1) w.heap.size (.slice none 0 0) (fresh n) ∧ Below w.heap.size w w'

theorem new_end {n : Nat} {w w1 : World} (h1 : 1 ≤ n) (h2 : n ≤ 4096) (hd1 : Blk w1 (w.heap.size + 1) 117 (dk false false 0 w.heap.size n (64 * n) (.slice none 0 0) 0 0)) (hl1 : Blk w1 w.heap.size 5 (U (List.replicate (64 * n) 0))) (hb1 : Below w.heap.size w w1) :
    IsDisk w.heap.size (((w1.setCell ⟨w.heap.size + 1, 0, none⟩ (.bool true)).setCell ⟨w.heap.size + 1, 1, none⟩ (.bool false)).setCell ⟨w.heap.size + 1, 2, none⟩ (.int .i64 0)) (w.heap.size + 1) w.heap.size (.slice none 0 0) (fresh n) ∧
    Below w.heap.size w (((w1.setCell ⟨w.heap.size + 1, 0, none⟩ (.bool true)).setCell ⟨w.heap.size + 1, 1, none⟩ (.bool false)).setCell ⟨w.heap.size + 1, 2, none⟩ (.int .i64 0)) := by
  refine ⟨⟨((hd1.set_ 0 _).set_ 1 _).set_ 2 _, ?_, World.ownsRow_nil _ _ _ _, by omega, Nat.le_refl _, fresh_good h1 h2⟩, ?_⟩
  · rw [show (fresh n).tl = [] from rfl, List.append_nil]
    exact ((hl1.far (p := ⟨w.heap.size + 1, 0, none⟩) (by simp) _).far (p := ⟨w.heap.size + 1, 1, none⟩) (by simp) _).far (p := ⟨w.heap.size + 1, 2, none⟩) (by simp) _
  · exact ((hb1.setCell (p := ⟨w.heap.size + 1, 0, none⟩) (by simp) _).setCell (p := ⟨w.heap.size + 1, 1, none⟩) (by simp) _).setCell (p := ⟨w.heap.size + 1, 2, none⟩) (by simp) _

theorem power_end {B : Nat} {w : World} {D L : Nat} {wv : Value} {s : St} (hd : IsDisk B w D L wv s) (h1 : Blk (w.setCell ⟨D, 4, none⟩ (.slice none 0 0)) D 117 (dk s.on s.armed s.left L s.n s.lc (.slice none 0 0) s.wr s.fl)) :
    DiskPost B D L [D] w { s with on := true, armed := false, left := 0, waits := [] } ((((w.setCell ⟨D, 4, none⟩ (.slice none 0 0)).setCell ⟨D, 0, none⟩ (.bool true)).setCell ⟨D, 1, none⟩ (.bool false)).setCell ⟨D, 2, none⟩ (.int .i64 0)) := by
  have hDL : L ≠ D := hd.laid.ne_ hd.disk (by decide)
  refine ⟨.slice none 0 0, ⟨((h1.set_ 0 _).set_ 1 _).set_ 2 _, ?_, World.ownsRow_nil _ _ _ _, hd.baseD, hd.baseL, ?_⟩, ?_⟩
  · exact (((hd.laid.far (p := ⟨D, 4, none⟩) hDL _).far (p := ⟨D, 0, none⟩) hDL _).far (p := ⟨D, 1, none⟩) hDL _).far (p := ⟨D, 2, none⟩) hDL _
  · have hg := hd.good
    exact ⟨hg.size, hg.n1, hg.n2, by intro p hp; simp at hp, Int.le_refl _, by simp, by simp, hg.wr0, hg.wr1, hg.fl0, hg.fl1, hg.lc0⟩
  · exact ((((Only.refl [D] w).setCell (.inl (by simp)) _).setCell (.inl (by simp)) _).setCell (.inl (by simp)) _).setCell (.inl (by simp)) _

theorem arm_end {B : Nat} {w : World} {D L : Nat} {wv : Value} {s : St} {n : Int} (hn : n ≤ 9223372036854775807) (hd : IsDisk B w D L wv s) :
    DiskPost B D L [D] w { s with armed := decide (0 ≤ n), left := max n 0 } ((w.setCell ⟨D, 1, none⟩ (.bool (decide (0 ≤ n)))).setCell ⟨D, 2, none⟩ (.int .i64 (max n 0))) := by
  have hDL : L ≠ D := hd.laid.ne_ hd.disk (by decide)
  have ho : Only [D] w ((w.setCell ⟨D, 1, none⟩ (.bool (decide (0 ≤ n)))).setCell ⟨D, 2, none⟩ (.int .i64 (max n 0))) := ((Only.refl [D] w).setCell (.inl (by simp)) _).setCell (.inl (by simp)) _
  refine ⟨wv, ⟨(hd.disk.set_ 1 _).set_ 2 _, hd.laid.only ho (by simpa using hDL), ownsRow_only hd.own ho ?_, hd.baseD, hd.baseL, ?_⟩, ho⟩
  · intro k hk
    have := own_blk_ne hd.own hd.disk (by decide)
    rw [hk] at this
    simpa using this
  · have hg := hd.good
    exact ⟨hg.size, hg.n1, hg.n2, hg.sec, by show 0 ≤ max n 0; omega, by show max n 0 ≤ 9223372036854775807; omega, hg.cap, hg.wr0, hg.wr1, hg.fl0, hg.fl1, hg.lc0⟩

theorem new_ok (w : World) (n : Nat) (h1 : 1 ≤ n) (h2 : n ≤ 4096) : Calls Tryz.prog 21 #[.int .i64 n] w (NewPost n w) := by
  have hmk := make_bytes w ((n : Int) * 64) (by omega) (by omega)
  have hd : decide ((n : Int) < 1) = false := decide_eq_false (by omega)
  have hd' : decide ((4096 : Int) < n) = false := decide_eq_false (by omega)
  go_enter Tryz.func21, Tryz.ntmps21
  go_wp2_with fail
  have hd1 : Blk ((w.alloc (.cells (U (List.replicate (n * 64) 0)).toArray 5)).alloc (.cells #[.bool false, .bool false, .int .i64 0, .slice (some ⟨w.heap.size, 0, none⟩) (n * 64) (n * 64), .slice none 0 0, .int .i64 0, .int .i64 0] 117)) (w.heap.size + 1) 117
      (dk false false 0 w.heap.size n (64 * n) (.slice none 0 0) 0 0) := by
    rw [show dk false false 0 w.heap.size n (64 * n) (.slice none 0 0) 0 0 = [.bool false, .bool false, .int .i64 0, .slice (some ⟨w.heap.size, 0, none⟩) (n * 64) (n * 64), .slice none 0 0, .int .i64 0, .int .i64 0] from by simp [dk, Nat.mul_comm]]
    exact heap_alloc2_new w _ _
  have hl1 : Blk ((w.alloc (.cells (U (List.replicate (n * 64) 0)).toArray 5)).alloc (.cells #[.bool false, .bool false, .int .i64 0, .slice (some ⟨w.heap.size, 0, none⟩) (n * 64) (n * 64), .slice none 0 0, .int .i64 0, .int .i64 0] 117)) w.heap.size 5
      (U (List.replicate (64 * n) 0)) := by
    rw [Nat.mul_comm 64 n]
    exact (Blk.new w _ _).alloc _
  have hb1 : Below w.heap.size w ((w.alloc (.cells (U (List.replicate (n * 64) 0)).toArray 5)).alloc (.cells #[.bool false, .bool false, .int .i64 0, .slice (some ⟨w.heap.size, 0, none⟩) (n * 64) (n * 64), .slice none 0 0, .int .i64 0, .int .i64 0] 117)) :=
    ((Below.refl _ w).alloc (Nat.le_refl _) _).alloc (by simp) _
  obtain ⟨c0, c1, c2, c3, c4, c5, c6⟩ := dk_cells hd1
  refine (restore_any _ (w.heap.size + 1) false false 0 c0 c1 c2 (hd1.frozen 0) (hd1.frozen 1) (hd1.frozen 2)).mono ?_
  rintro e w' ⟨rfl, hw⟩
  have H0 := new_end h1 h2 hd1 hl1 hb1
  rw [hw] at H0
  have H := Lib.hid H0
  clear H0 hw hd1 hl1 hb1 c0 c1 c2 c3 c4 c5 c6 hmk
  go_wp2_with fail
  go_ret2
  exact ⟨rfl, H.out⟩

end Go.Proofs.YtkmkblhmjeeaeaaGreatDoor
end

/-
  The methods once more, in the words that the laws need: a disk that lives, and what a step leaves of other memory. Conditions: those of each contract.
-/

section
set_option maxRecDepth 100000
set_option linter.unusedSimpArgs false
set_option linter.unusedVariables false
namespace Go.Proofs.YtkmkblhmjeeaeaaGreatDoor
open Go.RowKit

/-- The disk at D, its laid bytes at L, is in state s. -/
def Live (B D L : Nat) (s : St) (w : World) : Prop := ∃ wv, IsDisk B w D L wv s

/-- A step of the disk: below B nothing has turned; a block of another kind, that is not the laid bytes, is as it was. -/
structure Step (B L : Nat) (w w' : World) : Prop where
  below : Below B w w'
  keep : ∀ g t cs, t ≠ 117 → t ≠ 179 → g ≠ L → Blk w g t cs → Blk w' g t cs

theorem Step.refl (B L : Nat) (w : World) : Step B L w w := ⟨Below.refl _ _, fun _ _ _ _ _ _ h => h⟩
theorem Step.trans {B L : Nat} {a b c : World} (h : Step B L a b) (k : Step B L b c) : Step B L a c :=
  ⟨h.below.trans k.below, fun g t cs h1 h2 h3 hb => k.keep g t cs h1 h2 h3 (h.keep g t cs h1 h2 h3 hb)⟩
theorem Step.of_below {B L : Nat} {w w' : World} (hB : B ≤ w.heap.size) (h : Below w.heap.size w w') : Step B L w w' := ⟨h.mono hB, fun _ _ _ _ _ _ hb => hb.below h hb.lt⟩
theorem Step.drewN (B L : Nat) (w : World) (n : Nat) : Step B L w (w.drewN n) := ⟨⟨rfl, rfl, rfl, Nat.le_refl _, fun _ _ => rfl⟩, fun _ _ _ _ _ _ h => h⟩
theorem Step.size {B L : Nat} {w w' : World} (h : Step B L w w') : w.heap.size ≤ w'.heap.size := h.below.size

theorem Live.lt {B D L : Nat} {s : St} {w : World} (h : Live B D L s w) : B ≤ D ∧ B ≤ L ∧ D < w.heap.size ∧ L < w.heap.size := by
  obtain ⟨wv, h⟩ := h
  exact ⟨h.baseD, h.baseL, h.disk.lt, h.laid.lt⟩
theorem Live.good {B D L : Nat} {s : St} {w : World} (h : Live B D L s w) : Good s := h.choose_spec.good
theorem Live.below {B D L : Nat} {s : St} {w w' : World} (h : Live B D L s w) (hb : Below w.heap.size w w') : Live B D L s w' := by
  obtain ⟨wv, h⟩ := h
  exact ⟨wv, h.disk.below hb h.disk.lt, h.laid.below hb h.laid.lt, ownsRow_only h.own (Only.of_below (S := []) hb) (by simp), h.baseD, h.baseL, h.good⟩
theorem Live.drewN {B D L : Nat} {s : St} {w : World} (h : Live B D L s w) (n : Nat) : Live B D L s (w.drewN n) := by
  obtain ⟨wv, h⟩ := h
  exact ⟨wv, h.disk, h.laid, h.own, h.baseD, h.baseL, h.good⟩

theorem DiskPost.step {B D L : Nat} {S : List Nat} {w w' : World} {s s' : St} {wv : Value} (hd : IsDisk B w D L wv s) (h : DiskPost B D L S w s' w') (hB : B ≤ w.heap.size)
    (hS : ∀ k, k ∈ S → k = D ∨ k = L ∨ wv.ownBlock = some k) : Live B D L s' w' ∧ Step B L w w' := by
  obtain ⟨wv', h1, h2⟩ := h
  refine ⟨⟨wv', h1⟩, h2.below hB ?_, fun g t cs hn1 hn2 hL hb => hb.only h2 fun hg => ?_⟩
  · intro k hk
    rcases hS k hk with rfl | rfl | hk
    · exact hd.baseD
    · exact hd.baseL
    · exact (hd.own.lt k hk).1
  · rcases hS g hg with rfl | rfl | hk
    · exact hn1 (hb.same hd.disk).1
    · exact hL rfl
    · exact own_blk_ne hd.own hb (Ne.symm hn2) hk

/-- A slice of bytes in a block of its own, from block N on. -/
def HasBytes (N : Nat) (w : World) (v : Value) (xs : List Int) : Prop := ∃ g cap cs, v = .slice (some ⟨g, 0, none⟩) xs.length cap ∧ N ≤ g ∧ Blk w g 5 cs ∧ cs.take xs.length = U xs
theorem HasBytes.of_own {N : Nat} {w : World} {v : Value} {xs : List Int} (h : w.ownsRow N 5 1 v xs.length (U xs)) (hn : v ≠ .slice none 0 0) : HasBytes N w v xs := by
  rcases h.2 with ⟨rfl, _⟩ | ⟨g, cap, cur, rfl, hg, hb, _, _, _, ht⟩
  · exact absurd rfl hn
  · exact ⟨g, cap, cur.toList, rfl, hg, by simpa [Blk] using hb, by simpa using ht⟩
theorem HasBytes.step {N B L : Nat} {w w' : World} {v : Value} {xs : List Int} (h : HasBytes N w v xs) (hs : Step B L w w') (hL : L < N) : HasBytes N w' v xs := by
  obtain ⟨g, cap, cs, e, hg, hb, ht⟩ := h
  exact ⟨g, cap, cs, e, hg, hs.keep g _ cs (by decide) (by decide) (by omega) hb, ht⟩
theorem HasBytes.more {N M : Nat} {w : World} {v : Value} {xs : List Int} (h : HasBytes N w v xs) (hM : M ≤ N) : HasBytes M w v xs := by
  obtain ⟨g, cap, cs, e, hg, hb, ht⟩ := h
  exact ⟨g, cap, cs, e, by omega, hb, ht⟩
theorem HasBytes.cells {N : Nat} {w : World} {v : Value} {xs : List Int} (h : HasBytes N w v xs) : ∃ g cap, v = .slice (some ⟨g, 0, none⟩) xs.length cap ∧ N ≤ g ∧ ∀ j u, (U xs)[j]? = some u → w.cell? ((⟨g, 0, none⟩ : Addr).add j) = some u := by
  obtain ⟨g, cap, cs, rfl, hg, hb, ht⟩ := h
  refine ⟨g, cap, rfl, hg, fun j u hu => ?_⟩
  rw [add_off, hb.cell, Nat.zero_add]
  rw [← ht, List.getElem?_take] at hu
  split at hu
  · exact hu
  · cases hu

theorem HasBytes.at_ {N : Nat} {w : World} {v : Value} {xs : List Int} (h : HasBytes N w v xs) {n : Nat} (hn : xs.length = n) : ∃ g cap, v = .slice (some ⟨g, 0, none⟩) n cap ∧ N ≤ g := by
  obtain ⟨g, cap, rfl, hg, _⟩ := h.cells
  exact ⟨g, cap, by rw [hn], hg⟩
theorem HasBytes.lt_ {N : Nat} {w : World} {v : Value} {xs : List Int} (h : HasBytes N w v xs) : ∀ g n c, v = .slice (some ⟨g, 0, none⟩) n c → g < w.heap.size := by
  obtain ⟨g, cap, cs, rfl, hg, hb, ht⟩ := h
  intro g' n c e
  cases e
  exact hb.lt
theorem HasBytes.grown {N : Nat} {w w' : World} {v : Value} {xs : List Int} {row : Option Nat} (h : HasBytes N w v xs) (hg : w.grownBy w' row) (hr : ∀ g, v.ownBlock = some g → some g ≠ row) : HasBytes N w' v xs := by
  obtain ⟨g, cap, cs, rfl, hN, hb, ht⟩ := h
  exact ⟨g, cap, cs, rfl, hN, hb.grown hg (hr g rfl), ht⟩
theorem HasBytes.of_blk {N : Nat} {w : World} {g : Nat} {xs : List Int} {n : Nat} (h : Blk w g 5 (U xs)) (hn : xs.length = n) (hN : N ≤ g) : HasBytes N w (.slice (some ⟨g, 0, none⟩) n n) xs :=
  ⟨g, n, U xs, by rw [hn], hN, h, by rw [List.take_of_length_le]; simp [U_length]⟩
theorem own_of_blk {N : Nat} {w : World} {g : Nat} {xs : List Int} {n : Nat} (h : Blk w g 5 (U xs)) (hn : xs.length = n) (hN : N ≤ g) (hm : n ≤ maxLen) : w.ownsRow N 5 1 (.slice (some ⟨g, 0, none⟩) n n) n (U xs) :=
  ⟨by rw [U_length, hn]; omega, .inr ⟨g, n, _, rfl, hN, h, Nat.le_refl _, hm, by simp [U_length, hn], by rw [List.take_of_length_le]; simp [U_length, hn]⟩⟩

theorem new_live (w : World) (n : Nat) (h1 : 1 ≤ n) (h2 : n ≤ 4096) : Calls Tryz.prog 21 #[.int .i64 n] w fun e w' => e = .returned (.tuple #[.pointer (some ⟨w.heap.size + 1, 0, none⟩), .int .i64 0]) ∧
    Live w.heap.size (w.heap.size + 1) w.heap.size (fresh n) w' ∧ Below w.heap.size w w' :=
  (new_ok w n h1 h2).mono fun _ _ ⟨he, hd, hb⟩ => ⟨he, ⟨_, hd⟩, hb⟩

theorem write_live (B : Nat) (w : World) (D L : Nat) (s : St) (no : Int) (bs : List Int) (A : Option Addr) (m c : Nat) (hd : Live B D L s w) (hB : B ≤ w.heap.size) (hm : bs.length = m)
    (hbs : m = 64 → ∃ ad, A = some ad ∧ ad.block ≠ D ∧ ∀ j u, (U bs)[j]? = some u → w.cell? (ad.add j) = some u) (hcap : s.waits.length < 1000000) (hwr : s.wr < 1000000) :
    Calls Tryz.prog 88 #[.pointer (some ⟨D, 0, none⟩), .int .i64 no, .slice A m c] w fun e w' => e = .returned (.int .i64 (s.write no bs).1) ∧ Live B D L (s.write no bs).2 w' ∧ Step B L w w' := by
  obtain ⟨wv, hd⟩ := hd
  exact (write_any B w D L wv s no bs A m c hd hB hm hbs hcap hwr).mono fun e w' ⟨he, h⟩ => ⟨he, DiskPost.step hd h hB (by intro k hk; simp at hk; rcases hk with h | h <;> simp [h])⟩

theorem flush_live (B : Nat) (w : World) (D L : Nat) (s : St) (hd : Live B D L s w) (hB : B ≤ w.heap.size) (hfl : s.fl < 1000000) :
    Calls Tryz.prog 89 #[.pointer (some ⟨D, 0, none⟩)] w fun e w' => e = .returned (.int .i64 s.flush.1) ∧ Live B D L s.flush.2 w' ∧ Step B L w w' := by
  obtain ⟨wv, hd⟩ := hd
  exact (flush_any B w D L wv s hd hfl).mono fun e w' ⟨he, h⟩ => ⟨he, DiskPost.step hd h hB (by intro k hk; simp at hk; rcases hk with h | h <;> simp [h])⟩

/-- What Read and Laid leave. -/
def GotBytes (B D L : Nat) (s : St) (xs : List Int) (w : World) (v : Value) (w' : World) : Prop := HasBytes w.heap.size w' v xs ∧ Live B D L s w' ∧ Step B L w w'

theorem read_live (B : Nat) (w : World) (D L : Nat) (s : St) (k : Nat) (hd : Live B D L s w) (hB : B ≤ w.heap.size) (hon : s.on = true) (hk : k < s.n) :
    Calls Tryz.prog 66 #[.pointer (some ⟨D, 0, none⟩), .int .i64 k] w fun e w' => ∃ v, e = .returned (.tuple #[v, .int .i64 0]) ∧ GotBytes B D L s (seen s k) w v w' := by
  obtain ⟨wv, hd⟩ := hd
  exact (read_ok B w D L wv s k hd hon hk).mono fun e w' ⟨v, he, h1, h2, h3⟩ => ⟨v, he, HasBytes.of_own h1 h2, Live.below ⟨wv, hd⟩ h3, Step.of_below hB h3⟩

end Go.Proofs.YtkmkblhmjeeaeaaGreatDoor
end

/-
  The laws' own helpers: a sector of one byte, bytes filled up to a sector, are two slices the same. Conditions: the slices' bytes lie at their addresses.
-/

section
set_option maxRecDepth 100000
set_option linter.unusedSimpArgs false
set_option linter.unusedVariables false
namespace Go.Proofs.YtkmkblhmjeeaeaaGreatDoor
open Go.RowKit

/-- The bytes of a slice lie at its address (nil, empty or not). -/
def BytesAt (w : World) (A : Option Addr) (xs : List Int) : Prop := 0 < xs.length → ∃ ad, A = some ad ∧ ∀ j x, xs[j]? = some x → w.cell? (ad.add j) = some (.int .u8 x)

def SameRel (xs ys : List Int) (w : World) (k : Nat) (wr : World) : Prop := xs.take k = ys.take k ∧ ∃ q, wr = w.drewN q
theorem same_step {xs ys : List Int} {k : Nat} {x y : Int} (h : xs.take k = ys.take k) (hx : xs[k]? = some x) (hy : ys[k]? = some y) (e : x = y) : xs.take (k + 1) = ys.take (k + 1) := by
  rw [List.take_add_one, List.take_add_one, hx, hy, h, e]
theorem same_no {xs ys : List Int} {k : Nat} {x y : Int} (hx : xs[k]? = some x) (hy : ys[k]? = some y) (e : x ≠ y) : (xs == ys) = false := by
  rw [beq_eq_false_iff_ne]
  rintro rfl
  rw [hx] at hy
  injection hy with hy
  exact e hy
theorem same_yes {xs ys : List Int} {n : Nat} (h : xs.take n = ys.take n) (hx : xs.length = n) (hy : ys.length = n) : (xs == ys) = true := by
  rw [List.take_of_length_le (by omega), List.take_of_length_le (by omega)] at h
  simp [h]

set_option maxHeartbeats 1000000 in
theorem same_walk (w : World) (A A' : Option Addr) (n n' c c' : Nat) (xs ys : List Int) (hx : xs.length = n) (hy : ys.length = n') (hbig : n ≤ 9223372036854775807) (h : BytesAt w A xs) (h' : BytesAt w A' ys) :
    Calls Tryz.prog 63 #[.slice A n c, .slice A' n' c'] w fun e w' => e = .returned (.bool (xs == ys)) ∧ ∃ q, w.drewN q = w' := by
  by_cases hne : n = n'
  · subst hne
    have hd : ((n : Int) != n) = false := by simp
    go_enter Tryz.func63, Tryz.ntmps63
    go_wp2_with fail
    have HX := Lib.hid (And.intro hx hy)
    have HA := Lib.hid h
    have HA' := Lib.hid h'
    clear hx hy h h' hd
    go_loopw [5] (fun i wr => ∃ k : Nat, k ≤ n ∧ i = .int .i64 k ∧ SameRel xs ys w k wr) (fun i _ => n - (intOf i).toNat)
    case atStart => exact ⟨0, Nat.zero_le _, rfl, rfl, 0, rfl⟩
    case round =>
      obtain ⟨k, hk, rfl, hpre, q, rfl⟩ := hrel
      have HP := Lib.hid hpre
      clear hpre
      by_cases hlt : k < n
      · obtain ⟨ad, rfl, hc⟩ := HA.out (by have := HX.out.1; omega)
        obtain ⟨ad', rfl, hc'⟩ := HA'.out (by have := HX.out.2; omega)
        obtain ⟨x, hx⟩ : ∃ x, xs[k]? = some x := ⟨_, List.getElem?_eq_getElem (by have := HX.out.1; omega)⟩
        obtain ⟨y, hy⟩ : ∃ y, ys[k]? = some y := ⟨_, List.getElem?_eq_getElem (by have := HX.out.2; omega)⟩
        have e1 := hc k x hx
        have e2 := hc' k y hy
        have HK := Lib.hid (And.intro hx hy)
        clear hc hc' hx hy
        by_cases hxy : x = y
        · have hb : (x != y) = false := by simp [hxy]
          have HE := Lib.hid hxy
          clear hxy
          go_wp2_with fail
          go_quiet (fail)
          go_wp2_with fail
          go_roundw
          case rel => exact ⟨k + 1, by omega, by go_num, same_step HP.out HK.out.1 HK.out.2 HE.out, _, rfl⟩
          case measure => simp [intOf]; omega
        · have hb : (x != y) = true := by rw [bne_iff_ne]; exact hxy
          have HE := Lib.hid hxy
          clear hxy
          go_wp2_with fail
          go_quiet (fail)
          go_wp2_with fail
          go_ret
          exact ⟨by rw [same_no HK.out.1 HK.out.2 HE.out]; rfl, _, (World.drewN_drewN _ _ _).symm⟩
      · obtain rfl : k = n := by omega
        go_wp2_with fail
        go_ret
        exact ⟨by rw [same_yes HP.out HX.out.1 HX.out.2]; rfl, _, rfl⟩
  · have hd : ((n : Int) != n') = true := by rw [bne_iff_ne]; omega
    have hq : (xs == ys) = false := by
      rw [beq_eq_false_iff_ne]
      rintro rfl
      omega
    rw [hq]
    clear hne hq hx hy h h'
    go_enter Tryz.func63, Tryz.ntmps63
    go_wp2_with fail
    go_ret
    exact ⟨rfl, 0, rfl⟩

/-- Same, of two slices in blocks of their own. -/
theorem same_has (B L : Nat) (w : World) (v v' : Value) (N N' n : Nat) (xs ys : List Int) (b : Bool) (hx : xs.length = n) (hbig : n ≤ 1000000) (h : HasBytes N w v xs) (h' : HasBytes N' w v' ys) (hb : (xs == ys) = b) :
    Calls Tryz.prog 63 #[v, v'] w fun e w' => e = .returned (.bool b) ∧ Step B L w w' ∧ ∀ D s, Live B D L s w → Live B D L s w' := by
  obtain ⟨g, cap, rfl, _, hc⟩ := h.cells
  obtain ⟨g', cap', rfl, _, hc'⟩ := h'.cells
  subst hb
  refine (same_walk w _ _ _ _ cap cap' xs ys rfl rfl (by omega) (fun _ => ⟨_, rfl, fun j x hx => hc j _ (by rw [U_get, hx]; rfl)⟩) (fun _ => ⟨_, rfl, fun j x hx => hc' j _ (by rw [U_get, hx]; rfl)⟩)).mono ?_
  rintro e w' ⟨rfl, q, rfl⟩
  exact ⟨rfl, Step.drewN _ _ _ _, fun D s h => h.drewN q⟩

def Z64 : List Int := List.replicate 64 0
/-- The first k bytes are c, the others 0. -/
def AllTo (c : Int) (k : Nat) : List Int := List.replicate k c ++ List.replicate (64 - k) 0
def AllRel (N : Nat) (c : Int) (w : World) (k : Nat) (wr : World) : Prop := Blk wr N 5 (U (AllTo c k)) ∧ Below N w wr
theorem AllTo.step (c : Int) (k : Nat) (hk : k < 64) : (U (AllTo c k)).set k (.int .u8 c) = U (AllTo c (k + 1)) := by
  unfold AllTo U
  rw [← List.map_set]
  congr 1
  rw [List.set_append_right _ _ (by simp)]
  simp only [List.length_replicate, Nat.sub_self]
  obtain ⟨m, hm⟩ : ∃ m, 64 - k = m + 1 := ⟨63 - k, by omega⟩
  rw [hm, List.replicate_succ, List.set_cons_zero, show 64 - (k + 1) = m by omega, List.replicate_succ']
  simp

/-- Bytes filled up, or cut, to a sector. -/
def full (xs : List Int) : List Int := xs.take 64 ++ List.replicate (64 - xs.length) 0
theorem full_length (xs : List Int) : (full xs).length = 64 := by simp [full]; omega
def FullTo (xs : List Int) (k : Nat) : List Int := xs.take k ++ List.replicate (64 - k) 0
def FullRel (N : Nat) (xs : List Int) (w : World) (k : Nat) (wr : World) : Prop := Blk wr N 5 (U (FullTo xs k)) ∧ Below N w wr
theorem FullTo.step (xs : List Int) (k : Nat) (x : Int) (hk : k < 64) (hx : xs[k]? = some x) : (U (FullTo xs k)).set k (.int .u8 x) = U (FullTo xs (k + 1)) := by
  have hl : k < xs.length := (List.getElem?_eq_some_iff.1 hx).1
  have ht : (xs.take k).length = k := by rw [List.length_take]; omega
  unfold FullTo U
  rw [← List.map_set]
  congr 1
  rw [List.set_append_right _ _ (by omega), ht, Nat.sub_self, List.take_add_one, hx]
  obtain ⟨m, hm⟩ : ∃ m, 64 - k = m + 1 := ⟨63 - k, by omega⟩
  rw [hm, List.replicate_succ, List.set_cons_zero, show 64 - (k + 1) = m by omega]
  simp
theorem FullTo.done (xs : List Int) (k : Nat) (h : k = xs.length ∧ k ≤ 64 ∨ k = 64 ∧ k ≤ xs.length) : FullTo xs k = full xs := by
  unfold FullTo full
  rcases h with ⟨rfl, h⟩ | ⟨rfl, h⟩
  · rw [List.take_of_length_le (Nat.le_refl _), List.take_of_length_le h]
  · rw [show 64 - 64 = 0 by omega, show 64 - xs.length = 0 by omega]

end Go.Proofs.YtkmkblhmjeeaeaaGreatDoor
end

/-
  What is read of a sector, behind a write, a flush and a crash that keeps all: plain theorems on states. Conditions: the state is good.
-/

section
set_option maxRecDepth 100000
set_option linter.unusedSimpArgs false
set_option linter.unusedVariables false
namespace Go.Proofs.YtkmkblhmjeeaeaaGreatDoor
open Go.RowKit

def sec (l : List Int) (j : Nat) : List Int := (l.drop (64 * j)).take 64
theorem sec_putS {l bs : List Int} {n k j : Nat} (hl : l.length = 64 * n) (hk : k < n) (hj : j < n) (hb : bs.length = 64) : sec (putS l k bs) j = if j = k then bs else sec l j := by
  apply List.ext_getElem?
  intro i
  unfold sec putS
  by_cases hi : i < 64
  · rw [List.getElem?_take_of_lt hi, List.getElem?_drop]
    by_cases hjk : j = k
    · subst hjk
      rw [if_pos rfl, List.append_assoc, List.getElem?_append_right (by simp; omega), List.getElem?_append_left (by simp; omega)]
      congr 1
      simp
      omega
    · rw [if_neg hjk, List.getElem?_take_of_lt hi, List.getElem?_drop]
      by_cases hlt : j < k
      · rw [List.append_assoc, List.getElem?_append_left (by simp; omega), List.getElem?_take_of_lt (by omega)]
      · rw [List.getElem?_append_right (by simp; omega), List.getElem?_drop]
        congr 1
        simp
        omega
  · rw [List.getElem?_take_eq_none (by omega)]
    by_cases hjk : j = k
    · rw [if_pos hjk, List.getElem?_eq_none (by omega)]
    · rw [if_neg hjk, List.getElem?_take_eq_none (by omega)]

theorem sec_layAll {n j : Nat} (hj : j < n) : ∀ (rs : List (Int × List Int)) (l : List Int), l.length = 64 * n → (∀ p ∈ rs, 0 ≤ p.1 ∧ p.1 < n ∧ p.2.length = 64) →
    sec (layAll l rs.reverse) j = match rs.find? (fun p => p.1 == (j : Int)) with | some p => p.2 | none => sec l j
  | [], l, _, _ => rfl
  | p :: rs, l, hl, hp => by
    have hpp := hp p (by simp)
    rw [List.reverse_cons, layAll_snoc, sec_putS (n := n) (layAll_length _ _ hl (fun q hq => hp q (by simp at hq; simp [hq]))) (by omega) hj hpp.2.2, sec_layAll hj rs l hl (fun q hq => hp q (by simp [hq])), List.find?_cons]
    by_cases h : p.1 = (j : Int)
    · have hb : (p.1 == (j : Int)) = true := by simp [h]
      rw [if_pos (by omega), hb]
    · have hb : (p.1 == (j : Int)) = false := by simpa using h
      rw [if_neg (by omega), hb]

theorem seen_sec {s : St} (hg : Good s) {j : Nat} (hj : j < s.n) : seen s j = sec (layAll s.laid s.waits) j := by
  have := sec_layAll hj s.waits.reverse s.laid hg.size (fun p hp => hg.sec p (by simpa using hp))
  rw [List.reverse_reverse] at this
  rw [this]
  rfl
theorem seen_write {s : St} (hg : Good s) {no j : Nat} {bs : List Int} (hno : no < s.n) (hb : bs.length = 64) (hj : j < s.n) {s' : St} (hg' : Good s') (hn : s'.n = s.n) (hl : s'.laid = s.laid) (hw : s'.waits = s.waits ++ [((no : Int), bs)]) :
    seen s' j = if j = no then bs else seen s j := by
  rw [seen_sec hg' (by omega), seen_sec hg hj, hl, hw, layAll_snoc, sec_putS (n := s.n) (layAll_length _ _ hg.size hg.sec) (by simpa using hno) hj hb]
  rfl
theorem seen_laid {s : St} (hg : Good s) {j : Nat} (hj : j < s.n) {s' : St} (hg' : Good s') (hn : s'.n = s.n) (hl : s'.laid = layAll s.laid s.waits) (hw : s'.waits = []) : seen s' j = seen s j := by
  rw [seen_sec hg' (by omega), seen_sec hg hj, hl, hw]
  rfl
/-- The numbers 0 to m - 1. -/
def upTo (m : Nat) : List Int := (List.range m).map fun (i : Nat) => (i : Int)
theorem upTo_succ (m : Nat) : upTo (m + 1) = upTo m ++ [(m : Int)] := by simp [upTo, List.range_succ]
theorem upTo_length (m : Nat) : (upTo m).length = m := by simp [upTo]
theorem kept_all (ws : List (Int × List Int)) : kept (upTo ws.length) ws = ws := by
  unfold kept
  have : (ws.zipIdx.filter fun x => decide ((x.2 : Int) ∈ upTo ws.length)) = ws.zipIdx := by
    rw [List.filter_eq_self]
    intro x hx
    have := (List.mem_zipIdx' hx).1
    simp [upTo]
    exact ⟨x.2, this, rfl⟩
  rw [this]
  simp

end Go.Proofs.YtkmkblhmjeeaeaaGreatDoor
end
