/-
  The library's generic contracts at this program's numbers. Conditions: those of each contract.
-/
import Derived.Ground.GgzProg
import Derived.Shelf.SlIterI.Nil
import Derived.Shelf.SortM.Plain
import Derived.Shelf.SortM.SortNone
import Derived.Ground.SlgmProg
import Derived.Test.YtkmkblhmjeeaeaaGreatDoorProg
import Derived.Test.YtkmkblhmjeeaeaaGreatDoorM16
import Derived.Shelf.Abstract
import Derived.OwnWalkIn
import Derived.TacticsInMore
import Derived.LoopIn
import Derived.Test.YtkmkblhmjeeaeaaGreatDoorM5
import Derived.Test.YtkmkblhmjeeaeaaGreatDoorM20
import Derived.Test.YtkmkblhmjeeaeaaGreatDoorM21
section
namespace Go.Proofs
open Go.Shelf
def Tryz.keysU_ren : Go.Shelf.Ren := ⟨fun | 7 => 43 | 10 => 76 | n => n, fun | 23 => 78 | 26 => 3 | 3 => 98 | 28 => 105 | 0 => 0 | 27 => 104 | 33 => 132 | 4 => 4 | n => n, fun | n => n⟩
theorem Tryz.keysU : Go.Proofs.SlLaysZI.n7 Tryz.prog Tryz.keysU_ren := {
  mixed := by kernel_rfl
  f7 := ⟨Tryz.f43.name, by decide, Tryz.func43.trans (congrArg some (by kernel_rfl))⟩
  f10 := ⟨Tryz.f76.name, by decide, Tryz.func76.trans (congrArg some (by kernel_rfl))⟩
  t0 := Tryz.underlying0
  a0 := Tryz.isAgg0
  z0 := Tryz.sizeOf0
  v0 := Tryz.zeroValue0
  t4 := Tryz.underlying4
  a4 := Tryz.isAgg4
  z4 := Tryz.sizeOf4
  v4 := Tryz.zeroValue4
  t23 := Tryz.underlying78
  a23 := Tryz.isAgg78
  z23 := Tryz.sizeOf78
  v23 := Tryz.zeroValue78
  t26 := Tryz.underlying3
  a26 := Tryz.isAgg3
  z26 := Tryz.sizeOf3
  v26 := Tryz.zeroValue3
  t27 := Tryz.underlying104
  a27 := Tryz.isAgg104
  z27 := Tryz.sizeOf104
  v27 := Tryz.zeroValue104
  t28 := Tryz.underlying105
  a28 := Tryz.isAgg105
  z28 := Tryz.sizeOf105
  v28 := Tryz.zeroValue105
  t33 := Tryz.underlying132
  a33 := Tryz.isAgg132
  z33 := Tryz.sizeOf132
  v33 := Tryz.zeroValue132 }
def Tryz.sortedU_ren : Go.Shelf.Ren := ⟨fun | 6 => 42 | 8 => 74 | 9 => 75 | 11 => 105 | 13 => 107 | 12 => 106 | 23 => 134 | 24 => 135 | 14 => 125 | 15 => 126 | 16 => 127 | 17 => 128 | 18 => 129 | 19 => 130 | 20 => 131 | 21 => 132 | 22 => 133 | 25 => 151 | 26 => 152 | 27 => 153 | 28 => 154 | 29 => 155 | 30 => 156 | 31 => 165 | n => n, fun | 26 => 3 | 28 => 105 | 24 => 60 | 0 => 0 | 3 => 3 | 37 => 181 | 48 => 121 | 50 => 152 | 4 => 4 | 40 => 204 | 39 => 203 | 45 => 91 | 5 => 5 | 9 => 9 | 51 => 227 | 55 => 231 | 57 => 241 | 58 => 242 | 33 => 132 | n => n, fun | n => n⟩
theorem Tryz.sortedU : Go.Proofs.SlLaysZI.n6 Tryz.prog Tryz.sortedU_ren := {
  mixed := by kernel_rfl
  f6 := ⟨Tryz.f42.name, by decide, Tryz.func42.trans (congrArg some (by kernel_rfl))⟩
  f8 := ⟨Tryz.f74.name, by decide, Tryz.func74.trans (congrArg some (by kernel_rfl))⟩
  f11 := ⟨Tryz.f105.name, by decide, Tryz.func105.trans (congrArg some (by kernel_rfl))⟩
  t0 := Tryz.underlying0
  a0 := Tryz.isAgg0
  z0 := Tryz.sizeOf0
  v0 := Tryz.zeroValue0
  t24 := Tryz.underlying60
  a24 := Tryz.isAgg60
  z24 := Tryz.sizeOf60
  v24 := Tryz.zeroValue60
  t26 := Tryz.underlying3
  a26 := Tryz.isAgg3
  z26 := Tryz.sizeOf3
  v26 := Tryz.zeroValue3
  t28 := Tryz.underlying105
  a28 := Tryz.isAgg105
  z28 := Tryz.sizeOf105
  v28 := Tryz.zeroValue105
  i26 := by kernel_rfl }
def Tryz.sortU_ren : Go.Shelf.Ren := ⟨fun | 5 => 75 | 8 => 107 | 7 => 106 | 19 => 134 | 20 => 135 | 10 => 125 | 11 => 126 | 12 => 127 | 13 => 128 | 14 => 129 | 15 => 130 | 16 => 131 | 17 => 132 | 18 => 133 | 30 => 151 | 31 => 152 | 32 => 153 | 33 => 154 | 34 => 155 | 35 => 156 | 40 => 165 | n => n, fun | 23 => 60 | 25 => 3 | 3 => 3 | 32 => 181 | 22 => 60 | 0 => 0 | 44 => 121 | 46 => 152 | 4 => 4 | 36 => 204 | 35 => 203 | 41 => 91 | 5 => 5 | 9 => 9 | 53 => 227 | 57 => 231 | 63 => 241 | 64 => 242 | n => n, fun | n => n⟩
theorem Tryz.sortU : Go.Proofs.SlLaysM.n5 Tryz.prog Tryz.sortU_ren := {
  mixed := by kernel_rfl
  f5 := ⟨Tryz.f75.name, by decide, Tryz.func75.trans (congrArg some (by kernel_rfl))⟩
  f7 := ⟨Tryz.f106.name, by decide, Tryz.func106.trans (congrArg some (by kernel_rfl))⟩
  f8 := Tryz.func107.trans (congrArg some (by kernel_rfl))
  f10 := ⟨Tryz.f125.name, by decide, Tryz.func125.trans (congrArg some (by kernel_rfl))⟩
  f11 := ⟨Tryz.f126.name, by decide, Tryz.func126.trans (congrArg some (by kernel_rfl))⟩
  f12 := ⟨Tryz.f127.name, by decide, Tryz.func127.trans (congrArg some (by kernel_rfl))⟩
  f13 := ⟨Tryz.f128.name, by decide, Tryz.func128.trans (congrArg some (by kernel_rfl))⟩
  f14 := ⟨Tryz.f129.name, by decide, Tryz.func129.trans (congrArg some (by kernel_rfl))⟩
  f15 := ⟨Tryz.f130.name, by decide, Tryz.func130.trans (congrArg some (by kernel_rfl))⟩
  f16 := ⟨Tryz.f131.name, by decide, Tryz.func131.trans (congrArg some (by kernel_rfl))⟩
  f17 := ⟨Tryz.f132.name, by decide, Tryz.func132.trans (congrArg some (by kernel_rfl))⟩
  f18 := ⟨Tryz.f133.name, by decide, Tryz.func133.trans (congrArg some (by kernel_rfl))⟩
  f19 := Tryz.func134.trans (congrArg some (by kernel_rfl))
  f20 := Tryz.func135.trans (congrArg some (by kernel_rfl))
  f30 := ⟨Tryz.f151.name, by decide, Tryz.func151.trans (congrArg some (by kernel_rfl))⟩
  f31 := Tryz.func152.trans (congrArg some (by kernel_rfl))
  f32 := Tryz.func153.trans (congrArg some (by kernel_rfl))
  f33 := ⟨Tryz.f154.name, by decide, Tryz.func154.trans (congrArg some (by kernel_rfl))⟩
  f34 := ⟨Tryz.f155.name, by decide, Tryz.func155.trans (congrArg some (by kernel_rfl))⟩
  f35 := ⟨Tryz.f156.name, by decide, Tryz.func156.trans (congrArg some (by kernel_rfl))⟩
  f40 := ⟨Tryz.f165.name, by decide, Tryz.func165.trans (congrArg some (by kernel_rfl))⟩
  t0 := Tryz.underlying0
  a0 := Tryz.isAgg0
  z0 := Tryz.sizeOf0
  v0 := Tryz.zeroValue0
  t3 := Tryz.underlying3
  a3 := Tryz.isAgg3
  z3 := Tryz.sizeOf3
  v3 := Tryz.zeroValue3
  t4 := Tryz.underlying4
  a4 := Tryz.isAgg4
  z4 := Tryz.sizeOf4
  v4 := Tryz.zeroValue4
  t5 := Tryz.underlying5
  a5 := Tryz.isAgg5
  z5 := Tryz.sizeOf5
  v5 := Tryz.zeroValue5
  t9 := Tryz.underlying9
  a9 := Tryz.isAgg9
  z9 := Tryz.sizeOf9
  v9 := Tryz.zeroValue9
  t22 := Tryz.underlying60
  a22 := Tryz.isAgg60
  z22 := Tryz.sizeOf60
  v22 := Tryz.zeroValue60
  t23 := Tryz.underlying60
  a23 := Tryz.isAgg60
  z23 := Tryz.sizeOf60
  v23 := Tryz.zeroValue60
  t25 := Tryz.underlying3
  a25 := Tryz.isAgg3
  z25 := Tryz.sizeOf3
  v25 := Tryz.zeroValue3
  t32 := Tryz.underlying181
  a32 := Tryz.isAgg181
  z32 := Tryz.sizeOf181
  v32 := Tryz.zeroValue181
  t35 := Tryz.underlying203
  a35 := Tryz.isAgg203
  z35 := Tryz.sizeOf203
  v35 := Tryz.zeroValue203
  t36 := Tryz.underlying204
  a36 := Tryz.isAgg204
  z36 := Tryz.sizeOf204
  v36 := Tryz.zeroValue204
  t41 := Tryz.underlying91
  a41 := Tryz.isAgg91
  z41 := Tryz.sizeOf91
  v41 := Tryz.zeroValue91
  t44 := Tryz.underlying121
  a44 := Tryz.isAgg121
  z44 := Tryz.sizeOf121
  v44 := Tryz.zeroValue121
  t46 := Tryz.underlying152
  a46 := Tryz.isAgg152
  z46 := Tryz.sizeOf152
  v46 := Tryz.zeroValue152
  t53 := Tryz.underlying227
  a53 := Tryz.isAgg227
  z53 := Tryz.sizeOf227
  v53 := Tryz.zeroValue227
  t57 := Tryz.underlying231
  a57 := Tryz.isAgg231
  z57 := Tryz.sizeOf231
  v57 := Tryz.zeroValue231
  t63 := Tryz.underlying241
  a63 := Tryz.isAgg241
  z63 := Tryz.sizeOf241
  v63 := Tryz.zeroValue241
  t64 := Tryz.underlying242
  a64 := Tryz.isAgg242
  z64 := Tryz.sizeOf242
  v64 := Tryz.zeroValue242 }
end Go.Proofs
end

/-
  Used and Free: which nodes aren't free, and the lowest that is. Conditions: the nodes lie in a map.
-/

section
set_option linter.unusedSimpArgs false
set_option linter.unusedVariables false
set_option maxRecDepth 100000
namespace Go.Proofs.YtkmkblhmjeeaeaaGreatDoor
open Go.RowKit Go.Maps Go.Sort Go.Shelf

/-- The numbers of the nodes that aren't free, rising. -/
def usedL (f : Tab) (N : Nat) : List Nat := (List.range N).filter fun i => (f i).isSome
theorem usedL_mem {f : Tab} {N K : Nat} (hw : Wf f N K) {i : Nat} : i ∈ usedL f N ↔ ∃ h, f i = some h := by
  unfold usedL
  rw [List.mem_filter, List.mem_range, Option.isSome_iff_exists]
  constructor
  · exact fun h => h.2
  · rintro ⟨h, hf⟩
    refine ⟨?_, h, hf⟩
    rcases Nat.lt_or_ge i N with h1 | h1
    · exact h1
    · rw [hw.out i h1] at hf
      cases hf
theorem usedL_le (f : Tab) (N : Nat) : (usedL f N).length ≤ N := by
  unfold usedL
  have := List.length_filter_le (fun i => (f i).isSome) (List.range N)
  rw [List.length_range] at this
  exact this
theorem usedL_lt (f : Tab) (N : Nat) : (usedL f N).Pairwise (· < ·) := List.Pairwise.filter _ List.pairwise_lt_range
theorem usedI_sorted (f : Tab) (N : Nat) : ((usedL f N).map fun (i : Nat) => (i : Int)).Pairwise (fun a b => leI a b = true) := by
  rw [List.pairwise_map]
  exact (usedL_lt f N).imp fun {a b} h => by simp only [leI, decide_eq_true_eq]; omega
theorem usedI_nodup (f : Tab) (N : Nat) : ((usedL f N).map fun (i : Nat) => (i : Int)).Nodup := by
  unfold List.Nodup
  rw [List.pairwise_map]
  exact (usedL_lt f N).imp fun {a b} h => by omega
theorem perm_used {D : DataW Hv} {F : Nat → Option Hv} {A : Nat → Prop} {w : World} {f : Tab} {N K M n : Nat} (hown : w.ownsMap Tryz.prog 3 RH M n D) (hD : Reads D F) (hF : ∀ i, match f i with | none => F i = none | some h => ∃ x, F i = some x ∧ HIn A w x h) (hw : Wf f N K) {ss : List Int} (hp : ss.Perm (intKeys D)) :
    ss.mergeSort leI = (usedL f N).map fun (i : Nat) => (i : Int) := by
  have hc : CollectedI D (fun _ => false) ((usedL f N).map fun (i : Nat) => (i : Int)) := by
    refine ⟨usedI_nodup f N, fun x => ?_⟩
    rw [List.mem_map, hD.has x]
    constructor
    · rintro ⟨i, hi, rfl⟩
      obtain ⟨h, hf⟩ := (usedL_mem hw).1 hi
      have := hF i
      rw [hf] at this
      obtain ⟨y, hy, _⟩ := this
      exact ⟨⟨i, rfl, y, hy⟩, rfl⟩
    · rintro ⟨⟨i, rfl, v, hv⟩, _⟩
      refine ⟨i, (usedL_mem hw).2 ?_, rfl⟩
      have := hF i
      cases hf : f i with
      | none => rw [hf] at this; rw [this] at hv; cases hv
      | some h => exact ⟨h, rfl⟩
  have hp2 := hc.perm hown ikey Tryz.underlying3 (fun _ => rfl)
  have tr : ∀ a b c : Int, leI a b = true → leI b c = true → leI a c = true := fun a b c h1 h2 => by simp only [leI, decide_eq_true_eq] at *; exact Int.le_trans h1 h2
  have tot : ∀ a b : Int, (leI a b || leI b a) = true := fun a b => by simp only [leI, Bool.or_eq_true, decide_eq_true_eq]; exact Int.le_total a b
  refine List.Perm.eq_of_pairwise (le := fun a b => leI a b = true) (fun a b _ _ h1 h2 => ?_) (List.pairwise_mergeSort tr tot ss) (usedI_sorted f N) ((List.mergeSort_perm ss leI).trans (hp.trans hp2.symm))
  simp only [leI, decide_eq_true_eq] at h1 h2
  exact Int.le_antisymm h1 h2
theorem sortsU (m : Nat) : AnyZI.SortsIn Tryz.prog Tryz.sortedU_ren Fence.wide m :=
  ⟨fun blk off cap ss W hH hblk hsz => callsIn_wide.2 (AnyM.slices_Sort_int Tryz.sortU blk off cap ss W hH hblk hsz),
   fun p cap W => callsIn_wide.2 (AnyM.slices_Sort_int_none Tryz.sortU p cap W)⟩

set_option maxRecDepth 100000 in
set_option maxHeartbeats 2000000 in
theorem tused_any {A : Nat → Prop} {w : World} {t M cm N K G : Nat} {f : Tab} (hT : TabIn A w M cm f) (hw : Wf f N K) (hN : N ≤ 400) (hcm : cm ≤ 100000) (ht : Blk w t 80 [.pointer (some ⟨G, 0, none⟩), .int .i64 (N : Int), .map (some M)]) :
    Calls Tryz.prog 18 #[.pointer (some ⟨t, 0, none⟩)] w fun e w' => ∃ v, e = .returned v ∧ Ns (fun q => w.heap.size ≤ q) w' v (usedL f N) ∧ Below w.heap.size w w' := by
  have e2 : w.cell? ⟨t, 2, none⟩ = some (.map (some M)) := ht.cell 2
  obtain ⟨F, ⟨nn, D, hown, hnc, hD⟩, hF⟩ := hT
  have hsz : Maps.size D ≤ cm := by
    have := hown.size_le
    omega
  have hbl := hown.lt
  have HP := Lib.hid (fun (ss : List Int) (hp : ss.Perm (intKeys D)) => perm_used hown hD hF hw hp)
  refine (callsIn_wide (n := 6)).1 ?_
  have hseq : SeqGives Fence.wide 2 Tryz.prog 76 #[.pointer (some ⟨w.heap.size, 0, none⟩)] encZ (fun ss => ss.Perm (intKeys D)) (Maps.size D) (w.alloc (.cells #[.map (some M)] 78)) :=
    AnyZI.keys_gives (ρ := Tryz.keysU_ren) { Tryz.keysU with } Fence.wide _ trivial rfl (by omega) w.heap.size M nn D _ (by simp) (by simp) (by
      obtain ⟨es, clock, hb, Ft, hs, hD⟩ := hown
      exact ⟨es, clock, (Below.heap_alloc _ _ M hbl).trans hb, Ft, hs, hD⟩)
  have cK : ∀ mb W, CallsIn Fence.wide 5 Tryz.prog 43 #[.map mb] W fun e w' => e = .returned (.func (.func 76) #[] #[.pointer (some ⟨W.heap.size, 0, none⟩)]) ∧ w' = W.alloc (.cells #[.map mb] 78) := fun mb W => AnyZI.keys_in Tryz.keysU Fence.wide 5 trivial rfl mb W
  have cS := AnyZI.sorted_in Tryz.sortedU Fence.wide 5 trivial trivial trivial trivial rfl (by omega) (sortsU _) (enters_of Tryz.func75 (by kernel_rfl) rfl) 76 #[.pointer (some ⟨w.heap.size, 0, none⟩)] trivial (enters_of Tryz.func76 (by kernel_rfl) rfl) _ _ (by unfold maxLen; omega) (by omega) _ hseq
  change CallsIn _ _ Tryz.prog 42 _ _ _ at cS
  have htl := ht.lt
  clear hF hD hw hown hnc ht hseq
  refine callsIn_of_wp Tryz.func18 rfl trivial ?_ rfl
  simp only [Tryz.ntmps18, List.size_toArray, List.length_cons, List.length_nil, Nat.reduceAdd, Nat.reduceSub, Array.replicate_succ, Array.replicate_zero, List.push_toArray, List.append_toArray, List.nil_append, List.cons_append]
  gi_wp2_with (first
    | (refine ⟨trivial, ?_⟩; gi_at_call 43; refine (cK _ _).mono ?_; rintro e w' ⟨rfl, rfl⟩)
    | (refine ⟨trivial, ?_⟩; gi_at_call 42; refine cS.mono ?_; rintro e w' ⟨v, ss, rfl, hS, hrow, hnil, hb⟩))
  go_ret
  have hm : ss.mergeSort leI = (usedL f N).map fun (i : Nat) => (i : Int) := HP.out ss hS
  change w'.ownsRow _ 3 1 v ss.length ((ss.mergeSort leI).map encZ) at hrow
  have hl : ss.length = (usedL f N).length := by
    have := congrArg List.length hm
    rw [List.length_mergeSort, List.length_map] at this
    exact this
  rw [hm, hl, List.map_map] at hrow
  refine ⟨v, rfl, ?_, ((Below.refl _ w).alloc (Nat.le_refl _) _).trans (hb.mono (by simp))⟩
  obtain ⟨_, ⟨rfl, h0⟩ | ⟨g, cap, cur, rfl, hg, hbk, h1, h2, _, h3⟩⟩ := hrow
  · exact .inl ⟨rfl, List.length_eq_zero_iff.1 h0⟩
  · refine .inr ⟨g, cap, cur.toList, rfl, Nat.le_trans (by simp) hg, ?_, ?_, h1, h2⟩
    · unfold Blk
      rw [Array.toArray_toList]
      exact hbk
    · rw [Nat.mul_one] at h3
      rw [h3]
      rfl
end Go.Proofs.YtkmkblhmjeeaeaaGreatDoor
end

/-
  The document's table and the nodes, plainly: what the law's tells goes by. Plain lists; no condition.
-/

section
set_option linter.unusedSimpArgs false
set_option linter.unusedVariables false
set_option maxRecDepth 100000
namespace Go.Proofs.YtkmkblhmjeeaeaaGreatDoor
open Go.RowKit Go.Maps

/-- The document's table tells the nodes: what is there, the stats, the bytes. -/
structure DocIs (A : Nat → Prop) (w : World) (ts : List (Nv × Bool)) (f : Tab) : Prop where
  is : ∀ (i : Nat) x b, ts[i]? = some (x, b) → b = (f i).isSome
  node : ∀ (i : Nat) x b h, ts[i]? = some (x, b) → f i = some h → x.k = h.k ∧ x.m = h.m ∧ x.o = h.o ∧ x.g = h.g ∧ Bts A w (.slice x.A x.n x.c) h.data
theorem DocIs.below {A : Nat → Prop} {w w' : World} {ts : List (Nv × Bool)} {f : Tab} (h : DocIs A w ts f) (hb : Below w.heap.size w w') : DocIs A w' ts f :=
  ⟨h.is, fun i x b hd hx hf => by
    obtain ⟨h1, h2, h3, h4, h5⟩ := h.node i x b hd hx hf
    exact ⟨h1, h2, h3, h4, h5.below hb⟩⟩
theorem usedL_succ (f : Tab) (N : Nat) : usedL f (N + 1) = usedL f N ++ if (f N).isSome then [N] else [] := by
  unfold usedL
  rw [List.range_succ, List.filter_append]
  congr 1
  cases h : (f N).isSome <;> simp [h]
theorem usedL_prefix (f : Tab) {i N : Nat} (h : i ≤ N) : ∃ r, usedL f N = usedL f i ++ r := by
  induction N with
  | zero => exact ⟨[], by rw [show i = 0 by omega, List.append_nil]⟩
  | succ N ih =>
    rcases Nat.lt_or_ge N i with h1 | h1
    · exact ⟨[], by rw [show i = N + 1 by omega, List.append_nil]⟩
    · obtain ⟨r, hr⟩ := ih h1
      rw [usedL_succ, hr, List.append_assoc]
      exact ⟨_, rfl⟩
/-- The node whose turn it is, in the list of those that aren't free. -/
theorem usedL_at {f : Tab} {i N : Nat} {h : Hd} (hi : i < N) (hf : f i = some h) : (usedL f N)[(usedL f i).length]? = some i := by
  obtain ⟨r, hr⟩ := usedL_prefix f (show i + 1 ≤ N from hi)
  rw [hr, usedL_succ, hf]
  simp
theorem usedB_take_succ {ts : List (Nv × Bool)} {i : Nat} {x : Nv} {b : Bool} (hx : ts[i]? = some (x, b)) : usedB (ts.take (i + 1)) = usedB (ts.take i) + if b = true then blks x.n else 0 := by
  rw [List.take_add_one, hx, usedB_append]
  simp [usedB]
theorem usedB_take {A : Nat → Prop} {w : World} {ts : List (Nv × Bool)} {f : Tab} (hd : DocIs A w ts f) : ∀ i, i ≤ ts.length → usedB (ts.take i) = usedN f i
  | 0, _ => by simp [usedB, usedN]
  | i + 1, h => by
    have hx : ts[i]? = some (ts[i].1, ts[i].2) := List.getElem?_eq_getElem (by omega)
    rw [usedB_take_succ hx, usedB_take hd i (by omega), usedN]
    have h1 := hd.is i _ _ hx
    cases hf : f i with
    | none => rw [hf] at h1; rw [h1]; simp
    | some y =>
      rw [hf] at h1
      have h2 := (hd.node i _ _ y hx hf).2.2.2.2.cells.1
      rw [h1, if_pos (by rfl), ← h2]
theorem usedB_all {A : Nat → Prop} {w : World} {ts : List (Nv × Bool)} {f : Tab} (hd : DocIs A w ts f) : usedB ts = usedN f ts.length := by
  have := usedB_take hd ts.length (Nat.le_refl _)
  rwa [List.take_length] at this
/-- The lowest of the first i that is free, or -1. -/
def lowN (f : Tab) : Nat → Int
  | 0 => -1
  | i + 1 => if lowN f i < 0 then (if (f i).isSome then -1 else (i : Int)) else lowN f i
theorem lowN_cases (f : Tab) : ∀ i, (lowN f i = -1 ∧ ∀ j, j < i → f j ≠ none) ∨ ∃ l : Nat, lowN f i = (l : Int) ∧ l < i ∧ f l = none ∧ ∀ j, j < l → f j ≠ none
  | 0 => .inl ⟨rfl, fun j hj => by omega⟩
  | i + 1 => by
    rcases lowN_cases f i with ⟨h1, h2⟩ | ⟨l, h1, h2, h3, h4⟩
    · unfold lowN
      rw [if_pos (by omega)]
      cases hf : f i with
      | none => exact .inr ⟨i, by simp, by omega, hf, h2⟩
      | some y =>
        refine .inl ⟨by simp, fun j hj => ?_⟩
        rcases Nat.lt_or_ge j i with h | h
        · exact h2 j h
        · rw [show j = i by omega, hf]
          exact fun h => by cases h
    · refine .inr ⟨l, ?_, by omega, h3, h4⟩
      unfold lowN
      rw [if_neg (by omega), h1]
end Go.Proofs.YtkmkblhmjeeaeaaGreatDoor
end

/-
  The document's table of five nodes that aren't there, as the law's fresh leaves it. No condition.
-/

section
set_option linter.unusedSimpArgs false
set_option linter.unusedVariables false
set_option maxRecDepth 100000
namespace Go.Proofs.YtkmkblhmjeeaeaaGreatDoor
open Go.RowKit Go.Maps

/-- No node, as it lies. -/
def nv0 : Nv := ⟨0, 0, 0, 0, none, 0, 0⟩
def ts0 : List (Nv × Bool) := [(nv0, false), (nv0, false), (nv0, false), (nv0, false), (nv0, false)]
theorem ts0_at {i : Nat} {x : Nv} {b : Bool} (h : ts0[i]? = some (x, b)) : i < 5 ∧ x = nv0 ∧ b = false := by
  match i, h with
  | 0, h => simp [ts0] at h; exact ⟨by omega, h.1.symm, h.2⟩
  | 1, h => simp [ts0] at h; exact ⟨by omega, h.1.symm, h.2⟩
  | 2, h => simp [ts0] at h; exact ⟨by omega, h.1.symm, h.2⟩
  | 3, h => simp [ts0] at h; exact ⟨by omega, h.1.symm, h.2⟩
  | 4, h => simp [ts0] at h; exact ⟨by omega, h.1.symm, h.2⟩
  | i + 5, h => simp [ts0] at h
theorem Doc5.tb {b0 p : Nat} {w : World} (h : Doc5 b0 p w) : TbIn w p ts0 20 := by
  obtain ⟨gN, gI, h1, h2, h3, h4, h5, h6⟩ := h
  refine ⟨by decide, fun x hx => ?_, by omega, some ⟨gN, 0, none⟩, some ⟨gI, 0, none⟩, 5, 5, h4, fun _ => ⟨gN, 0, gI, 0, rfl, rfl, h5.lt, h6.lt, fun i x b hx => ?_⟩⟩
  · obtain ⟨i, hi⟩ := List.getElem?_of_mem hx
    obtain ⟨y, c⟩ := x
    obtain ⟨_, rfl, _⟩ := ts0_at hi
    show (0 : Nat) ≤ _
    omega
  · obtain ⟨hi, rfl, rfl⟩ := ts0_at hx
    match i, hi with
    | 0, _ => exact ⟨⟨h5.cell 0, h5.cell 1, h5.cell 2, h5.cell 3, h5.cell 4⟩, h6.cell 0⟩
    | 1, _ => exact ⟨⟨h5.cell 5, h5.cell 6, h5.cell 7, h5.cell 8, h5.cell 9⟩, h6.cell 1⟩
    | 2, _ => exact ⟨⟨h5.cell 10, h5.cell 11, h5.cell 12, h5.cell 13, h5.cell 14⟩, h6.cell 2⟩
    | 3, _ => exact ⟨⟨h5.cell 15, h5.cell 16, h5.cell 17, h5.cell 18, h5.cell 19⟩, h6.cell 3⟩
    | 4, _ => exact ⟨⟨h5.cell 20, h5.cell 21, h5.cell 22, h5.cell 23, h5.cell 24⟩, h6.cell 4⟩
    | i + 5, h => omega
theorem doc0 (A : Nat → Prop) (w : World) : DocIs A w ts0 (fun _ => none) :=
  ⟨fun i x b h => (ts0_at h).2.2, fun i x b h _ hf => by cases hf⟩
end Go.Proofs.YtkmkblhmjeeaeaaGreatDoor
end

/-
  The document's table in blocks that are known by a word: what of it outlives what. Plain theorems on worlds; no condition.
-/

section
set_option linter.unusedSimpArgs false
set_option linter.unusedVariables false
set_option maxRecDepth 100000
namespace Go.Proofs.YtkmkblhmjeeaeaaGreatDoor
open Go.RowKit Go.Maps

/-- The cells of a document's node. -/
def nvC (x : Nv) : List Value := [.int .i64 x.k, .int .i64 x.m, .int .i64 x.o, .int .i64 x.g, .slice x.A x.n x.c]
/-- A row of the document's nodes. -/
def rowN : List (Nv × Bool) → List Value
  | [] => []
  | x :: r => nvC x.1 ++ rowN r
def rowI (ts : List (Nv × Bool)) : List Value := ts.map fun x => .bool x.2
theorem rowN_length : ∀ ts : List (Nv × Bool), (rowN ts).length = ts.length * 5
  | [] => rfl
  | x :: r => by
    have := rowN_length r
    show (nvC x.1 ++ rowN r).length = _
    rw [List.length_append, this, List.length_cons]
    show 5 + _ = _
    omega
theorem rowN_at : ∀ {ts : List (Nv × Bool)} {i : Nat} {x : Nv} {b : Bool} {k : Nat}, ts[i]? = some (x, b) → k < 5 → (rowN ts)[i * 5 + k]? = (nvC x)[k]?
  | [], i, x, b, k, h, _ => by simp at h
  | y :: r, 0, x, b, k, h, hk => by
    simp only [List.getElem?_cons_zero, Option.some.injEq] at h
    subst h
    show (nvC x ++ rowN r)[0 * 5 + k]? = _
    rw [List.getElem?_append_left (by show _ < 5; omega)]
    congr 1
    omega
  | y :: r, i + 1, x, b, k, h, hk => by
    rw [List.getElem?_cons_succ] at h
    show (nvC y.1 ++ rowN r)[(i + 1) * 5 + k]? = _
    rw [List.getElem?_append_right (by show 5 ≤ _; omega)]
    rw [show (i + 1) * 5 + k - (nvC y.1).length = i * 5 + k by show _ - 5 = _; omega]
    exact rowN_at h hk
theorem rowI_at {ts : List (Nv × Bool)} {i : Nat} {x : Nv} {b : Bool} (h : ts[i]? = some (x, b)) : (rowI ts)[i]? = some (.bool b) := by
  unfold rowI
  rw [List.getElem?_map, h]
  rfl
theorem rowN_set : ∀ {ts : List (Nv × Bool)} {i : Nat} (x : Nv) (b : Bool), i < ts.length → rowN (ts.set i (x, b)) = over (rowN ts) (i * 5) (nvC x)
  | [], i, _, _, h => absurd h (Nat.not_lt_zero _)
  | y :: r, 0, x, b, h => by
    show nvC x ++ rowN r = over (nvC y.1 ++ rowN r) (0 * 5) (nvC x)
    unfold over
    rw [Nat.zero_mul, List.take_zero, List.nil_append]
    rw [show (0 + (nvC x).length) = (nvC y.1).length from rfl, List.drop_left]
  | y :: r, i + 1, x, b, h => by
    have h := Nat.lt_of_succ_lt_succ h
    show nvC y.1 ++ rowN (r.set i (x, b)) = over (nvC y.1 ++ rowN r) ((i + 1) * 5) (nvC x)
    rw [rowN_set x b h]
    unfold over
    have hl : (nvC y.1).length = 5 := rfl
    have hx : (nvC x).length = 5 := rfl
    rw [show (i + 1) * 5 = (nvC y.1).length + i * 5 by rw [hl]; omega, List.take_length_add_append, Nat.add_assoc, List.drop_length_add_append, List.append_assoc, List.append_assoc, List.append_assoc]
theorem rowI_set {ts : List (Nv × Bool)} (i : Nat) (x : Nv) (b : Bool) : rowI (ts.set i (x, b)) = (rowI ts).set i (.bool b) := by
  unfold rowI
  rw [List.map_set]
theorem rowN_is {ts : List (Nv × Bool)} {i : Nat} {x : Nv} {b c : Bool} (h : ts[i]? = some (x, b)) : rowN (ts.set i (x, c)) = rowN ts := by
  induction ts generalizing i with
  | nil => rfl
  | cons y r ih =>
    cases i with
    | zero =>
      simp only [List.getElem?_cons_zero, Option.some.injEq] at h
      subst h
      rfl
    | succ i =>
      rw [List.getElem?_cons_succ] at h
      show nvC y.1 ++ rowN (r.set i (x, c)) = _
      rw [ih h]
      rfl
/-- The document's table of some nodes, all of it in blocks that A allows; what its rows have behind the nodes isn't said. -/
structure TbO (A : Nat → Prop) (w : World) (p gN gI : Nat) (cN cI : Nat) (eN eI : List Value) (ts : List (Nv × Bool)) (bl : Int) : Prop where
  pA : A p
  nA : A gN
  iA : A gI
  blk : Blk w p 71 [.slice (some ⟨gN, 0, none⟩) ts.length cN, .slice (some ⟨gI, 0, none⟩) ts.length cI, .int .i64 bl]
  rN : Blk w gN 53 (rowN ts ++ eN)
  rI : Blk w gI 4 (rowI ts ++ eI)
section
variable {A : Nat → Prop} {w w' : World} {p gN gI cN cI : Nat} {eN eI : List Value} {ts : List (Nv × Bool)} {bl : Int}
theorem TbO.below (h : TbO A w p gN gI cN cI eN eI ts bl) (hb : Below w.heap.size w w') : TbO A w' p gN gI cN cI eN eI ts bl :=
  ⟨h.pA, h.nA, h.iA, h.blk.below hb h.blk.lt, h.rN.below hb h.rN.lt, h.rI.below hb h.rI.lt⟩
theorem TbO.mono {A' : Nat → Prop} (h : TbO A w p gN gI cN cI eN eI ts bl) (hA : ∀ g, A g → g < w.heap.size → A' g) : TbO A' w p gN gI cN cI eN eI ts bl :=
  ⟨hA _ h.pA h.blk.lt, hA _ h.nA h.rN.lt, hA _ h.iA h.rI.lt, h.blk, h.rN, h.rI⟩
theorem TbO.stp {B : Nat} {X : List Nat} (h : TbO A w p gN gI cN cI eN eI ts bl) (hs : Stp B X w w') (hX : ∀ g, A g → g ∉ X) : TbO A w' p gN gI cN cI eN eI ts bl :=
  ⟨h.pA, h.nA, h.iA, hs.keep _ _ _ (by decide) (hX _ h.pA) h.blk, hs.keep _ _ _ (by decide) (hX _ h.nA) h.rN, hs.keep _ _ _ (by decide) (hX _ h.iA) h.rI⟩
theorem TbO.far {q : Addr} (h : TbO A w p gN gI cN cI eN eI ts bl) (hq : ¬ A q.block) (u : Value) : TbO A (w.setCell q u) p gN gI cN cI eN eI ts bl :=
  ⟨h.pA, h.nA, h.iA, h.blk.far (fun e => hq (e ▸ h.pA)) u, h.rN.far (fun e => hq (e ▸ h.nA)) u, h.rI.far (fun e => hq (e ▸ h.iA)) u⟩
theorem TbO.ne (h : TbO A w p gN gI cN cI eN eI ts bl) : p ≠ gN ∧ p ≠ gI ∧ gN ≠ gI :=
  ⟨h.blk.ne_ h.rN (by decide), h.blk.ne_ h.rI (by decide), h.rN.ne_ h.rI (by decide)⟩
theorem TbO.to_in (h : TbO A w p gN gI cN cI eN eI ts bl) (h1 : ts.length ≤ 1000) (h2 : ∀ x ∈ ts, x.1.n ≤ 1073741824) (h3 : 0 ≤ bl ∧ bl ≤ 1000000000000) : TbIn w p ts bl := by
  refine ⟨h1, h2, h3, _, _, cN, cI, h.blk, fun _ => ⟨gN, 0, gI, 0, rfl, rfl, h.rN.lt, h.rI.lt, fun i x b hx => ?_⟩⟩
  have hi := (List.getElem?_eq_some_iff.1 hx).1
  have hc : ∀ k, k < 5 → w.cell? ⟨gN, 0 + i * 5 + k, none⟩ = (nvC x)[k]? := fun k hk => by
    rw [h.rN.cell, List.getElem?_append_left (by rw [rowN_length]; omega), Nat.zero_add, rowN_at hx hk]
  refine ⟨⟨hc 0 (by omega), hc 1 (by omega), hc 2 (by omega), hc 3 (by omega), hc 4 (by omega)⟩, ?_⟩
  rw [h.rI.cell, Nat.zero_add, List.getElem?_append_left (by unfold rowI; rw [List.length_map]; exact hi), rowI_at hx]
/-- A node is there, or isn't, from now on. -/
theorem TbO.set_is (h : TbO A w p gN gI cN cI eN eI ts bl) {i : Nat} {x : Nv} {b : Bool} (hx : ts[i]? = some (x, b)) (c : Bool) : TbO A (w.setCell ⟨gI, i, none⟩ (.bool c)) p gN gI cN cI eN eI (ts.set i (x, c)) bl := by
  obtain ⟨n1, n2, n3⟩ := h.ne
  have hi := (List.getElem?_eq_some_iff.1 hx).1
  refine ⟨h.pA, h.nA, h.iA, ?_, ?_, ?_⟩
  · rw [List.length_set]
    exact h.blk.far n2 _
  · rw [rowN_is hx]
    exact h.rN.far n3 _
  · have := h.rI.set_ i (.bool c)
    rw [List.set_append_left _ _ (by unfold rowI; rw [List.length_map]; exact hi)] at this
    rw [rowI_set]
    exact this
theorem over_left {cs es vs : List Value} {o : Nat} (h : o + vs.length ≤ cs.length) : over (cs ++ es) o vs = over cs o vs ++ es := by
  unfold over
  rw [List.take_append_of_le_length (by omega), List.drop_append_of_le_length h, List.append_assoc, List.append_assoc, List.append_assoc]
/-- A node is another one from now on. -/
theorem TbO.set_node (h : TbO A w p gN gI cN cI eN eI ts bl) {i : Nat} {x : Nv} {b : Bool} (hi : i < ts.length) (hb : (ts[i]?.map (·.2)) = some b) (hO : Only [gN] w w') (hW : Blk w' gN 53 (over (rowN ts ++ eN) (i * 5) (nvC x))) : TbO A w' p gN gI cN cI eN eI (ts.set i (x, b)) bl := by
  obtain ⟨n1, n2, n3⟩ := h.ne
  refine ⟨h.pA, h.nA, h.iA, ?_, ?_, ?_⟩
  · rw [List.length_set]
    exact h.blk.only hO (by simpa using n1)
  · rw [rowN_set x b hi, ← over_left (by rw [rowN_length]; show _ + 5 ≤ _; omega)]
    exact hW
  · have e : rowI (ts.set i (x, b)) = rowI ts := by
      unfold rowI
      rw [List.map_set]
      apply List.ext_getElem?
      intro j
      rw [List.getElem?_set]
      split
      · rename_i hij
        subst hij
        rw [List.length_map, if_pos hi, List.getElem?_map]
        cases hx : ts[i]? with
        | none => rw [hx] at hb; cases hb
        | some y => rw [hx] at hb; simp at hb; simp [hb]
      · rfl
    rw [e]
    exact h.rI.only hO (by simpa using Ne.symm n3)
end
section
variable {A : Nat → Prop} {w w' : World} {ts : List (Nv × Bool)} {f : Tab}
theorem DocIs.mono {A' : Nat → Prop} (h : DocIs A w ts f) (hA : ∀ g, A g → g < w.heap.size → A' g) : DocIs A' w ts f :=
  ⟨h.is, fun i x b hd hx hf => by
    obtain ⟨h1, h2, h3, h4, h5⟩ := h.node i x b hd hx hf
    exact ⟨h1, h2, h3, h4, h5.mono hA⟩⟩
theorem DocIs.stp {B : Nat} {X : List Nat} (h : DocIs A w ts f) (hs : Stp B X w w') (hX : ∀ g, A g → g ∉ X) : DocIs A w' ts f :=
  ⟨h.is, fun i x b hd hx hf => by
    obtain ⟨h1, h2, h3, h4, h5⟩ := h.node i x b hd hx hf
    exact ⟨h1, h2, h3, h4, h5.stp hs hX⟩⟩
theorem Bts.far {v : Value} {xs : List B8} {q : Addr} (h : Bts A w v xs) (hq : ¬ A q.block) (u : Value) : Bts A (w.setCell q u) v xs := by
  rcases h with h | ⟨g, o, cap, t, cs, e, hg, hn, hb, hx, h1, h2⟩
  · exact .inl h
  · exact .inr ⟨g, o, cap, t, cs, e, hg, hn, hb.far (fun e => hq (e ▸ hg)) u, hx, h1, h2⟩
theorem DocIs.far {q : Addr} (h : DocIs A w ts f) (hq : ¬ A q.block) (u : Value) : DocIs A (w.setCell q u) ts f :=
  ⟨h.is, fun i x b hd hx hf => by
    obtain ⟨h1, h2, h3, h4, h5⟩ := h.node i x b hd hx hf
    exact ⟨h1, h2, h3, h4, h5.far hq u⟩⟩
theorem DocIs.only {S : List Nat} (h : DocIs A w ts f) (hO : Only S w w') (hS : ∀ g, A g → g ∉ S) : DocIs A w' ts f :=
  ⟨h.is, fun i x b hd hx hf => by
    obtain ⟨h1, h2, h3, h4, h5⟩ := h.node i x b hd hx hf
    exact ⟨h1, h2, h3, h4, h5.only hO hS⟩⟩
theorem Bts.only_ne {v : Value} {xs : List B8} {g0 t0 : Nat} {cs0 : List Value} (h : Bts A w v xs) (hO : Only [g0] w w') (hb : Blk w g0 t0 cs0) (ht : ¬ BK t0) : Bts A w' v xs := by
  rcases h with h | ⟨g, o, cap, t, cs, e, hg, hn, hb', hx, h1, h2⟩
  · exact .inl h
  · refine .inr ⟨g, o, cap, t, cs, e, hg, hn, hb'.only hO ?_, hx, h1, h2⟩
    intro hm
    have e : g = g0 := by simpa using hm
    subst e
    exact ht ((hb'.same hb).1 ▸ hn)
theorem Bts.far_ne {v : Value} {xs : List B8} {g0 o0 t0 : Nat} {cs0 : List Value} (h : Bts A w v xs) (hb : Blk w g0 t0 cs0) (ht : ¬ BK t0) (u : Value) : Bts A (w.setCell ⟨g0, o0, none⟩ u) v xs := by
  rcases h with h | ⟨g, o, cap, t, cs, e, hg, hn, hb', hx, h1, h2⟩
  · exact .inl h
  · refine .inr ⟨g, o, cap, t, cs, e, hg, hn, hb'.far ?_ u, hx, h1, h2⟩
    intro e
    have e : g = g0 := e
    subst e
    exact ht ((hb'.same hb).1 ▸ hn)
theorem DocIs.only_ne {g0 t0 : Nat} {cs0 : List Value} (h : DocIs A w ts f) (hO : Only [g0] w w') (hb : Blk w g0 t0 cs0) (ht : ¬ BK t0) : DocIs A w' ts f :=
  ⟨h.is, fun i x b hd hx hf => by
    obtain ⟨h1, h2, h3, h4, h5⟩ := h.node i x b hd hx hf
    exact ⟨h1, h2, h3, h4, h5.only_ne hO hb ht⟩⟩
theorem DocIs.far_ne {g0 o0 t0 : Nat} {cs0 : List Value} (h : DocIs A w ts f) (hb : Blk w g0 t0 cs0) (ht : ¬ BK t0) (u : Value) : DocIs A (w.setCell ⟨g0, o0, none⟩ u) ts f :=
  ⟨h.is, fun i x b hd hx hf => by
    obtain ⟨h1, h2, h3, h4, h5⟩ := h.node i x b hd hx hf
    exact ⟨h1, h2, h3, h4, h5.far_ne hb ht u⟩⟩
theorem not_BK_node : ¬ BK 53 := fun h => by rcases h with h | h <;> exact absurd h (by decide)
theorem not_BK_bool : ¬ BK 4 := fun h => by rcases h with h | h <;> exact absurd h (by decide)
/-- A node isn't there any more. -/
theorem DocIs.drop (h : DocIs A w ts f) {i : Nat} {x : Nv} {b : Bool} (hx : ts[i]? = some (x, b)) : DocIs A w (ts.set i (x, false)) (tset f i none) := by
  have hi := (List.getElem?_eq_some_iff.1 hx).1
  refine ⟨fun j y c hj => ?_, fun j y c hd hj hf => ?_⟩
  · by_cases e : j = i
    · subst e
      rw [List.getElem?_set_self hi] at hj
      cases hj
      rw [tset_same]
      rfl
    · rw [List.getElem?_set_ne (Ne.symm e)] at hj
      rw [tset_ne _ e]
      exact h.is j y c hj
  · by_cases e : j = i
    · subst e
      rw [tset_same] at hf
      cases hf
    · rw [List.getElem?_set_ne (Ne.symm e)] at hj
      rw [tset_ne _ e] at hf
      exact h.node j y c hd hj hf
/-- A node is there from now on. -/
theorem DocIs.put (h : DocIs A w ts f) {i : Nat} (hi : i < ts.length) {x : Nv} {hd : Hd} (hk : x.k = hd.k ∧ x.m = hd.m ∧ x.o = hd.o ∧ x.g = hd.g) (hB : Bts A w (.slice x.A x.n x.c) hd.data) : DocIs A w (ts.set i (x, true)) (tset f i (some hd)) := by
  refine ⟨fun j y c hj => ?_, fun j y c hd' hj hf => ?_⟩
  · by_cases e : j = i
    · subst e
      rw [List.getElem?_set_self hi] at hj
      cases hj
      rw [tset_same]
      rfl
    · rw [List.getElem?_set_ne (Ne.symm e)] at hj
      rw [tset_ne _ e]
      exact h.is j y c hj
  · by_cases e : j = i
    · subst e
      rw [List.getElem?_set_self hi] at hj
      rw [tset_same] at hf
      cases hj
      cases hf
      exact ⟨hk.1, hk.2.1, hk.2.2.1, hk.2.2.2, hB⟩
    · rw [List.getElem?_set_ne (Ne.symm e)] at hj
      rw [tset_ne _ e] at hf
      exact h.node j y c hd' hj hf
end
theorem ts0_row : rowN ts0 = five0 ∧ rowI ts0 = no5 := ⟨rfl, rfl⟩
theorem Doc5.tbo {b0 p : Nat} {w : World} (h : Doc5 b0 p w) : ∃ gN gI, TbO (fun q => b0 ≤ q) w p gN gI 5 5 [] [] ts0 20 := by
  obtain ⟨gN, gI, h1, h2, h3, h4, h5, h6⟩ := h
  refine ⟨gN, gI, h1, h2, h3, h4, ?_, ?_⟩
  · rw [List.append_nil, ts0_row.1]
    exact h5
  · rw [List.append_nil, ts0_row.2]
    exact h6
end Go.Proofs.YtkmkblhmjeeaeaaGreatDoor
end

/-
  The law's tells: a table tells the document's. Conditions: both lie in memory, and have the same nodes.
-/

section
set_option linter.unusedSimpArgs false
set_option linter.unusedVariables false
set_option maxRecDepth 100000
namespace Go.Proofs.YtkmkblhmjeeaeaaGreatDoor
open Go.RowKit Go.Maps

set_option maxRecDepth 100000 in
set_option maxHeartbeats 8000000 in
theorem tells_walk {ks : List B32} {B D L G n j N K : Nat} {S : Nat → List B8} {c t M cm : Nat} {A : Nat → Prop} {f : Tab} {w : World} (hT : Tb ks B D L G n j N K S c A t M cm f w) (hcm : cm ≤ 100000) {p : Nat} {ts : List (Nv × Bool)} (hD : TbIn w p ts (K : Int)) (hL : ts.length = N) (hd : DocIs A w ts f) :
    Calls Tryz.prog 10 #[.pointer (some ⟨t, 0, none⟩), .pointer (some ⟨p, 0, none⟩)] w fun e w' => e = .returned (.bool true) ∧ Below w.heap.size w w' := by
  have hN1 := hT.geo.N1
  have hub := usedB_all hd
  rw [hL] at hub
  obtain ⟨PN, PI, cN, cI, hk, hc⟩ := hD.blk
  rw [hL] at hk hc
  have y0 : w.cell? ⟨p, 0, none⟩ = some (.slice PN N cN) := hk.cell 0
  have y1 : w.cell? ⟨p, 1, none⟩ = some (.slice PI N cI) := hk.cell 1
  have HRR : ∀ wx, Below w.heap.size w wx → Calls Tryz.prog 25 #[.pointer (some ⟨p, 0, none⟩)] wx fun e w' => e = .returned (.int .i64 ((K : Int) - (usedN f N : Int))) ∧ wx = w' := fun wx hb => by
    have := rroom_any wx p ts K (hD.below hb)
    rw [hub] at this
    exact this
  have HY := Lib.hid (And.intro y0 y1)
  have HT := Lib.hid (And.intro hT (And.intro hc (And.intro hd (And.intro hL hcm))))
  have HRH := Lib.hid HRR
  clear hT hc hd hk hub hD HRR
  go_enter Tryz.func10, Tryz.ntmps10
  go_wp2_with fail
  refine wp_hideQ ?_
  intro QQ hQQ
  refine wp_region_quick [some 13, some 14, some 15, some 16, some 17, some 18, some 19, some 20, some 21, some 22, some 23, some 24, some 25, some 26, some 27] [isV (.pointer (some ⟨t, 0, none⟩)), isV (.int .i64 (N : Int)), isV (.pointer (some ⟨p, 0, none⟩)), isV (.pointer (some ⟨p, 0, none⟩)), isV (.pointer (some ⟨p, 0, none⟩)), isV (.slice PN N cN), isV (.int .i64 (N : Int)), isV (.bool false), isV (.bool false), isV (.pointer (some ⟨t, 0, none⟩)), isV (.int .i64 ((K : Int) - (usedN f N : Int))), isV (.pointer (some ⟨p, 0, none⟩)), isV (.int .i64 ((K : Int) - (usedN f N : Int))), isV (.bool false), isV (.bool false)] 15 (by kernel_rfl) rfl rfl rfl (by kernel_rfl) (by simp [isV.st]) ?_ ?_
  · intro hq i hi
    match i, hi with
    | 0, _ =>
      refine StepL.val rfl [] (by decide +kernel) ?_
      intro v wx hR hd
      exact ⟨wanted_plain rfl _, _, _, x_move rfl (fill_off rfl rfl), hR, Below.refl _ _, rfl⟩
    | 1, _ =>
      refine StepL.call rfl [0] (by decide +kernel) ?_
      intro v wx hR hd
      have h0 : v 0 = _ := hd 0 (by simp)
      refine ⟨wanted_plain rfl _, 17, _, _, x_call rfl rfl (args_1 (hq.at_ rfl h0)) (by kernel_rfl) rfl, ?_⟩
      refine (tnodes_any (HT.out.1.below hR).blk).mono ?_
      rintro e w' ⟨rfl, rfl⟩
      exact ⟨_, rfl, hR, Below.refl _ _, rfl⟩
    | 2, _ =>
      refine StepL.val rfl [] (by decide +kernel) ?_
      intro v wx hR hd
      exact ⟨wanted_plain rfl _, _, _, x_move rfl (fill_off rfl rfl), hR, Below.refl _ _, rfl⟩
    | 3, _ =>
      refine StepL.val rfl [2] (by decide +kernel) ?_
      intro v wx hR hd
      have h2 : v 2 = _ := hd 2 (by simp)
      exact ⟨wanted_plain rfl _, _, _, x_nil rfl (hq.at_ rfl h2), hR, Below.refl _ _, rfl⟩
    | 4, _ =>
      refine StepL.val rfl [3] (by decide +kernel) ?_
      intro v wx hR hd
      have h3 : v 3 = _ := hd 3 (by simp)
      exact ⟨wanted_plain rfl _, _, _, x_field rfl (hq.at_ rfl h3) (r_field (off := 0) (by kernel_rfl)), hR, Below.refl _ _, rfl⟩
    | 5, _ =>
      refine StepL.val rfl [4] (by decide +kernel) ?_
      intro v wx hR hd
      have h4 : v 4 = _ := hd 4 (by simp)
      exact ⟨wanted_plain rfl _, _, _, x_load rfl (hq.at_ rfl h4) (r_load (by kernel_rfl) (cell_below y0 hR)), hR, Below.refl _ _, rfl⟩
    | 6, _ =>
      refine StepL.val rfl [5] (by decide +kernel) ?_
      intro v wx hR hd
      have h5 : v 5 = _ := hd 5 (by simp)
      exact ⟨wanted_plain rfl _, _, _, x_len rfl rfl rfl rfl (by kernel_rfl) (hq.at_ rfl h5), hR, Below.refl _ _, rfl⟩
    | 7, _ =>
      refine StepL.val rfl [1, 6] (by decide +kernel) ?_
      intro v wx hR hd
      have h1 : v 1 = _ := hd 1 (by simp)
      have h6 : v 6 = _ := hd 6 (by simp)
      exact ⟨wanted_plain rfl _, _, _, x_bin rfl (hq.at_ rfl h1) (hq.at_ rfl h6) (r_neq (by simp)), hR, Below.refl _ _, rfl⟩
    | 8, _ =>
      refine StepL.val rfl [7] (by decide +kernel) ?_
      intro v wx hR hd
      have h7 : v 7 = _ := hd 7 (by simp)
      exact ⟨wanted_plain rfl _, _, _, x_move rfl (hq.at_ rfl h7), hR, Below.refl _ _, rfl⟩
    | 9, _ =>
      refine StepL.val rfl [8] (by decide +kernel) ?_
      intro v wx hR hd
      have h8 : v 8 = _ := hd 8 (by simp)
      exact ⟨hq.yes rfl rfl rfl h8, _, _, x_move rfl (fill_off rfl rfl), hR, Below.refl _ _, rfl⟩
    | 10, _ =>
      refine StepL.call rfl [8, 9] (by decide +kernel) ?_
      intro v wx hR hd
      have h8 : v 8 = _ := hd 8 (by simp)
      have h9 : v 9 = _ := hd 9 (by simp)
      refine ⟨hq.yes rfl rfl rfl h8, 19, _, _, x_call rfl rfl (args_1 (hq.at_ rfl h9)) (by kernel_rfl) rfl, ?_⟩
      refine (troom_any (HT.out.1.below hR)).mono ?_
      rintro e w' ⟨rfl, hW⟩
      exact ⟨_, rfl, hR.trans (hW.mono hR.size), hW, rfl⟩
    | 11, _ =>
      refine StepL.val rfl [8] (by decide +kernel) ?_
      intro v wx hR hd
      have h8 : v 8 = _ := hd 8 (by simp)
      exact ⟨hq.yes rfl rfl rfl h8, _, _, x_move rfl (fill_off rfl rfl), hR, Below.refl _ _, rfl⟩
    | 12, _ =>
      refine StepL.call rfl [8, 11] (by decide +kernel) ?_
      intro v wx hR hd
      have h8 : v 8 = _ := hd 8 (by simp)
      have h11 : v 11 = _ := hd 11 (by simp)
      refine ⟨hq.yes rfl rfl rfl h8, 25, _, _, x_call rfl rfl (args_1 (hq.at_ rfl h11)) (by kernel_rfl) rfl, ?_⟩
      refine (HRH.out wx hR).mono ?_
      rintro e w' ⟨rfl, rfl⟩
      exact ⟨_, rfl, hR, Below.refl _ _, rfl⟩
    | 13, _ =>
      refine StepL.val rfl [8, 10, 12] (by decide +kernel) ?_
      intro v wx hR hd
      have h8 : v 8 = _ := hd 8 (by simp)
      have h10 : v 10 = _ := hd 10 (by simp)
      have h12 : v 12 = _ := hd 12 (by simp)
      exact ⟨hq.yes rfl rfl rfl h8, _, _, x_bin rfl (hq.at_ rfl h10) (hq.at_ rfl h12) (r_neq (by simp)), hR, Below.refl _ _, rfl⟩
    | 14, _ =>
      refine StepL.val rfl [8, 13] (by decide +kernel) ?_
      intro v wx hR hd
      have h8 : v 8 = _ := hd 8 (by simp)
      have h13 : v 13 = _ := hd 13 (by simp)
      exact ⟨wanted_plain rfl _, _, _, x_pick_no rfl (hq.at_ rfl h8) (hq.at_ rfl h13), hR, Below.refl _ _, rfl⟩
    | i + 15, h => omega
  · intro v wx hR hV
    have h14 : v 14 = _ := hV 14 (by omega)
    have HV := Lib.hid hR
    have y0 := cell_below y0 hR
    have y1 := cell_below y1 hR
    have hsx := hR.size
    clear hV hR
    simp only [fillR, Act.put, List.setIfInBounds_toArray, List.set_cons_zero, List.set_cons_succ, h14]
    go_wp2_with (first
      | (go_at_call 18; refine (tused_any (HT.out.1.tab.below HV.out) HT.out.1.wf (by omega) HT.out.2.2.2.2 (HT.out.1.blk.below HV.out HT.out.1.blk.lt)).mono ?_; rintro e w5 ⟨vu, rfl, hNs, hW⟩; obtain ⟨PU, cU, rfl, hu1, hu2⟩ := hNs.form; have z0 := cell_below y0 hW; have z1 := cell_below y1 hW; have H5 := Lib.hid (And.intro (hNs.mono (A' := fun q => w.heap.size ≤ q) (fun g hg _ => Nat.le_trans hsx hg)) (below_of HV.out hW)); clear hNs hW y0 y1)
      | go_in)
    go_loopw [6, 7, 8] (fun kv lv iv wr => ∃ i : Nat, i ≤ N ∧ iv = .int .i64 i ∧ kv = .int .i64 ((usedL f i).length : Nat) ∧ lv = .int .i64 (lowN f i) ∧ Below w5.heap.size w5 wr) (fun _ _ iv _ => N - (intOf iv).toNat)
    case atStart => exact ⟨0, Nat.zero_le _, rfl, rfl, rfl, Below.refl _ _⟩
    case round =>
      obtain ⟨i, hi, rfl, rfl, rfl, hbel⟩ := hrel
      clear z0 z1
      have hbw := H5.out.2.trans (hbel.mono H5.out.2.size)
      have z0 := cell_below HY.out.1 hbw
      have z1 := cell_below HY.out.2 hbw
      have HB := Lib.hid (And.intro hbel hbw)
      have hsr := hbw.size
      clear hbel hbw
      have hul := usedL_le f i
      obtain ⟨lo, hlo⟩ : ∃ lo, lowN f i = lo := ⟨_, rfl⟩
      have HLO := Lib.hid hlo
      rw [hlo]
      have hlo1 : lo = -1 ∨ ∃ l : Nat, lo = (l : Int) ∧ l < i := by
        rcases lowN_cases f i with ⟨h1, _⟩ | ⟨l, h1, h2, _⟩
        · exact .inl (by omega)
        · exact .inr ⟨l, by omega, h2⟩
      obtain ⟨ku, hku⟩ : ∃ ku, (usedL f i).length = ku := ⟨_, rfl⟩
      have HKU := Lib.hid hku
      rw [hku] at hul ⊢
      clear hlo hku
      by_cases hlt : i < N
      · obtain ⟨gN, oN, gI, oI, rfl, rfl, hgN, hgI, hcc⟩ := HT.out.2.1 (by omega)
        obtain ⟨⟨x, b⟩, hx⟩ : ∃ x, ts[i]? = some x := ⟨_, List.getElem?_eq_getElem (by omega)⟩
        obtain ⟨⟨n0, n1, n2, n3, n4⟩, ci⟩ := hcc i x b hx
        have hib := HT.out.2.2.1.is i x b hx
        have HX := Lib.hid hx
        clear hcc hx
        have ci := cell_below ci HB.out.2
        cases hf : f i with
        | none =>
          rw [hf] at hib
          obtain rfl : b = false := hib
          have HF := Lib.hid hf
          clear n0 n1 n2 n3 n4 hf
          go_wp2_with (first
            | (go_at_call 14; refine (get_no (HT.out.1.tab.below HB.out.2) (HT.out.1.blk.below HB.out.2 HT.out.1.blk.lt) (i : Int) (by omega) (by omega) (fun j hj => by rw [show j = i by omega]; exact HF.out)).mono ?_; rintro e w6 ⟨rfl, hW⟩; have z0 := cell_below z0 hW; have z1 := cell_below z1 hW; have ci := cell_below ci hW; have H6 := Lib.hid hW; clear hW)
            | go_in)
          have hb7 := new_below w6 (.cells #[.int .i64 0, .int .i64 0, .int .i64 0, .int .i64 0, .slice none 0 0] 42)
          have z0 := cell_below z0 hb7
          have z1 := cell_below z1 hb7
          have ci := cell_below ci hb7
          have H7 := Lib.hid (below_of H6.out hb7)
          obtain ⟨w7, hw7⟩ : ∃ w7, w6.alloc (.cells #[.int .i64 0, .int .i64 0, .int .i64 0, .int .i64 0, .slice none 0 0] 42) = w7 := ⟨_, rfl⟩
          rw [hw7] at z0 z1 ci H7 ⊢
          clear hw7 hb7
          refine wp_hideQ ?_
          intro QQ hQQ
          refine wp_region_quick [some 45, some 46, some 47, some 48, some 49, some 50, some 51, some 52, some 53, some 54, some 55, some 56, some 57, some 58, some 59, some 60, some 61, some 62, some 63, some 64, some 65, some 66, some 67, some 68, some 69, some 70, some 71, some 72, some 73, some 74, some 75, some 76] [isV (.pointer (some ⟨p, 0, none⟩)), isV (.pointer (some ⟨p, 0, none⟩)), isV (.pointer (some ⟨p, 1, none⟩)), isV (.slice (some ⟨gI, oI, none⟩) N cI), isV (.int .i64 (i : Int)), isV (.pointer (some ⟨gI, oI + i, none⟩)), isV (.bool false), isV (.int .i64 7), isV (.bool false), isV (.bool false), isV (.bool false), isV (.pointer (some ⟨p, 0, none⟩)), isV (.pointer (some ⟨p, 0, none⟩)), isV (.pointer (some ⟨p, 1, none⟩)), isV (.slice (some ⟨gI, oI, none⟩) N cI), isV (.int .i64 (i : Int)), isV (.pointer (some ⟨gI, oI + i, none⟩)), isV (.bool false), isV (.bool false), isV (undef), isV (undef), isV (undef), isV (undef), isV (undef), isV (undef), isV (undef), isV (undef), isV (undef), isV (undef), isV (undef), isV (.bool false), isV (.bool false)] 32 (by kernel_rfl) rfl rfl rfl (by kernel_rfl) (by simp [isV.st]) ?_ ?_
          · intro hq i hi
            match i, hi with
            | 0, _ =>
              refine StepL.val rfl [] (by decide +kernel) ?_
              intro v wx hR hd
              exact ⟨wanted_plain rfl _, _, _, x_move rfl (fill_off rfl rfl), hR, Below.refl _ _, rfl⟩
            | 1, _ =>
              refine StepL.val rfl [0] (by decide +kernel) ?_
              intro v wx hR hd
              have h0 : v 0 = _ := hd 0 (by simp)
              exact ⟨wanted_plain rfl _, _, _, x_nil rfl (hq.at_ rfl h0), hR, Below.refl _ _, rfl⟩
            | 2, _ =>
              refine StepL.val rfl [1] (by decide +kernel) ?_
              intro v wx hR hd
              have h1 : v 1 = _ := hd 1 (by simp)
              exact ⟨wanted_plain rfl _, _, _, x_field rfl (hq.at_ rfl h1) (r_field (off := 1) (by kernel_rfl)), hR, Below.refl _ _, rfl⟩
            | 3, _ =>
              refine StepL.val rfl [2] (by decide +kernel) ?_
              intro v wx hR hd
              have h2 : v 2 = _ := hd 2 (by simp)
              exact ⟨wanted_plain rfl _, _, _, x_load rfl (hq.at_ rfl h2) (r_load (by kernel_rfl) (cell_below z1 hR)), hR, Below.refl _ _, rfl⟩
            | 4, _ =>
              refine StepL.val rfl [] (by decide +kernel) ?_
              intro v wx hR hd
              exact ⟨wanted_plain rfl _, _, _, x_move rfl (fill_off rfl rfl), hR, Below.refl _ _, rfl⟩
            | 5, _ =>
              refine StepL.val rfl [3, 4] (by decide +kernel) ?_
              intro v wx hR hd
              have h3 : v 3 = _ := hd 3 (by simp)
              have h4 : v 4 = _ := hd 4 (by simp)
              exact ⟨wanted_plain rfl _, _, _, x_index rfl (hq.at_ rfl h3) (hq.at_ rfl h4) (r_index (e := 4) (size := 1) (by kernel_rfl) (by kernel_rfl) (by omega) (by omega) (by first | omega | simp)), hR, Below.refl _ _, rfl⟩
            | 6, _ =>
              refine StepL.val rfl [5] (by decide +kernel) ?_
              intro v wx hR hd
              have h5 : v 5 = _ := hd 5 (by simp)
              exact ⟨wanted_plain rfl _, _, _, x_load rfl (hq.at_ rfl h5) (r_load (by kernel_rfl) (cell_below ci hR)), hR, Below.refl _ _, rfl⟩
            | 7, _ =>
              refine StepL.val rfl [] (by decide +kernel) ?_
              intro v wx hR hd
              exact ⟨wanted_plain rfl _, _, _, x_move rfl (fill_off rfl rfl), hR, Below.refl _ _, rfl⟩
            | 8, _ =>
              refine StepL.val rfl [7] (by decide +kernel) ?_
              intro v wx hR hd
              have h7 : v 7 = _ := hd 7 (by simp)
              exact ⟨wanted_plain rfl _, _, _, x_bin rfl (hq.at_ rfl h7) rfl (r_eql (by decide)), hR, Below.refl _ _, rfl⟩
            | 9, _ =>
              refine StepL.val rfl [6, 8] (by decide +kernel) ?_
              intro v wx hR hd
              have h6 : v 6 = _ := hd 6 (by simp)
              have h8 : v 8 = _ := hd 8 (by simp)
              exact ⟨wanted_plain rfl _, _, _, x_bin rfl (hq.at_ rfl h6) (hq.at_ rfl h8) (by kernel_rfl), hR, Below.refl _ _, rfl⟩
            | 10, _ =>
              refine StepL.val rfl [9] (by decide +kernel) ?_
              intro v wx hR hd
              have h9 : v 9 = _ := hd 9 (by simp)
              exact ⟨wanted_plain rfl _, _, _, x_move rfl (hq.at_ rfl h9), hR, Below.refl _ _, rfl⟩
            | 11, _ =>
              refine StepL.val rfl [10] (by decide +kernel) ?_
              intro v wx hR hd
              have h10 : v 10 = _ := hd 10 (by simp)
              exact ⟨hq.yes rfl rfl rfl h10, _, _, x_move rfl (fill_off rfl rfl), hR, Below.refl _ _, rfl⟩
            | 12, _ =>
              refine StepL.val rfl [10, 11] (by decide +kernel) ?_
              intro v wx hR hd
              have h10 : v 10 = _ := hd 10 (by simp)
              have h11 : v 11 = _ := hd 11 (by simp)
              exact ⟨hq.yes rfl rfl rfl h10, _, _, x_nil rfl (hq.at_ rfl h11), hR, Below.refl _ _, rfl⟩
            | 13, _ =>
              refine StepL.val rfl [10, 12] (by decide +kernel) ?_
              intro v wx hR hd
              have h10 : v 10 = _ := hd 10 (by simp)
              have h12 : v 12 = _ := hd 12 (by simp)
              exact ⟨hq.yes rfl rfl rfl h10, _, _, x_field rfl (hq.at_ rfl h12) (r_field (off := 1) (by kernel_rfl)), hR, Below.refl _ _, rfl⟩
            | 14, _ =>
              refine StepL.val rfl [10, 13] (by decide +kernel) ?_
              intro v wx hR hd
              have h10 : v 10 = _ := hd 10 (by simp)
              have h13 : v 13 = _ := hd 13 (by simp)
              exact ⟨hq.yes rfl rfl rfl h10, _, _, x_load rfl (hq.at_ rfl h13) (r_load (by kernel_rfl) (cell_below z1 hR)), hR, Below.refl _ _, rfl⟩
            | 15, _ =>
              refine StepL.val rfl [10] (by decide +kernel) ?_
              intro v wx hR hd
              have h10 : v 10 = _ := hd 10 (by simp)
              exact ⟨hq.yes rfl rfl rfl h10, _, _, x_move rfl (fill_off rfl rfl), hR, Below.refl _ _, rfl⟩
            | 16, _ =>
              refine StepL.val rfl [10, 14, 15] (by decide +kernel) ?_
              intro v wx hR hd
              have h10 : v 10 = _ := hd 10 (by simp)
              have h14 : v 14 = _ := hd 14 (by simp)
              have h15 : v 15 = _ := hd 15 (by simp)
              exact ⟨hq.yes rfl rfl rfl h10, _, _, x_index rfl (hq.at_ rfl h14) (hq.at_ rfl h15) (r_index (e := 4) (size := 1) (by kernel_rfl) (by kernel_rfl) (by omega) (by omega) (by first | omega | simp)), hR, Below.refl _ _, rfl⟩
            | 17, _ =>
              refine StepL.val rfl [10, 16] (by decide +kernel) ?_
              intro v wx hR hd
              have h10 : v 10 = _ := hd 10 (by simp)
              have h16 : v 16 = _ := hd 16 (by simp)
              exact ⟨hq.yes rfl rfl rfl h10, _, _, x_load rfl (hq.at_ rfl h16) (r_load (by kernel_rfl) (cell_below ci hR)), hR, Below.refl _ _, rfl⟩
            | 18, _ =>
              refine StepL.val rfl [10, 17] (by decide +kernel) ?_
              intro v wx hR hd
              have h10 : v 10 = _ := hd 10 (by simp)
              have h17 : v 17 = _ := hd 17 (by simp)
              exact ⟨hq.yes rfl rfl rfl h10, _, _, x_move rfl (hq.at_ rfl h17), hR, Below.refl _ _, rfl⟩
            | 19, _ =>
              refine StepL.skip rfl [18] (by decide +kernel) ?_
              intro v wx hR hd
              have h18 : v 18 = _ := hd 18 (by simp)
              exact ⟨hq.no rfl rfl rfl h18 rfl, Below.refl _ _, rfl⟩
            | 20, _ =>
              refine StepL.skip rfl [18] (by decide +kernel) ?_
              intro v wx hR hd
              have h18 : v 18 = _ := hd 18 (by simp)
              exact ⟨hq.no rfl rfl rfl h18 rfl, Below.refl _ _, rfl⟩
            | 21, _ =>
              refine StepL.skip rfl [18] (by decide +kernel) ?_
              intro v wx hR hd
              have h18 : v 18 = _ := hd 18 (by simp)
              exact ⟨hq.no rfl rfl rfl h18 rfl, Below.refl _ _, rfl⟩
            | 22, _ =>
              refine StepL.skip rfl [18] (by decide +kernel) ?_
              intro v wx hR hd
              have h18 : v 18 = _ := hd 18 (by simp)
              exact ⟨hq.no rfl rfl rfl h18 rfl, Below.refl _ _, rfl⟩
            | 23, _ =>
              refine StepL.skip rfl [18] (by decide +kernel) ?_
              intro v wx hR hd
              have h18 : v 18 = _ := hd 18 (by simp)
              exact ⟨hq.no rfl rfl rfl h18 rfl, Below.refl _ _, rfl⟩
            | 24, _ =>
              refine StepL.skip rfl [18] (by decide +kernel) ?_
              intro v wx hR hd
              have h18 : v 18 = _ := hd 18 (by simp)
              exact ⟨hq.no rfl rfl rfl h18 rfl, Below.refl _ _, rfl⟩
            | 25, _ =>
              refine StepL.skip rfl [18] (by decide +kernel) ?_
              intro v wx hR hd
              have h18 : v 18 = _ := hd 18 (by simp)
              exact ⟨hq.no rfl rfl rfl h18 rfl, Below.refl _ _, rfl⟩
            | 26, _ =>
              refine StepL.skip rfl [18] (by decide +kernel) ?_
              intro v wx hR hd
              have h18 : v 18 = _ := hd 18 (by simp)
              exact ⟨hq.no rfl rfl rfl h18 rfl, Below.refl _ _, rfl⟩
            | 27, _ =>
              refine StepL.skip rfl [18] (by decide +kernel) ?_
              intro v wx hR hd
              have h18 : v 18 = _ := hd 18 (by simp)
              exact ⟨hq.no rfl rfl rfl h18 rfl, Below.refl _ _, rfl⟩
            | 28, _ =>
              refine StepL.skip rfl [18] (by decide +kernel) ?_
              intro v wx hR hd
              have h18 : v 18 = _ := hd 18 (by simp)
              exact ⟨hq.no rfl rfl rfl h18 rfl, Below.refl _ _, rfl⟩
            | 29, _ =>
              refine StepL.skip rfl [18] (by decide +kernel) ?_
              intro v wx hR hd
              have h18 : v 18 = _ := hd 18 (by simp)
              exact ⟨hq.no rfl rfl rfl h18 rfl, Below.refl _ _, rfl⟩
            | 30, _ =>
              refine StepL.val rfl [10, 18, 29] (by decide +kernel) ?_
              intro v wx hR hd
              have h10 : v 10 = _ := hd 10 (by simp)
              have h18 : v 18 = _ := hd 18 (by simp)
              have h29 : v 29 = _ := hd 29 (by simp)
              exact ⟨hq.yes rfl rfl rfl h10, _, _, x_pick_no rfl (hq.at_ rfl h18) rfl, hR, Below.refl _ _, rfl⟩
            | 31, _ =>
              refine StepL.val rfl [10, 30] (by decide +kernel) ?_
              intro v wx hR hd
              have h10 : v 10 = _ := hd 10 (by simp)
              have h30 : v 30 = _ := hd 30 (by simp)
              exact ⟨wanted_plain rfl _, _, _, x_pick_no rfl (hq.at_ rfl h10) (hq.at_ rfl h30), hR, Below.refl _ _, rfl⟩
            | i + 32, h => omega
          · intro v wx hR hV
            have h31 : v 31 = _ := hV 31 (by omega)
            have HV := Lib.hid hR
            have z0 := cell_below z0 hR
            have z1 := cell_below z1 hR
            have ci := cell_below ci hR
            clear hV hR
            simp only [fillR, Act.put, List.setIfInBounds_toArray, List.set_cons_zero, List.set_cons_succ, h31]
            rcases hlo1 with rfl | ⟨l, rfl, hl⟩
            · go_wp2_with fail
              go_roundw
              case rel =>
                refine ⟨i + 1, by omega, by go_num, ?_, ?_, HB.out.1.trans ((below_of H7.out HV.out).mono HB.out.1.size)⟩
                · rw [usedL_succ, HF.out, ← HKU.out]; simp
                · unfold lowN; rw [HLO.out, HF.out]; simp
              case measure => simp [intOf]; omega
            · go_wp2_with fail
              go_roundw
              case rel =>
                refine ⟨i + 1, by omega, by go_num, ?_, ?_, HB.out.1.trans ((below_of H7.out HV.out).mono HB.out.1.size)⟩
                · rw [usedL_succ, HF.out, ← HKU.out]; simp
                · unfold lowN; rw [HLO.out, if_neg (by omega)]
              case measure => simp [intOf]; omega
        | some h =>
          rw [hf] at hib
          obtain rfl : b = true := hib
          obtain ⟨e0, e1, e2, e3, hbt⟩ := HT.out.2.2.1.node i x true h HX.out hf
          have hok := HT.out.1.wf.ok i h hf
          have hd5 := hok.2.1
          have hat := usedL_at hlt hf
          rw [HKU.out] at hat
          have HF := Lib.hid (And.intro hf hat)
          have hbt0 := hbt.below HB.out.2
          replace n0 := cell_below n0 HB.out.2
          replace n1 := cell_below n1 HB.out.2
          replace n2 := cell_below n2 HB.out.2
          replace n3 := cell_below n3 HB.out.2
          replace n4 := cell_below n4 HB.out.2
          have hxn : h.data.length = x.n := hbt.cells.1
          obtain ⟨gU, hPU, hcu⟩ : ∃ gU, PU = some ⟨gU, 0, none⟩ ∧ w5.cell? ⟨gU, ku, none⟩ = some (.int .i64 (i : Int)) := by
            have hpos : 0 < (usedL f N).length := by have := (List.getElem?_eq_some_iff.1 hat).1; omega
            obtain ⟨g, hg, _, _, hcs⟩ := H5.out.1.cells hpos
            exact ⟨g, hg, hcs ku i hat⟩
          have hkl : ku < (usedL f N).length := (List.getElem?_eq_some_iff.1 hat).1
          subst hPU
          have hcu := cell_below hcu HB.out.1
          have HG := Lib.hid (get_yes (HT.out.1.tab.below HB.out.2) (HT.out.1.blk.below HB.out.2 HT.out.1.blk.lt) (i := i) (by omega) hf hd5)
          have HBT := Lib.hid hbt0
          clear hf hat hbt hbt0 hok
          obtain ⟨xk, xm, xo, xg, xA, xn, xc⟩ := x
          obtain ⟨hk, hm, ho, hg, hdat, hbl⟩ := h
          dsimp only at e0 e1 e2 e3 n0 n1 n2 n3 n4 hxn hd5 HG HBT
          subst e0 e1 e2 e3
          obtain ⟨nd, hnd⟩ : ∃ nd, hdat.length = nd := ⟨_, rfl⟩
          rw [hnd] at HG hxn hd5
          subst hxn
          clear hnd
          go_wp2_with fail
          refine HG.out.mono ?_
          rintro e w6 ⟨P8, c8, rfl, hB8, hzz, hW⟩
          have z0 := cell_below z0 hW
          have z1 := cell_below z1 hW
          have ci := cell_below ci hW
          have n0 := cell_below n0 hW
          have n1 := cell_below n1 hW
          have n2 := cell_below n2 hW
          have n3 := cell_below n3 hW
          have n4 := cell_below n4 hW
          have hcu := cell_below hcu hW
          have H6 := Lib.hid (And.intro hB8 hW)
          clear hB8 hW hzz HG
          go_wp2_with fail
          have hb7 := new_below w6 (.cells #[.int .i64 xk, .int .i64 xm, .int .i64 xo, .int .i64 xg, .slice P8 nd c8] 42)
          obtain ⟨d0, d1, d2, d3, d4⟩ := five_cells (Blk.new w6 42 [.int .i64 xk, .int .i64 xm, .int .i64 xo, .int .i64 xg, .slice P8 nd c8])
          have z0 := cell_below z0 hb7
          have z1 := cell_below z1 hb7
          have ci := cell_below ci hb7
          have n0 := cell_below n0 hb7
          have n1 := cell_below n1 hb7
          have n2 := cell_below n2 hb7
          have n3 := cell_below n3 hb7
          have n4 := cell_below n4 hb7
          have hcu := cell_below hcu hb7
          have HN := Lib.hid (And.intro (H6.out.1.below hb7) ((HBT.out.below H6.out.2).below hb7))
          have H7 := Lib.hid (below_of H6.out.2 hb7)
          obtain ⟨w7, hw7⟩ : ∃ w7, w6.alloc (.cells #[.int .i64 xk, .int .i64 xm, .int .i64 xo, .int .i64 xg, .slice P8 nd c8] 42) = w7 := ⟨_, rfl⟩
          rw [show w6.alloc (.cells [Value.int .i64 xk, .int .i64 xm, .int .i64 xo, .int .i64 xg, .slice P8 nd c8].toArray 42) = w7 from hw7] at d0 d1 d2 d3 d4
          rw [hw7] at z0 z1 ci n0 n1 n2 n3 n4 hcu HN H7 ⊢
          clear hw7 hb7
          refine wp_hideQ ?_
          intro QQ hQQ
          refine wp_region_quick [some 45, some 46, some 47, some 48, some 49, some 50, some 51, some 52, some 53, some 54, some 55, some 56, some 57, some 58, some 59, some 60, some 61, some 62, some 63, some 64, some 65, some 66, some 67, some 68, some 69, some 70, some 71, some 72, some 73, some 74, some 75, some 76] [isV (.pointer (some ⟨p, 0, none⟩)), isV (.pointer (some ⟨p, 0, none⟩)), isV (.pointer (some ⟨p, 1, none⟩)), isV (.slice (some ⟨gI, oI, none⟩) N cI), isV (.int .i64 (i : Int)), isV (.pointer (some ⟨gI, oI + i, none⟩)), isV (.bool true), isV (.int .i64 0), isV (.bool true), isV (.bool false), isV (.bool false), isV (.pointer (some ⟨p, 0, none⟩)), isV (.pointer (some ⟨p, 0, none⟩)), isV (.pointer (some ⟨p, 1, none⟩)), isV (.slice (some ⟨gI, oI, none⟩) N cI), isV (.int .i64 (i : Int)), isV (.pointer (some ⟨gI, oI + i, none⟩)), isV (.bool true), isV (.bool true), isV (nodeV xk xm xo xg P8 nd c8), isV (nodeV xk xm xo xg P8 nd c8), isV (.pointer (some ⟨p, 0, none⟩)), isV (.pointer (some ⟨p, 0, none⟩)), isV (.pointer (some ⟨p, 0, none⟩)), isV (.slice (some ⟨gN, oN, none⟩) N cN), isV (.int .i64 (i : Int)), isV (.pointer (some ⟨gN, oN + i * 5, none⟩)), isV (nodeV xk xm xo xg xA nd xc), isV (.bool true), isV (.bool false), isV (.bool false), isV (.bool false)] 32 (by kernel_rfl) rfl rfl rfl (by kernel_rfl) (by simp [isV.st]) ?_ ?_
          · intro hq i hi
            match i, hi with
            | 0, _ =>
              refine StepL.val rfl [] (by decide +kernel) ?_
              intro v wx hR hd
              exact ⟨wanted_plain rfl _, _, _, x_move rfl (fill_off rfl rfl), hR, Below.refl _ _, rfl⟩
            | 1, _ =>
              refine StepL.val rfl [0] (by decide +kernel) ?_
              intro v wx hR hd
              have h0 : v 0 = _ := hd 0 (by simp)
              exact ⟨wanted_plain rfl _, _, _, x_nil rfl (hq.at_ rfl h0), hR, Below.refl _ _, rfl⟩
            | 2, _ =>
              refine StepL.val rfl [1] (by decide +kernel) ?_
              intro v wx hR hd
              have h1 : v 1 = _ := hd 1 (by simp)
              exact ⟨wanted_plain rfl _, _, _, x_field rfl (hq.at_ rfl h1) (r_field (off := 1) (by kernel_rfl)), hR, Below.refl _ _, rfl⟩
            | 3, _ =>
              refine StepL.val rfl [2] (by decide +kernel) ?_
              intro v wx hR hd
              have h2 : v 2 = _ := hd 2 (by simp)
              exact ⟨wanted_plain rfl _, _, _, x_load rfl (hq.at_ rfl h2) (r_load (by kernel_rfl) (cell_below z1 hR)), hR, Below.refl _ _, rfl⟩
            | 4, _ =>
              refine StepL.val rfl [] (by decide +kernel) ?_
              intro v wx hR hd
              exact ⟨wanted_plain rfl _, _, _, x_move rfl (fill_off rfl rfl), hR, Below.refl _ _, rfl⟩
            | 5, _ =>
              refine StepL.val rfl [3, 4] (by decide +kernel) ?_
              intro v wx hR hd
              have h3 : v 3 = _ := hd 3 (by simp)
              have h4 : v 4 = _ := hd 4 (by simp)
              exact ⟨wanted_plain rfl _, _, _, x_index rfl (hq.at_ rfl h3) (hq.at_ rfl h4) (r_index (e := 4) (size := 1) (by kernel_rfl) (by kernel_rfl) (by omega) (by omega) (by first | omega | simp)), hR, Below.refl _ _, rfl⟩
            | 6, _ =>
              refine StepL.val rfl [5] (by decide +kernel) ?_
              intro v wx hR hd
              have h5 : v 5 = _ := hd 5 (by simp)
              exact ⟨wanted_plain rfl _, _, _, x_load rfl (hq.at_ rfl h5) (r_load (by kernel_rfl) (cell_below ci hR)), hR, Below.refl _ _, rfl⟩
            | 7, _ =>
              refine StepL.val rfl [] (by decide +kernel) ?_
              intro v wx hR hd
              exact ⟨wanted_plain rfl _, _, _, x_move rfl (fill_off rfl rfl), hR, Below.refl _ _, rfl⟩
            | 8, _ =>
              refine StepL.val rfl [7] (by decide +kernel) ?_
              intro v wx hR hd
              have h7 : v 7 = _ := hd 7 (by simp)
              exact ⟨wanted_plain rfl _, _, _, x_bin rfl (hq.at_ rfl h7) rfl (r_eql (by decide)), hR, Below.refl _ _, rfl⟩
            | 9, _ =>
              refine StepL.val rfl [6, 8] (by decide +kernel) ?_
              intro v wx hR hd
              have h6 : v 6 = _ := hd 6 (by simp)
              have h8 : v 8 = _ := hd 8 (by simp)
              exact ⟨wanted_plain rfl _, _, _, x_bin rfl (hq.at_ rfl h6) (hq.at_ rfl h8) (by kernel_rfl), hR, Below.refl _ _, rfl⟩
            | 10, _ =>
              refine StepL.val rfl [9] (by decide +kernel) ?_
              intro v wx hR hd
              have h9 : v 9 = _ := hd 9 (by simp)
              exact ⟨wanted_plain rfl _, _, _, x_move rfl (hq.at_ rfl h9), hR, Below.refl _ _, rfl⟩
            | 11, _ =>
              refine StepL.val rfl [10] (by decide +kernel) ?_
              intro v wx hR hd
              have h10 : v 10 = _ := hd 10 (by simp)
              exact ⟨hq.yes rfl rfl rfl h10, _, _, x_move rfl (fill_off rfl rfl), hR, Below.refl _ _, rfl⟩
            | 12, _ =>
              refine StepL.val rfl [10, 11] (by decide +kernel) ?_
              intro v wx hR hd
              have h10 : v 10 = _ := hd 10 (by simp)
              have h11 : v 11 = _ := hd 11 (by simp)
              exact ⟨hq.yes rfl rfl rfl h10, _, _, x_nil rfl (hq.at_ rfl h11), hR, Below.refl _ _, rfl⟩
            | 13, _ =>
              refine StepL.val rfl [10, 12] (by decide +kernel) ?_
              intro v wx hR hd
              have h10 : v 10 = _ := hd 10 (by simp)
              have h12 : v 12 = _ := hd 12 (by simp)
              exact ⟨hq.yes rfl rfl rfl h10, _, _, x_field rfl (hq.at_ rfl h12) (r_field (off := 1) (by kernel_rfl)), hR, Below.refl _ _, rfl⟩
            | 14, _ =>
              refine StepL.val rfl [10, 13] (by decide +kernel) ?_
              intro v wx hR hd
              have h10 : v 10 = _ := hd 10 (by simp)
              have h13 : v 13 = _ := hd 13 (by simp)
              exact ⟨hq.yes rfl rfl rfl h10, _, _, x_load rfl (hq.at_ rfl h13) (r_load (by kernel_rfl) (cell_below z1 hR)), hR, Below.refl _ _, rfl⟩
            | 15, _ =>
              refine StepL.val rfl [10] (by decide +kernel) ?_
              intro v wx hR hd
              have h10 : v 10 = _ := hd 10 (by simp)
              exact ⟨hq.yes rfl rfl rfl h10, _, _, x_move rfl (fill_off rfl rfl), hR, Below.refl _ _, rfl⟩
            | 16, _ =>
              refine StepL.val rfl [10, 14, 15] (by decide +kernel) ?_
              intro v wx hR hd
              have h10 : v 10 = _ := hd 10 (by simp)
              have h14 : v 14 = _ := hd 14 (by simp)
              have h15 : v 15 = _ := hd 15 (by simp)
              exact ⟨hq.yes rfl rfl rfl h10, _, _, x_index rfl (hq.at_ rfl h14) (hq.at_ rfl h15) (r_index (e := 4) (size := 1) (by kernel_rfl) (by kernel_rfl) (by omega) (by omega) (by first | omega | simp)), hR, Below.refl _ _, rfl⟩
            | 17, _ =>
              refine StepL.val rfl [10, 16] (by decide +kernel) ?_
              intro v wx hR hd
              have h10 : v 10 = _ := hd 10 (by simp)
              have h16 : v 16 = _ := hd 16 (by simp)
              exact ⟨hq.yes rfl rfl rfl h10, _, _, x_load rfl (hq.at_ rfl h16) (r_load (by kernel_rfl) (cell_below ci hR)), hR, Below.refl _ _, rfl⟩
            | 18, _ =>
              refine StepL.val rfl [10, 17] (by decide +kernel) ?_
              intro v wx hR hd
              have h10 : v 10 = _ := hd 10 (by simp)
              have h17 : v 17 = _ := hd 17 (by simp)
              exact ⟨hq.yes rfl rfl rfl h10, _, _, x_move rfl (hq.at_ rfl h17), hR, Below.refl _ _, rfl⟩
            | 19, _ =>
              refine StepL.val rfl [18] (by decide +kernel) ?_
              intro v wx hR hd
              have h18 : v 18 = _ := hd 18 (by simp)
              exact ⟨hq.yes rfl rfl rfl h18, _, _, x_load rfl (fill_off rfl rfl) (r_loadR (cs := [.int .i64 xk, .int .i64 xm, .int .i64 xo, .int .i64 xg, .slice P8 nd c8]) (by kernel_rfl) (range_five (cell_below d0 hR) (cell_below d1 hR) (cell_below d2 hR) (cell_below d3 hR) (cell_below d4 hR))), hR, Below.refl _ _, rfl⟩
            | 20, _ =>
              refine StepL.call rfl [18, 19] (by decide +kernel) ?_
              intro v wx hR hd
              have h18 : v 18 = _ := hd 18 (by simp)
              have h19 : v 19 = _ := hd 19 (by simp)
              refine ⟨hq.yes rfl rfl rfl h18, 31, _, _, x_call rfl rfl (args_1 (hq.at_ rfl h19)) (by kernel_rfl) rfl, ?_⟩
              refine (of7_any _ xk xm xo xg P8 nd c8).mono ?_
              rintro e w' ⟨rfl, hW⟩
              exact ⟨_, rfl, hR.trans (hW.mono hR.size), hW, rfl⟩
            | 21, _ =>
              refine StepL.val rfl [18] (by decide +kernel) ?_
              intro v wx hR hd
              have h18 : v 18 = _ := hd 18 (by simp)
              exact ⟨hq.yes rfl rfl rfl h18, _, _, x_move rfl (fill_off rfl rfl), hR, Below.refl _ _, rfl⟩
            | 22, _ =>
              refine StepL.val rfl [18, 21] (by decide +kernel) ?_
              intro v wx hR hd
              have h18 : v 18 = _ := hd 18 (by simp)
              have h21 : v 21 = _ := hd 21 (by simp)
              exact ⟨hq.yes rfl rfl rfl h18, _, _, x_nil rfl (hq.at_ rfl h21), hR, Below.refl _ _, rfl⟩
            | 23, _ =>
              refine StepL.val rfl [18, 22] (by decide +kernel) ?_
              intro v wx hR hd
              have h18 : v 18 = _ := hd 18 (by simp)
              have h22 : v 22 = _ := hd 22 (by simp)
              exact ⟨hq.yes rfl rfl rfl h18, _, _, x_field rfl (hq.at_ rfl h22) (r_field (off := 0) (by kernel_rfl)), hR, Below.refl _ _, rfl⟩
            | 24, _ =>
              refine StepL.val rfl [18, 23] (by decide +kernel) ?_
              intro v wx hR hd
              have h18 : v 18 = _ := hd 18 (by simp)
              have h23 : v 23 = _ := hd 23 (by simp)
              exact ⟨hq.yes rfl rfl rfl h18, _, _, x_load rfl (hq.at_ rfl h23) (r_load (by kernel_rfl) (cell_below z0 hR)), hR, Below.refl _ _, rfl⟩
            | 25, _ =>
              refine StepL.val rfl [18] (by decide +kernel) ?_
              intro v wx hR hd
              have h18 : v 18 = _ := hd 18 (by simp)
              exact ⟨hq.yes rfl rfl rfl h18, _, _, x_move rfl (fill_off rfl rfl), hR, Below.refl _ _, rfl⟩
            | 26, _ =>
              refine StepL.val rfl [18, 24, 25] (by decide +kernel) ?_
              intro v wx hR hd
              have h18 : v 18 = _ := hd 18 (by simp)
              have h24 : v 24 = _ := hd 24 (by simp)
              have h25 : v 25 = _ := hd 25 (by simp)
              exact ⟨hq.yes rfl rfl rfl h18, _, _, x_index rfl (hq.at_ rfl h24) (hq.at_ rfl h25) (r_index (e := 53) (size := 5) (by kernel_rfl) (by kernel_rfl) (by omega) (by omega) (by first | omega | simp)), hR, Below.refl _ _, rfl⟩
            | 27, _ =>
              refine StepL.val rfl [18, 26] (by decide +kernel) ?_
              intro v wx hR hd
              have h18 : v 18 = _ := hd 18 (by simp)
              have h26 : v 26 = _ := hd 26 (by simp)
              exact ⟨hq.yes rfl rfl rfl h18, _, _, x_load rfl (hq.at_ rfl h26) (r_loadR (cs := [.int .i64 xk, .int .i64 xm, .int .i64 xo, .int .i64 xg, .slice xA nd xc]) (by kernel_rfl) (range_five (cell_below n0 hR) (cell_below n1 hR) (cell_below n2 hR) (cell_below n3 hR) (cell_below n4 hR))), hR, Below.refl _ _, rfl⟩
            | 28, _ =>
              refine StepL.call rfl [18, 20, 27] (by decide +kernel) ?_
              intro v wx hR hd
              have h18 : v 18 = _ := hd 18 (by simp)
              have h20 : v 20 = _ := hd 20 (by simp)
              have h27 : v 27 = _ := hd 27 (by simp)
              refine ⟨hq.yes rfl rfl rfl h18, 30, _, _, x_call rfl rfl (args_2 (hq.at_ rfl h20) (hq.at_ rfl h27)) (by kernel_rfl) rfl, ?_⟩
              refine (rsame7_any _ xk xm xo xg P8 xA nd c8 xc hdat (HN.out.1.below hR) (HN.out.2.below hR)).mono ?_
              rintro e w' ⟨rfl, hW⟩
              exact ⟨_, rfl, hR.trans (hW.mono hR.size), hW, rfl⟩
            | 29, _ =>
              refine StepL.val rfl [18, 28] (by decide +kernel) ?_
              intro v wx hR hd
              have h18 : v 18 = _ := hd 18 (by simp)
              have h28 : v 28 = _ := hd 28 (by simp)
              exact ⟨hq.yes rfl rfl rfl h18, _, _, x_un rfl (hq.at_ rfl h28) (r_not rfl), hR, Below.refl _ _, rfl⟩
            | 30, _ =>
              refine StepL.val rfl [10, 18, 29] (by decide +kernel) ?_
              intro v wx hR hd
              have h10 : v 10 = _ := hd 10 (by simp)
              have h18 : v 18 = _ := hd 18 (by simp)
              have h29 : v 29 = _ := hd 29 (by simp)
              exact ⟨hq.yes rfl rfl rfl h10, _, _, x_pick_yes rfl (hq.at_ rfl h18) (hq.at_ rfl h29), hR, Below.refl _ _, rfl⟩
            | 31, _ =>
              refine StepL.val rfl [10, 30] (by decide +kernel) ?_
              intro v wx hR hd
              have h10 : v 10 = _ := hd 10 (by simp)
              have h30 : v 30 = _ := hd 30 (by simp)
              exact ⟨wanted_plain rfl _, _, _, x_pick_no rfl (hq.at_ rfl h10) (hq.at_ rfl h30), hR, Below.refl _ _, rfl⟩
            | i + 32, h => omega
          · intro v wx hR hV
            have h31 : v 31 = _ := hV 31 (by omega)
            have HV := Lib.hid hR
            have z0 := cell_below z0 hR
            have z1 := cell_below z1 hR
            have ci := cell_below ci hR
            clear hV hR
            simp only [fillR, Act.put, List.setIfInBounds_toArray, List.set_cons_zero, List.set_cons_succ, h31]
            have hcu := cell_below hcu HV.out
            go_wp2_with fail
            go_roundw
            case rel =>
              refine ⟨i + 1, by omega, by go_num, ?_, ?_, HB.out.1.trans ((below_of H7.out HV.out).mono HB.out.1.size)⟩
              · rw [usedL_succ, HF.out.1, List.length_append, HKU.out]; simp
              · rw [← HLO.out]; conv => rhs; unfold lowN
                rw [HF.out.1]
                rcases lowN_cases f i with ⟨h1, _⟩ | ⟨l, h1, _⟩
                · rw [if_pos (by omega), h1]; rfl
                · rw [if_neg (by omega)]
            case measure => simp [intOf]; omega
      · have hiN : i = N := by omega
        have HFR := Lib.hid (tfree_any (HT.out.1.tab.below HB.out.2) (by omega) (HT.out.1.blk.below HB.out.2 HT.out.1.blk.lt))
        have hku2 : (usedL f N).length = ku := by rw [← HKU.out, hiN]
        have hlo2 : (lo = -1 ∧ ∀ j, j < N → f j ≠ none) ∨ ∃ l : Nat, lo = (l : Int) ∧ l < N ∧ f l = none ∧ ∀ j, j < l → f j ≠ none := by
          rw [← HLO.out, hiN]
          exact lowN_cases f N
        rw [hku2]
        have HL2 := Lib.hid hlo2
        clear hku2 hlo2 hlo1 hul hiN
        go_wp2_with fail
        refine HFR.out.mono ?_
        rintro e w6 ⟨hfr, hW⟩
        have H6 := Lib.hid (HB.out.2.trans (hW.mono HB.out.2.size))
        clear hW HFR
        rcases hfr with ⟨l, hl, hfl, hml, rfl⟩ | ⟨hall, rfl⟩
        · obtain rfl : lo = (l : Int) := by
            rcases HL2.out with ⟨_, h2⟩ | ⟨l2, h1, h2, h3, h4⟩
            · exact absurd hfl (h2 l hl)
            · have : l2 = l := by
                rcases Nat.lt_trichotomy l2 l with h | h | h
                · exact absurd h3 (hml l2 h)
                · exact h
                · exact absurd hfl (h4 l h)
              rw [h1, this]
          clear hfl hml HL2
          go_wp2_with fail
          go_ret
          exact ⟨rfl, H6.out⟩
        · obtain rfl : lo = -1 := by
            rcases HL2.out with ⟨h1, _⟩ | ⟨l2, h1, h2, h3, h4⟩
            · exact h1
            · exact absurd h3 (hall l2 h2)
          clear hall HL2
          go_wp2_with fail
          go_ret
          exact ⟨rfl, H6.out⟩
end Go.Proofs.YtkmkblhmjeeaeaaGreatDoor
end
