/-
  slices.Chunk of bytes, 64 by 64, and of writes that are one part: what comes, for every loop's body that keeps what lay. Conditions: the slice isn't nil, or is.
-/
import Derived.Test.YtkmkblhmjeeaeaaGreatDoorM15
import Derived.Shelf.Abstract
import Derived.Shelf.RegionOpen
import Derived.OwnWalkIn
import Derived.TacticsInMore
import Derived.RegionIn
import Derived.LoopNIn
import Derived.LoopIn
import Derived.Test.YtkmkblhmjeeaeaaGreatDoorM16
import Derived.Test.YtkmkblhmjeeaeaaGreatDoorM12
section
set_option linter.unusedSimpArgs false
set_option linter.unusedVariables false
set_option maxRecDepth 100000
namespace Go.Proofs.YtkmkblhmjeeaeaaGreatDoor
open Go.RowKit Go.Shelf

theorem chunk_make (w : World) (P : Option Addr) (n c : Nat) (k : Nat) (hk : 1 ≤ k) : Calls Tryz.prog 60 #[.slice P n c, .int .i64 k] w fun e w' => e = .returned (.func (.func 96) #[] #[.pointer (some ⟨w.heap.size, 0, none⟩), .pointer (some ⟨w.heap.size + 1, 0, none⟩)]) ∧
    w' = (w.alloc (.cells #[.slice P n c] 40)).alloc (.cells #[.int .i64 k] 3) := by
  have h1 : decide ((k : Int) < 1) = false := by simp; omega
  go_enter Tryz.func60, Tryz.ntmps60
  go_wp2_with fail
  go_ret
  exact ⟨rfl, rfl⟩
theorem chunkw_make (w : World) (P : Option Addr) (n c : Nat) (k : Nat) (hk : 1 ≤ k) : Calls Tryz.prog 71 #[.slice P n c, .int .i64 k] w fun e w' => e = .returned (.func (.func 104) #[] #[.pointer (some ⟨w.heap.size, 0, none⟩), .pointer (some ⟨w.heap.size + 1, 0, none⟩)]) ∧
    w' = (w.alloc (.cells #[.slice P n c] 85)).alloc (.cells #[.int .i64 k] 3) := by
  have h1 : decide ((k : Int) < 1) = false := by simp; omega
  go_enter Tryz.func71, Tryz.ntmps71
  go_wp2_with fail
  go_ret
  exact ⟨rfl, rfl⟩

/-- What the iterator's two cells hold stays. -/
def KpC (Bs Bn : Nat) (W W' : World) : Prop := (∀ v, W.cell? ⟨Bs, 0, none⟩ = some v → W'.cell? ⟨Bs, 0, none⟩ = some v) ∧ ∀ v, W.cell? ⟨Bn, 0, none⟩ = some v → W'.cell? ⟨Bn, 0, none⟩ = some v
theorem KpC.trans {Bs Bn : Nat} {A B C : World} (h : KpC Bs Bn A B) (k : KpC Bs Bn B C) : KpC Bs Bn A C := ⟨fun v hv => k.1 v (h.1 v hv), fun v hv => k.2 v (h.2 v hv)⟩
theorem cell_isCells {W : World} {b : Nat} {v : Value} (h : W.cell? ⟨b, 0, none⟩ = some v) {o : Obj} (ho : W.heap[b]? = some o) : o.isCells = true := by
  unfold World.cell? at h
  simp only [ho] at h
  cases o <;> first | rfl | cases h
theorem KpC.put {Bs Bn : Nat} (W : World) (l : Nat) (o o' : Obj) (ho : W.heap[l]? = some o) (hc : o.isCells = false) : KpC Bs Bn W (W.putObj l o') := by
  have key : ∀ b v, W.cell? ⟨b, 0, none⟩ = some v → (W.putObj l o').cell? ⟨b, 0, none⟩ = some v := fun b v hv => by
    have hne : b ≠ l := by
      rintro rfl
      rw [cell_isCells hv ho] at hc
      cases hc
    unfold World.cell? at hv ⊢
    rw [World.putObj_heap_other hne]
    exact hv
  exact ⟨key Bs, key Bn⟩
/-- A part of so many bytes. -/
abbrev Part (len : Nat) := { q : Nat // 64 * q < len }
def partV (g o len q : Nat) : Array Value := #[.slice (some ⟨g, o + 64 * q, none⟩) (min 64 (len - 64 * q)) (min 64 (len - 64 * q))]
theorem drew_grown (W : World) : W.grownBy W.drew none := ⟨rfl, rfl, rfl, Nat.le_refl _, fun _ _ _ => rfl⟩

attribute [local go_sem] Oper.semAt_some

set_option maxRecDepth 100000 in
set_option maxHeartbeats 4000000 in
/-- The iterator over bytes: part q begins at byte 64 times q. -/
theorem chunk_in (F : Fence) (n : Nat) (hF : F.fn 96) (hro : F.round = none) (hn : 1 ≤ n) (l Bs Bn g o len cap : Nat) (hlen : len ≤ 1000000) (hcap : len ≤ cap) (hcb : cap ≤ 9223372036854775807) (J Jx : List (Part len) → World → Prop)
    (hJd : ∀ pre W, J pre W → J pre W.drew)
    (hY : ∀ pre (x : Part len) W, J pre W → pre.length < blks len → YieldAt F (n - 1) Tryz.prog l (partV g o len x.1) W fun e W' =>
      (e = .returned (.bool true) ∧ J (pre ++ [x]) W' ∧ KpC Bs Bn W W') ∨ (e = .returned (.bool false) ∧ Jx (pre ++ [x]) W'))
    (W : World) (hBs : W.cell? ⟨Bs, 0, none⟩ = some (.slice (some ⟨g, o, none⟩) len cap)) (hBn : W.cell? ⟨Bn, 0, none⟩ = some (.int .i64 64)) (h0 : J [] W) :
    CallsIn F n Tryz.prog 96 #[.func (.yield l) #[] #[], .pointer (some ⟨Bs, 0, none⟩), .pointer (some ⟨Bn, 0, none⟩)] W fun e W' => (∃ v, e = .returned v) ∧
      ((∃ ys : List (Part len), ys.map (·.1) = List.range (blks len) ∧ J ys W') ∨ (∃ pre, Jx pre W')) := by
  have HD := Lib.hid hJd
  clear hJd
  refine callsIn_of_wp Tryz.func96 rfl hF ?_ hro
  simp only [Tryz.ntmps96, List.size_toArray, List.length_cons, List.length_nil, Nat.reduceAdd, Nat.reduceSub, Array.replicate_succ, Array.replicate_zero, List.push_toArray, List.append_toArray, List.nil_append, List.cons_append]
  gi_wp2
  gi_loopw [4] (fun iv wr => ∃ (q i : Nat) (ys : List (Part len)), iv = .int .i64 (i : Int) ∧ i ≤ len + 64 ∧ Hid (i = 64 * q ∧ q ≤ blks len ∧ ys.map (·.1) = List.range q) ∧ J ys wr ∧ wr.cell? ⟨Bs, 0, none⟩ = some (.slice (some ⟨g, o, none⟩) len cap) ∧ wr.cell? ⟨Bn, 0, none⟩ = some (.int .i64 64))
    (fun iv _ => len + 64 - (intOf iv).toNat)
  case atStart => exact ⟨0, 0, [], rfl, by omega, Lib.hid ⟨rfl, Nat.zero_le _, rfl⟩, h0, hBs, hBn⟩
  case round =>
    obtain ⟨q, i, ys, rfl, hi, hq, hJs, c0, c1⟩ := hrel
    by_cases hlt : i < len
    · have hql : q < blks len := by have := hq.out; unfold blks; omega
      have hyl : ys.length = q := by
        have := congrArg List.length hq.out.2.2
        simpa using this
      have hqx : 64 * q < len := by have := hq.out; omega
      obtain ⟨x, hx⟩ : ∃ x : Part len, x.1 = q := ⟨⟨q, hqx⟩, rfl⟩
      obtain ⟨fn, tmps, assign, body, hy, hR⟩ := hY ys x wr.drew (HD.out _ _ hJs) (by rw [hyl]; exact hql)
      have hi64 : 64 * q = i := by have := hq.out; omega
      unfold partV at hy
      rw [hx, hi64] at hy
      have hne : ¬ (cap = i) := by omega
      have hne2 : ¬ (i = cap) := by omega
      obtain ⟨r, hr⟩ : ∃ r, min 64 (len - i) = r := ⟨_, rfl⟩
      have hmin : min (64 : Int) ((len - i : Nat) : Int) = (r : Int) := by omega
      have hsub : ((i : Int) + (r : Int)).toNat - i = r := by omega
      have hr1 : i + r ≤ len := by omega
      have hr2 : 0 < r := by omega
      rw [hr] at hy
      have HX := Lib.hid (And.intro hx hr)
      clear hqx hi64 hr hx
      gi_wp2
      gi_region
      all_goals
        gi_wp2
        refine hR.mono ?_
        rintro e W3 (⟨rfl, hJ3, hk3⟩ | ⟨rfl, hJx3⟩)
        · have d0 := hk3.1 _ (show wr.drew.cell? ⟨Bs, 0, none⟩ = _ from c0)
          have d1 := hk3.2 _ (show wr.drew.cell? ⟨Bn, 0, none⟩ = _ from c1)
          have HJ := Lib.hid hJ3
          gi_wp2
          go_roundw
          case rel =>
            refine ⟨q + 1, i + 64, ys ++ [x], by go_num, by omega, Lib.hid ⟨by have := hq.out; omega, by omega, ?_⟩, HJ.out, d0, d1⟩
            rw [List.map_append, hq.out.2.2, List.range_succ]
            simp [HX.out.1]
          case measure => simp [intOf]; omega
        · gi_wp2
          refine bodyPost_ret (results_none rfl _ _ _) rfl ?_
          exact ⟨⟨_, rfl⟩, .inr ⟨_, hJx3⟩⟩
    · gi_wp2
      go_end0
      refine ⟨⟨_, rfl⟩, .inl ⟨ys, ?_, hJs⟩⟩
      rw [hq.out.2.2, show q = blks len by have := hq.out; unfold blks at *; omega]
set_option maxRecDepth 100000 in
set_option maxHeartbeats 1000000 in
/-- .. where there are no bytes. -/
theorem chunk_none_in (F : Fence) (n : Nat) (hF : F.fn 96) (hro : F.round = none) {α : Type} (l Bs Bn cap : Nat) (P : Option Addr) (J : List α → World → Prop) (W : World) (hBs : W.cell? ⟨Bs, 0, none⟩ = some (.slice P 0 cap)) (h0 : J [] W) :
    CallsIn F n Tryz.prog 96 #[.func (.yield l) #[] #[], .pointer (some ⟨Bs, 0, none⟩), .pointer (some ⟨Bn, 0, none⟩)] W fun e W' => (∃ v, e = .returned v) ∧ J [] W' := by
  refine callsIn_of_wp Tryz.func96 rfl hF ?_ hro
  simp only [Tryz.ntmps96, List.size_toArray, List.length_cons, List.length_nil, Nat.reduceAdd, Nat.reduceSub, Array.replicate_succ, Array.replicate_zero, List.push_toArray, List.append_toArray, List.nil_append, List.cons_append]
  gi_wp2
  gi_loopw [4] (fun iv wr => iv = .int .i64 0 ∧ J [] wr ∧ wr.cell? ⟨Bs, 0, none⟩ = some (.slice P 0 cap)) (fun _ _ => 0)
  case atStart => exact ⟨rfl, h0, hBs⟩
  case round =>
    obtain ⟨rfl, hJs, c0⟩ := hrel
    gi_wp2
    go_end0
    exact ⟨⟨_, rfl⟩, hJs⟩
theorem Part.none_ {len : Nat} (h : len = 0) (x : Part len) : False := by have := x.2; omega
/-- What slices.Chunk hands back. -/
theorem chunk_stops (F : Fence) (n : Nat) (hF : F.fn 96) (hro : F.round = none) (hn : 1 ≤ n) (Bs Bn g o len cap : Nat) (P : Option Addr) (hP : 0 < len → P = some ⟨g, o, none⟩) (hlen : len ≤ 1000000) (hcap : len ≤ cap) (hcb : cap ≤ 9223372036854775807) (w : World) (hs0 : Bs < w.heap.size) (hn0 : Bn < w.heap.size)
    (c0 : w.cell? ⟨Bs, 0, none⟩ = some (.slice P len cap)) (c1 : w.cell? ⟨Bn, 0, none⟩ = some (.int .i64 64)) :
    SeqStopsK F n Tryz.prog 96 #[.pointer (some ⟨Bs, 0, none⟩), .pointer (some ⟨Bn, 0, none⟩)] (fun x : Part len => partV g o len x.1) (KpC Bs Bn) (fun ys => ys.map (·.1) = List.range (blks len)) (fun _ => True) (blks len) w := fun l J Jx W hW hJ _ hY h0 => by
  have d0 := (hW.cell (p := ⟨Bs, 0, none⟩) hs0).trans c0
  have d1 := (hW.cell (p := ⟨Bn, 0, none⟩) hn0).trans c1
  by_cases hl : len = 0
  · subst hl
    exact (chunk_none_in F n hF hro l Bs Bn cap P J W d0 h0).mono fun e W' ⟨he, hj⟩ => ⟨he, .inl ⟨[], rfl, hj⟩⟩
  · rw [hP (by omega)] at d0
    refine (chunk_in F n hF hro hn l Bs Bn g o len cap hlen hcap hcb J Jx (fun pre W h => hJ pre W W.drew none h (drew_grown W) (fun r e => by cases e)) hY W d0 d1 h0).mono ?_
    rintro e W' ⟨he, ⟨ys, h1, h2⟩ | ⟨pre, hj⟩⟩
    · exact ⟨he, .inl ⟨ys, h1, h2⟩⟩
    · exact ⟨he, .inr ⟨pre, trivial, hj⟩⟩
end Go.Proofs.YtkmkblhmjeeaeaaGreatDoor
end

/-
  slices.Chunk of writes, where there is one. Conditions: those of the theorems.
-/

section
set_option linter.unusedSimpArgs false
set_option linter.unusedVariables false
set_option maxRecDepth 100000
namespace Go.Proofs.YtkmkblhmjeeaeaaGreatDoor
open Go.RowKit Go.Shelf

attribute [local go_sem] Oper.semAt_some

set_option maxRecDepth 100000 in
set_option maxHeartbeats 4000000 in
/-- The iterator over writes, where there is one. -/
theorem chunkw_in (F : Fence) (n : Nat) (hF : F.fn 104) (hro : F.round = none) (hn : 1 ≤ n) (l Bs Bn g cap k : Nat) (hk : 1 ≤ k) (hk1 : k ≤ 1000) (hcap : 1 ≤ cap) (hcb : cap ≤ 9223372036854775807) (J Jx : List Unit → World → Prop)
    (hJd : ∀ pre W, J pre W → J pre W.drew)
    (hY : ∀ pre (x : Unit) W, J pre W → pre.length < 1 → YieldAt F (n - 1) Tryz.prog l #[.slice (some ⟨g, 0, none⟩) 1 1] W fun e W' =>
      (e = .returned (.bool true) ∧ J (pre ++ [x]) W' ∧ KpC Bs Bn W W') ∨ (e = .returned (.bool false) ∧ Jx (pre ++ [x]) W'))
    (W : World) (hBs : W.cell? ⟨Bs, 0, none⟩ = some (.slice (some ⟨g, 0, none⟩) 1 cap)) (hBn : W.cell? ⟨Bn, 0, none⟩ = some (.int .i64 k)) (h0 : J [] W) :
    CallsIn F n Tryz.prog 104 #[.func (.yield l) #[] #[], .pointer (some ⟨Bs, 0, none⟩), .pointer (some ⟨Bn, 0, none⟩)] W fun e W' => (∃ v, e = .returned v) ∧
      ((∃ ys : List Unit, ys = [()] ∧ J ys W') ∨ (∃ pre, Jx pre W')) := by
  have HD := Lib.hid hJd
  clear hJd
  refine callsIn_of_wp Tryz.func104 rfl hF ?_ hro
  simp only [Tryz.ntmps104, List.size_toArray, List.length_cons, List.length_nil, Nat.reduceAdd, Nat.reduceSub, Array.replicate_succ, Array.replicate_zero, List.push_toArray, List.append_toArray, List.nil_append, List.cons_append]
  gi_wp2
  gi_loopw [4] (fun iv wr => ∃ (i : Nat) (ys : List Unit), iv = .int .i64 (i : Int) ∧ i ≤ 1000 ∧ Hid ((i = 0 ∧ ys = []) ∨ (i = k ∧ ys = [()])) ∧ J ys wr ∧ wr.cell? ⟨Bs, 0, none⟩ = some (.slice (some ⟨g, 0, none⟩) 1 cap) ∧ wr.cell? ⟨Bn, 0, none⟩ = some (.int .i64 k))
    (fun iv _ => 1 - (intOf iv).toNat)
  case atStart => exact ⟨0, [], rfl, by omega, Lib.hid (.inl ⟨rfl, rfl⟩), h0, hBs, hBn⟩
  case round =>
    obtain ⟨i, ys, rfl, hi, hq, hJs, c0, c1⟩ := hrel
    by_cases hlt : i < 1
    · obtain rfl : ys = [] := by rcases hq.out with h | h; exact h.2; omega
      obtain rfl : i = 0 := by omega
      obtain ⟨fn, tmps, assign, body, hy, hR⟩ := hY [] () wr.drew (HD.out _ _ hJs) (by decide)
      have hne : ¬ (cap = 0) := by omega
      have hmin : min (k : Int) 1 = 1 := by omega
      gi_wp2
      gi_region
      all_goals
        gi_wp2
        refine hR.mono ?_
        rintro e W3 (⟨rfl, hJ3, hk3⟩ | ⟨rfl, hJx3⟩)
        · have d0 := hk3.1 _ (show wr.drew.cell? ⟨Bs, 0, none⟩ = _ from c0)
          have d1 := hk3.2 _ (show wr.drew.cell? ⟨Bn, 0, none⟩ = _ from c1)
          have HJ := Lib.hid hJ3
          gi_wp2
          go_roundw
          case rel => exact ⟨k, [()], by go_num, by omega, Lib.hid (.inr ⟨rfl, rfl⟩), HJ.out, d0, d1⟩
          case measure => simp [intOf]; omega
        · gi_wp2
          refine bodyPost_ret (results_none rfl _ _ _) rfl ?_
          exact ⟨⟨_, rfl⟩, .inr ⟨_, hJx3⟩⟩
    · have hys : ys = [()] := by rcases hq.out with h | h; omega; exact h.2
      subst hys
      gi_wp2
      go_end0
      exact ⟨⟨_, rfl⟩, .inl hJs⟩
theorem chunkw_stops (F : Fence) (n : Nat) (hF : F.fn 104) (hro : F.round = none) (hn : 1 ≤ n) (Bs Bn g cap k : Nat) (hk : 1 ≤ k) (hk1 : k ≤ 1000) (hcap : 1 ≤ cap) (hcb : cap ≤ 9223372036854775807) (w : World) (hs0 : Bs < w.heap.size) (hn0 : Bn < w.heap.size)
    (c0 : w.cell? ⟨Bs, 0, none⟩ = some (.slice (some ⟨g, 0, none⟩) 1 cap)) (c1 : w.cell? ⟨Bn, 0, none⟩ = some (.int .i64 k)) :
    SeqStopsK F n Tryz.prog 104 #[.pointer (some ⟨Bs, 0, none⟩), .pointer (some ⟨Bn, 0, none⟩)] (fun _ : Unit => #[.slice (some ⟨g, 0, none⟩) 1 1]) (KpC Bs Bn) (fun ys => ys = [()]) (fun _ => True) 1 w := fun l J Jx W hW hJ _ hY h0 => by
  have d0 := (hW.cell (p := ⟨Bs, 0, none⟩) hs0).trans c0
  have d1 := (hW.cell (p := ⟨Bn, 0, none⟩) hn0).trans c1
  refine (chunkw_in F n hF hro hn l Bs Bn g cap k hk hk1 hcap hcb J Jx (fun pre W h => hJ pre W W.drew none h (drew_grown W) (fun r e => by cases e)) hY W d0 d1 h0).mono ?_
  rintro e W' ⟨he, ⟨ys, h1, h2⟩ | ⟨pre, hj⟩⟩
  · exact ⟨he, .inl ⟨ys, h1, h2⟩⟩
  · exact ⟨he, .inr ⟨pre, trivial, hj⟩⟩
end Go.Proofs.YtkmkblhmjeeaeaaGreatDoor
end

/-
  begin: a table without nodes is laid in a log whose nodes' sectors are blank: one commit, of the front. Conditions: the log is at rest, and blank.
-/

section
set_option linter.unusedSimpArgs false
set_option linter.unusedVariables false
set_option maxRecDepth 100000
namespace Go.Proofs.YtkmkblhmjeeaeaaGreatDoor
open Go.RowKit Go.Maps Go.Shelf

attribute [local go_sem] Oper.semAt_some

/-- Cells stay as they are, and what lay below B. -/
structure CB (B : Nat) (w w' : World) : Prop where
  keep : ∀ (g : Nat) (o : Obj), w.heap[g]? = some o → o.isCells = true → w'.heap[g]? = some o
  below : Below B w w'
theorem CB.blk {B : Nat} {w w' : World} (h : CB B w w') {g : Nat} {t : TypeId} {cs : List Value} (hb : Blk w g t cs) : Blk w' g t cs := h.keep g _ hb rfl
theorem CB.turn {B C : Nat} {w w' : World} {row : Option Nat} (hg : w.grownBy w' row) (hr : ∀ r, row = some r → C ≤ r ∧ ∃ o : Obj, w.heap[r]? = some o ∧ o.isCells = false) (hB : B ≤ C) (hs : B ≤ w.heap.size) : CB B w w' :=
  ⟨fun g o ho hc => (hg.block g (Array.getElem?_eq_some_iff.1 ho).1 (fun e => by
    obtain ⟨_, o', ho', hc'⟩ := hr g e.symm
    rw [ho] at ho'
    cases ho'
    rw [hc] at hc'
    cases hc')).trans ho, (Below.refl B w).grown hg hs (fun r e => Nat.le_trans hB (hr r e).1)⟩
theorem CB.marked {B N : Nat} {w w' : World} (h : Marked N w w') (hB : B ≤ N) : CB B w w' := ⟨fun g o ho hc => (h.block g (.inr fun l e => by rw [ho] at e; cases e; cases hc)).trans ho, h.below.mono hB⟩
section
variable {ks : List B32} {B D L G n j N K : Nat} {S : Nat → List B8} {c : Nat} {w w' : World}
theorem Lg.cb (h : Lg ks B D L G n j S c w) (hc : CB B w w') : Lg ks B D L G n j S c w' := by
  obtain ⟨⟨cw, cf, dn, red, g1, g2, g3, h4, h5⟩, h6, h7, h8, h9⟩ := h
  obtain ⟨s, hd, hw, rest⟩ := h4
  refine ⟨⟨cw, cf, dn, red, g1, g2, g3, ⟨s, ⟨hc.blk hd.disk, hc.blk hd.laid, ?_, hd.baseD, hd.baseL, hd.good⟩, hw, rest⟩, hc.blk h5⟩, h6.below hc.below h7, h7, h8, Nat.le_trans h9 hc.below.size⟩
  rw [hw]
  exact World.ownsRow_nil _ _ _ _
theorem Lg.set1 {p : Addr} {u : Value} (h : Lg ks B D L G n j S c w) (hp : B ≤ p.block) (h1 : p.block ≠ D) (h2 : p.block ≠ L) (h3 : p.block ≠ G) : Lg ks B D L G n j S c (w.setCell p u) := h.set_ hp h1 h2 h3
end
theorem Lg.roots_ {ks : List B32} {B D L G n j : Nat} {S : Nat → List B8} {c : Nat} {w : World} (h : Lg ks B D L G n j S c w) : Roots ks w := h.roots
theorem Wrs.recap {A : Nat → Prop} {w : World} {g c : Nat} {ws : List (Int × List B8)} {m : Nat} (h : Wrs A w (.slice (some ⟨g, 0, none⟩) m c) ws) : Wrs A w (.slice (some ⟨g, 0, none⟩) m m) ws := by
  rcases h with ⟨e, _⟩ | ⟨g', cap, cs, e, hA, hb, h1, h2, hc⟩
  · cases e
  · cases e
    exact .inr ⟨g, ws.length, cs, rfl, hA, hb, Nat.le_refl _, by omega, hc⟩

theorem Lg.kp {ks : List B32} {B D L G n j N' : Nat} {S : Nat → List B8} {c : Nat} {w w' : World} (h : Lg ks B D L G n j S c w) (hk : Kp N' (· = 146) [] w w') (hB : B ≤ N') : Lg ks B D L G n j S c w' := by
  obtain ⟨⟨cw, cf, dn, red, g1, g2, g3, h4, h5⟩, h6, h7, h8, h9⟩ := h
  obtain ⟨s, hd, hw, rest⟩ := h4
  refine ⟨⟨cw, cf, dn, red, g1, g2, g3, ⟨s, ⟨hk.keep _ _ _ (by decide) (by simp) hd.disk, hk.keep _ _ _ (by decide) (by simp) hd.laid, ?_, hd.baseD, hd.baseL, hd.good⟩, hw, rest⟩, hk.keep _ _ _ (by decide) (by simp) h5⟩, h6.below (hk.below.mono hB) h7, h7, h8, Nat.le_trans h9 hk.size⟩
  rw [hw]
  exact World.ownsRow_nil _ _ _ _
theorem Stp.turn {B C : Nat} {X : List Nat} {w a b : World} {row : Option Nat} (h : Stp B X w a) (hg : a.grownBy b row) (hr : ∀ r, row = some r → C ≤ r ∧ ∃ o : Obj, a.heap[r]? = some o ∧ o.isCells = false) (hC : w.heap.size ≤ C) (hB : B ≤ C) (hBa : B ≤ a.heap.size) : Stp B X w b := by
  have hc : CB B a b := CB.turn hg hr hB hBa
  refine ⟨h.below.trans hc.below, fun g t cs h1 h2 hb => hc.blk (h.keep g t cs h1 h2 hb), fun g o h1 h2 => ?_⟩
  have h3 := h.others g o h1 h2
  refine (hg.block g (Array.getElem?_eq_some_iff.1 h3).1 (fun e => ?_)).trans h3
  have := (hr g e.symm).1
  have := (Array.getElem?_eq_some_iff.1 h1).1
  omega
theorem Stp.marked {B N : Nat} {X : List Nat} {w a b : World} (h : Stp B X w a) (hm : Marked N a b) (hN : w.heap.size ≤ N) (hB : B ≤ N) : Stp B X w b := by
  have hc : CB B a b := CB.marked hm hB
  refine ⟨h.below.trans hc.below, fun g t cs h1 h2 hb => hc.blk (h.keep g t cs h1 h2 hb), fun g o h1 h2 => ?_⟩
  have h3 := h.others g o h1 h2
  exact (hm.block g (.inl (by have := (Array.getElem?_eq_some_iff.1 h1).1; omega))).trans h3
theorem Wrs.cb {A : Nat → Prop} {B : Nat} {w w' : World} {v : Value} {ws : List (Int × List B8)} (h : Wrs A w v ws) (hc : CB B w w') : Wrs A w' v ws := by
  rcases h with h | ⟨g, cap, cs, e, hA, hb, h1, h2, hcs⟩
  · exact .inl h
  · refine .inr ⟨g, cap, cs, e, hA, hc.blk hb, h1, h2, fun i p hp => ?_⟩
    obtain ⟨c0, u, c1, hu⟩ := hcs i p hp
    refine ⟨c0, u, c1, ?_⟩
    rcases hu with hu | ⟨g, o, cap, t, cs, e, hA, hn, hb, hx, h1, h2⟩
    · exact .inl hu
    · exact .inr ⟨g, o, cap, t, cs, e, hA, hn, hc.blk hb, hx, h1, h2⟩
theorem right_front (ks : List B32) (N K : Nat) : Right (1 + N + K) [(0, frontN ks N)] := ⟨fun p hp => by
  simp only [List.mem_singleton] at hp
  subst hp
  exact ⟨by simp, by simp; omega, frontN_length ks N⟩, by simp [secs]⟩
/-- Where the one commit stands. -/
structure BgSt (ks : List B32) (B D L G n j N : Nat) (S : Nat → List B8) (c : Nat) (w : World) (bs bn g8 q8 k : Nat) (pre : List Unit) (W : World) : Prop where
  lg : (pre = [] ∧ Lg ks B D L G n j S c W) ∨ (pre = [()] ∧ ∃ S', Lg ks B D L G n j S' (c + 50) W ∧ dvj j S' = layS (dvj j S) [(0, frontN ks N)])
  stp : Stp B [D, L, G] w W
  lay : Blk W w.heap.size 77 [.pointer (some ⟨G, 0, none⟩), .int .i64 (N : Int)]
  err : Blk W (w.heap.size + 1) 36 [.int .i64 0]
  bs : Blk W bs 85 [.slice (some ⟨g8, 0, none⟩) 1 q8]
  bn : Blk W bn 3 [.int .i64 (k : Int)]
  ws : Wrs (fun q => w.heap.size ≤ q) W (.slice (some ⟨g8, 0, none⟩) 1 1) [(0, frontN ks N)]
theorem BgSt.turn {ks : List B32} {B D L G n j N : Nat} {S : Nat → List B8} {c : Nat} {w X Y : World} {bs bn g8 q8 k C : Nat} {pre : List Unit} {row : Option Nat} (h : BgSt ks B D L G n j N S c w bs bn g8 q8 k pre X) (hg : X.grownBy Y row) (hr : ∀ r, row = some r → C ≤ r ∧ ∃ o : Obj, X.heap[r]? = some o ∧ o.isCells = false) (hC : w.heap.size ≤ C) (hB : B ≤ w.heap.size) : BgSt ks B D L G n j N S c w bs bn g8 q8 k pre Y := by
  have hBX : B ≤ X.heap.size := Nat.le_trans hB h.stp.size
  have hc : CB B X Y := CB.turn hg hr (by omega) hBX
  refine ⟨?_, h.stp.turn hg hr hC (by omega) hBX, hc.blk h.lay, hc.blk h.err, hc.blk h.bs, hc.blk h.bn, h.ws.cb hc⟩
  rcases h.lg with ⟨h1, h2⟩ | ⟨h1, S', h2, h3⟩
  · exact .inl ⟨h1, h2.cb hc⟩
  · exact .inr ⟨h1, S', h2.cb hc, h3⟩
theorem BgSt.kpc {ks : List B32} {B D L G n j N : Nat} {S : Nat → List B8} {c : Nat} {w X Y : World} {bs bn g8 q8 k : Nat} {pre pre' : List Unit} (h : BgSt ks B D L G n j N S c w bs bn g8 q8 k pre X) (h' : BgSt ks B D L G n j N S c w bs bn g8 q8 k pre' Y) : KpC bs bn X Y :=
  ⟨fun v hv => by rw [h.bs.cell 0] at hv; rw [h'.bs.cell 0]; exact hv, fun v hv => by rw [h.bn.cell 0] at hv; rw [h'.bn.cell 0]; exact hv⟩

set_option maxRecDepth 100000 in
set_option maxHeartbeats 8000000 in
theorem ibegin_any {ks : List B32} {B D L G n j N K : Nat} {S : Nat → List B8} {c : Nat} {w : World} (hL : Lg ks B D L G n j S c w) (hg : Geo n j N K) (hc : c < 400000) (hz : ∀ k, 1 ≤ k → k ≤ N → dvj j S k = zeros64) :
    Calls Tryz.prog 37 #[lay G N] w fun e w' => e = .returned (.int .i64 0) ∧ (∃ S', Lg ks B D L G n j S' (c + 50) w' ∧ dvj j S' = layS (dvj j S) [(0, frontN ks N)]) ∧ Stp B [D, L, G] w w' := by
  refine (callsIn_wide (n := 8)).1 (callsIn_of_wp_marks Tryz.func37 rfl trivial (wpIn_wide.2 ?_))
  simp only [Tryz.ntmps37, List.size_toArray, List.length_cons, List.length_nil, Nat.reduceAdd, Nat.reduceSub, Array.replicate_succ, Array.replicate_zero, List.push_toArray, List.append_toArray, List.nil_append, List.cons_append]
  have hN1 := hg.N1
  have hk0 := (Blk.new w 77 [.pointer (some ⟨G, 0, none⟩), .int .i64 (N : Int)]).alloc (.cells #[.int .i64 0] 36)
  have hk1 := Blk.new (w.alloc (.cells #[.pointer (some ⟨G, 0, none⟩), .int .i64 (N : Int)] 77)) 36 [.int .i64 0]
  rw [World.size_alloc] at hk1
  have hb1 := below_of (new_below w (.cells #[.pointer (some ⟨G, 0, none⟩), .int .i64 (N : Int)] 77)) (new_below _ (.cells #[.int .i64 0] 36))
  have HL := Lib.hid (And.intro hL (And.intro hg hz))
  have H0 := Lib.hid (And.intro hk0 (And.intro hk1 hb1))
  have t1 : ((w.alloc (.cells #[.pointer (some ⟨G, 0, none⟩), .int .i64 (N : Int)] 77)).alloc (.cells #[.int .i64 0] 36)).cell? ⟨w.heap.size, 1, none⟩ = some (.int .i64 (N : Int)) := hk0.cell 1
  clear hL hg hz hk0 hk1 hb1
  go_wp2_with fail
  go_loopw [3, 12] (fun lv iv wr => lv = .slice none 0 0 ∧ ∃ i : Nat, i ≤ N ∧ iv = .int .i64 i ∧ Below w.heap.size w wr ∧ Blk wr w.heap.size 77 [.pointer (some ⟨G, 0, none⟩), .int .i64 (N : Int)] ∧ Blk wr (w.heap.size + 1) 36 [.int .i64 0]) (fun _ iv _ => N - (intOf iv).toNat)
  case atStart => exact ⟨rfl, 0, Nat.zero_le _, rfl, H0.out.2.2, H0.out.1, H0.out.2.1⟩
  case round =>
    clear t1 H0
    obtain ⟨rfl, i, hi, rfl, hbel, hk0, hk1⟩ := hrel
    by_cases hlt : i < N
    · have HNA := Lib.hid (nodeAt_any (G := G) (N := N) (w := wr) i (by omega))
      have HR := Lib.hid (And.intro hbel (And.intro hk0 hk1))
      have b0 : wr.cell? ⟨w.heap.size, 0, none⟩ = some (.pointer (some ⟨G, 0, none⟩)) := hk0.cell 0
      have b1 : wr.cell? ⟨w.heap.size, 1, none⟩ = some (.int .i64 (N : Int)) := hk0.cell 1
      clear hbel hk0 hk1
      go_wp2_with (first
        | (go_at_call 58; refine HNA.out.mono ?_; rintro e w2 ⟨rfl, hW⟩; have d0 := cell_below b0 hW; have d1 := cell_below b1 hW; have HB := Lib.hid (blank_any ((HL.out.1.below HR.out.1).below hW) HL.out.2.1 (1 + i) (by omega) true (by rw [HL.out.2.2 (1 + i) (by omega) (by omega)]; simp)); have H2 := Lib.hid hW; clear hW b0 b1)
        | (go_at_call 36; refine HB.out.mono ?_; rintro e w3 ⟨rfl, hW⟩; have H3 := Lib.hid (below_of H2.out hW); clear hW)
        | go_in)
      go_roundw
      case rel => exact ⟨rfl, i + 1, by omega, by go_num, HR.out.1.trans (H3.out.mono HR.out.1.size), HR.out.2.1.below H3.out HR.out.2.1.lt, HR.out.2.2.below H3.out HR.out.2.2.lt⟩
      case measure => simp [intOf]; omega
    · obtain rfl : i = N := by omega
      have b0 : wr.cell? ⟨w.heap.size, 0, none⟩ = some (.pointer (some ⟨G, 0, none⟩)) := hk0.cell 0
      have b1 : wr.cell? ⟨w.heap.size, 1, none⟩ = some (.int .i64 (i : Int)) := hk0.cell 1
      have HF := Lib.hid (front_any ks wr i (HL.out.1.below hbel).roots (by omega))
      have hsz := hbel.size
      have HR := Lib.hid (And.intro hbel (And.intro hk0 hk1))
      obtain ⟨k, hkj⟩ : ∃ k, j / 2 = k := ⟨_, rfl⟩
      have hk1' : 1 ≤ k := by have := HL.out.2.1.j0; omega
      have hk2' : k ≤ 15 := by have := HL.out.2.1.j1; omega
      have HKJ := Lib.hid hkj
      clear hbel hk0 hk1 hkj
      go_wp2_with (first
        | (go_at_call 69; refine HF.out.mono ?_; rintro e w2 ⟨gf, rfl, hgf, hB, hW⟩; have d0 := cell_below b0 hW; have hs2 := hW.size; have hnb := new_below w2 (.cells #[.int .i64 0, .slice (some ⟨gf, 0, none⟩) 64 64] 146); have H2 := Lib.hid (And.intro (below_of (HR.out.1.trans (hW.mono HR.out.1.size)) hnb) (And.intro (Blk.new w2 146 [.int .i64 0, .slice (some ⟨gf, 0, none⟩) 64 64]) (And.intro (hB.below hnb hB.lt) (And.intro ((HR.out.2.1.below hW HR.out.2.1.lt).below hnb (HR.out.2.1.below hW HR.out.2.1.lt).lt) ((HR.out.2.2.below hW HR.out.2.2.lt).below hnb (HR.out.2.2.below hW HR.out.2.2.lt).lt))))); clear hB hW hnb b0)
        | (at_builtin; refine wpList_app_write (A := fun q => w.heap.size ≤ q) (N := w.heap.size) rfl (.tmp 38) (.tmp 43) rfl rfl (WOwn.nil _ _ _) w2.heap.size 0 (some ⟨gf, 0, none⟩) 64 64 rfl H2.out.2.1 (frontN ks i) (Bts.of_blk H2.out.2.2.1 (.inl rfl) (by omega) (by rw [List.drop_zero, List.take_of_length_le (by simp [Vb_length])]) (frontN_length ks i) (Nat.le_refl _) (by unfold maxLen; omega)) (by simp) (by simp; omega) ?_; intro g8 q8 w8 hown8 hk8; have hl8 := hk8.keep _ _ _ (by decide) (by simp) H2.out.2.2.2.1; have he8 := hk8.keep _ _ _ (by decide) (by simp) H2.out.2.2.2.2; have x0 : w8.cell? ⟨w.heap.size, 0, none⟩ = some (.pointer (some ⟨G, 0, none⟩)) := hl8.cell 0; have hLg8 := Lg.kp (HL.out.1.below H2.out.1) hk8 HL.out.1.size; have hM0 := lg_most hLg8 (by have := HL.out.2.1.j1; omega); rw [HKJ.out] at hM0; have HM := Lib.hid hM0; have H8 := Lib.hid (And.intro hown8 (And.intro hl8 (And.intro he8 (And.intro hLg8 hk8)))); clear hown8 hl8 he8 hLg8 hk8 d0 hM0)
        | (go_at_call 72; refine HM.out.mono ?_; rintro e w9 ⟨rfl, hW⟩; have H9 := Lib.hid hW; have x1 := cell_below x0 hW; clear hW HM x0)
        | (go_at_call 71; refine (chunkw_make _ _ _ _ k hk1').mono ?_; rintro e w10 ⟨rfl, rfl⟩)
        | go_in)
      have hsz5 : ((w9.alloc (.cells #[.slice (some ⟨g8, 0, none⟩) 1 q8] 85)).alloc (.cells #[.int .i64 (k : Int)] 3)).heap.size = w9.heap.size + 1 + 1 := by simp
      have hb5 := below_of H9.out (below_of (new_below w9 (.cells #[.slice (some ⟨g8, 0, none⟩) 1 q8] 85)) (new_below _ (.cells #[.int .i64 (k : Int)] 3)))
      have hbase := HL.out.1.size
      have hlt3 := HL.out.1.lt
      have hs29 : w2.heap.size ≤ w9.heap.size := by have h1 := H8.out.2.2.2.2.size; have h2 := H9.out.size; simp at h1; omega
      have X5 : BgSt ks B D L G n j i S c w w9.heap.size (w9.heap.size + 1) g8 q8 k [] ((w9.alloc (.cells #[.slice (some ⟨g8, 0, none⟩) 1 q8] 85)).alloc (.cells #[.int .i64 (k : Int)] 3)) := by
        refine ⟨.inl ⟨rfl, H8.out.2.2.2.1.below hb5⟩, ?_, H8.out.2.1.below hb5 H8.out.2.1.lt, H8.out.2.2.1.below hb5 H8.out.2.2.1.lt, ?_, ?_, ?_⟩
        · have h1 : Stp B [D, L, G] w (w2.alloc (.cells #[.int .i64 0, .slice (some ⟨gf, 0, none⟩) 64 64] 146)) := Stp.of_below hbase H2.out.1
          have h3 : Stp B [D, L, G] w w8 := by
            have hk8 := H8.out.2.2.2.2
            refine ⟨h1.below.trans (hk8.below.mono hbase), fun g t cs h4 h5 hb => ?_, fun g o h4 h5 => hk8.others g o (h1.others g o h4 h5) h5⟩
            unfold Blk
            have := hk8.below.block g hb.lt
            rw [this]
            exact h1.keep g t cs h4 h5 hb
          exact h3.trans (Stp.of_below (by have := H8.out.2.2.2.2.size; have := H2.out.1.size; omega) hb5)
        · have := (Blk.new w9 85 [.slice (some ⟨g8, 0, none⟩) 1 q8]).alloc (.cells #[.int .i64 (k : Int)] 3)
          exact this
        · have := Blk.new (w9.alloc (.cells #[.slice (some ⟨g8, 0, none⟩) 1 q8] 85)) 3 [.int .i64 (k : Int)]
          simp only [World.size_alloc] at this
          exact this
        · have h1 := (H8.out.1.wrs).mono (A' := fun q => w.heap.size ≤ q) (fun g hg _ => by rcases hg with h | h <;> exact h)
          exact (Wrs.recap (h1.below hb5))
      have hcq : 1 ≤ q8 ∧ q8 ≤ 9223372036854775807 := by
        obtain ⟨cells, h1, _⟩ := H8.out.1
        rcases h1.2 with ⟨e, _⟩ | ⟨b, cap, cur, e, _, _, g3, g4, _⟩
        · cases e
        · cases e
          exact ⟨by simpa using g3, by unfold maxLen at g4; omega⟩
      clear hb5
      obtain ⟨W5, hW5⟩ : ∃ W5, ((w9.alloc (.cells #[.slice (some ⟨g8, 0, none⟩) 1 q8] 85)).alloc (.cells #[.int .i64 (k : Int)] 3)) = W5 := ⟨_, rfl⟩
      rw [hW5] at X5 hsz5 ⊢
      clear hW5
      have hsw : w.heap.size ≤ W5.heap.size := by have := HR.out.1.size; omega
      refine (wpIn_wide (n := 8)).1 ?_
      refine wpIn_rangeFunc_ownG (F := Fence.wide) rfl (by omega) (gf := 104) (lb := #[.pointer (some ⟨w9.heap.size, 0, none⟩), .pointer (some ⟨w9.heap.size + 1, 0, none⟩)]) rfl trivial (enters_of Tryz.func104 (by kernel_rfl) rfl)
        (chunkw_stops Fence.wide _ trivial rfl (by omega) w9.heap.size (w9.heap.size + 1) g8 q8 k hk1' (by omega) hcq.1 hcq.2 W5 (by omega) (by omega) (X5.bs.cell 0) (X5.bn.cell 0))
        (fun h k => h.trans k) (fun W l o o' _ ho hc _ => KpC.put W l o o' ho hc) (Below.refl _ _) (fun _ => rfl)
        (fun pre W => BgSt ks B D L G n j i S c w w9.heap.size (w9.heap.size + 1) g8 q8 k pre W) (fun _ _ _ => False)
        (fun pre X Y row h hg hr => h.turn hg hr hsw hbase) (fun _ _ _ _ _ hs _ _ => hs) X5
        (fun _ => { tmps := #[lay G i, .pointer (some ⟨w.heap.size, 0, none⟩), .pointer (some ⟨w.heap.size + 1, 0, none⟩), .slice (some ⟨g8, 0, none⟩) 1 q8, u4, u5, u6, u7, .slice (some ⟨g8, 0, none⟩) 1 1, undef, .pointer (some ⟨w.heap.size, 1, none⟩), .int .i64 (i : Int), .int .i64 (i : Int), .bool false, u14, u15, u16, u17, u18, u19, u20, u21, u22, u23, u24, u25, u26, u27, u28, u29, u30, u31, u32, u33, u34, u35, u36, u37, .slice none 0 0, .pointer (some ⟨w.heap.size, 1, none⟩), .int .i64 (i : Int), .slice (some ⟨gf, 0, none⟩) 64 64, .agg #[.int .i64 0, .slice (some ⟨gf, 0, none⟩) 64 64], .slice (some ⟨w2.heap.size, 0, none⟩) 1 1, .slice (some ⟨g8, 0, none⟩) 1 q8, .slice (some ⟨g8, 0, none⟩) 1 q8, .pointer (some ⟨w.heap.size, 0, none⟩), .pointer (some ⟨G, 0, none⟩), .int .i64 (k : Int), .func (.func 104) #[] #[.pointer (some ⟨w9.heap.size, 0, none⟩), .pointer (some ⟨w9.heap.size + 1, 0, none⟩)], .slice (some ⟨g8, 0, none⟩) 1 1, undef, undef, undef, undef, undef, undef, undef], defers := [] }) ?assign ?body ?done ?stop
      case assign =>
        intro l' x W K' hK'
        simp only [List.zip_toArray, List.zip_cons_cons, List.zip_nil_left, List.foldl_toArray, List.foldl_cons, List.foldl_nil, List.setIfInBounds_toArray, List.set_cons_zero, List.set_cons_succ]
        gi_wp2
        exact hK'
      case body =>
        rintro l' pre x W hI hlt'
        obtain rfl : pre = [] := List.eq_nil_of_length_eq_zero (by omega)
        have HI := Lib.hid hI
        have hLW : Lg ks B D L G n j S c W := by
          rcases hI.lg with ⟨_, h⟩ | ⟨h, _⟩
          · exact h
          · cases h
        have y0 : W.cell? ⟨w.heap.size, 0, none⟩ = some (.pointer (some ⟨G, 0, none⟩)) := hI.lay.cell 0
        have HC := Lib.hid (lg_commit hLW HL.out.2.1 (by omega) hI.ws (fun g hg => by simp; omega) (right_front ks i K) (by have := HL.out.2.1.j0; omega))
        have hn1 : 1 ≤ 8 - 1 - 1 := by omega
        clear hI hLW
        gi_wp2_with (refine ⟨trivial, ?_⟩; gi_at_call 28; refine (CallsIn.inRound l' (callsIn_wide.2 HC.out)).mono ?_; rintro e W3 ⟨rfl, hS3, hst3⟩; have H3 := Lib.hid (And.intro hS3 hst3); clear hS3 hst3)
        obtain ⟨hS3, hst3⟩ := H3.out
        have hI := HI.out
        have hstep : BgSt ks B D L G n j i S c w w9.heap.size (w9.heap.size + 1) g8 q8 k ([] ++ [x]) W3 := ⟨.inr ⟨rfl, hS3⟩, hI.stp.trans hst3, hst3.keep _ _ _ (by decide) (by simp; omega) hI.lay, hst3.keep _ _ _ (by decide) (by simp; omega) hI.err, hst3.keep _ _ _ (by decide) (by simp; omega) hI.bs, hst3.keep _ _ _ (by decide) (by simp; omega) hI.bn, hI.ws.stp hst3 (fun g hg => by simp; omega)⟩
        exact ⟨⟨hst3.size, fun k o _ ho hc => hst3.others k o ho hc⟩, hI.kpc hstep, hstep⟩
      case done =>
        rintro D' xs W hD hS hI hK'
        subst hS
        have hS' : ∃ S', Lg ks B D L G n j S' (c + 50) W ∧ dvj j S' = layS (dvj j S) [(0, frontN ks i)] := by
          rcases hI.lg with ⟨h, _⟩ | ⟨_, h⟩
          · cases h
          · exact h
        have y1 := hI.err.cell 0
        have yf := hI.err.frozen 0
        simp only [List.getElem?_cons_zero] at y1
        have HE := Lib.hid (And.intro hS' (And.intro hI.stp (And.intro hI.err hK')))
        clear hS' hI hK'
        go_wp2_with fail
        obtain ⟨⟨S', hL', hdv⟩, hst, herr, hDW⟩ := HE.out
        have he2 : Blk (W.setCell ⟨w.heap.size + 1, 0, none⟩ (.int .i64 0)) (w.heap.size + 1) 36 [.int .i64 0] := herr.set_ 0 _
        have hst2 : Stp B [D, L, G] w (W.setCell ⟨w.heap.size + 1, 0, none⟩ (.int .i64 0)) :=
          ⟨hst.below.trans ((Below.refl _ _).setCell (p := ⟨w.heap.size + 1, 0, none⟩) (by show B ≤ w.heap.size + 1; omega) _), fun g t cs h1 h2 hb => (hst.keep g t cs h1 h2 hb).far (p := ⟨w.heap.size + 1, 0, none⟩) (by have := hb.lt; show g ≠ w.heap.size + 1; omega) _, fun g o h1 h2 => (KeepsOthers.setCell W ⟨w.heap.size + 1, 0, none⟩ _).same g o (hst.others g o h1 h2) h2⟩
        have hL2 := hL'.set1 (p := ⟨w.heap.size + 1, 0, none⟩) (u := .int .i64 0) (by show B ≤ w.heap.size + 1; omega) (by show w.heap.size + 1 ≠ D; omega) (by show w.heap.size + 1 ≠ L; omega) (by show w.heap.size + 1 ≠ G; omega)
        refine leaves_marks (N := W5.heap.size) (v := .int .i64 0) [D'] _ (by simp) (fun E hE => ?_) fun w' hm => ⟨?_, rfl, ⟨S', hL2.cb (CB.marked hm (by omega)), hdv⟩, hst2.marked hm hsw (by omega)⟩
        · simp only [List.mem_singleton] at hE
          subst hE
          exact ⟨hD, (KeepsOthers.setCell W ⟨w.heap.size + 1, 0, none⟩ _).same _ _ hDW rfl⟩
        · have z0 := (hm.blk he2).cell 0
          simp only [List.getElem?_cons_zero] at z0
          simp [results, Tryz.results37, go_sem, z0]
      case stop =>
        rintro D' cc pre W hD _ h _
        exact h.elim
end Go.Proofs.YtkmkblhmjeeaeaaGreatDoor
end

/-
  Format: a table without nodes in a blank log. Conditions: the log is at rest, and blank.
-/

section
set_option linter.unusedSimpArgs false
set_option linter.unusedVariables false
set_option maxRecDepth 100000
namespace Go.Proofs.YtkmkblhmjeeaeaaGreatDoor
open Go.RowKit Go.Maps

theorem format_nil (w : World) (N : Int) : Calls Tryz.prog 12 #[.pointer none, .int .i64 N] w fun e w' => e = .returned (.tuple #[.pointer none, .int .i64 16]) ∧ Below w.heap.size w w' := by
  have hmm := @run_makeMap Tryz.prog
  have hb := below_of (new_below w (.map #[] 0)) (new_below _ (.cells #[.pointer none, .int .i64 N, .map (some w.heap.size)] 80))
  have HB := Lib.hid hb
  clear hb
  go_enter Tryz.func12, Tryz.ntmps12
  go_wp2_with fail
  go_ret2
  exact ⟨rfl, HB.out⟩
theorem iopen_nil (w : World) : Calls Tryz.prog 11 #[.pointer none] w fun e w' => e = .returned (.tuple #[.pointer none, .int .i64 16]) ∧ Below w.heap.size w w' := by
  go_enter Tryz.func11, Tryz.ntmps11
  go_wp2_with fail
  go_ret2
  exact ⟨rfl, Below.refl _ _⟩

set_option maxRecDepth 100000 in
set_option maxHeartbeats 4000000 in
theorem format_ok {ks : List B32} {B D L G n j N K : Nat} {S : Nat → List B8} {c : Nat} {w : World} (A : Nat → Prop) (hL : Lg ks B D L G n j S c w) (hg : Geo n j N K) (hc : c < 400000) (hz : ∀ k, k ≤ N → dvj j S k = zeros64) :
    Calls Tryz.prog 12 #[.pointer (some ⟨G, 0, none⟩), .int .i64 N] w fun e w' => e = .returned (.tuple #[.pointer (some ⟨w.heap.size + 1, 0, none⟩), .int .i64 0]) ∧
      (∃ S', Tb ks B D L G n j N K S' (c + 50) A (w.heap.size + 1) w.heap.size 0 (fun _ => none) w' ∧ dvj j S' = layS (dvj j S) [(0, frontN ks N)]) ∧ Stp B [D, L, G] w w' := by
  have hmm := @run_makeMap Tryz.prog
  have hb0 := new_below w (.map #[] 0)
  have hb := below_of hb0 (new_below (w.alloc (.map #[] 0)) (.cells #[.pointer (some ⟨G, 0, none⟩), .int .i64 (N : Int), .map (some w.heap.size)] 80))
  have ht := Blk.new (w.alloc (.map #[] 0)) 80 [.pointer (some ⟨G, 0, none⟩), .int .i64 (N : Int), .map (some w.heap.size)]
  rw [World.size_alloc] at ht
  have hM := (MapIs.made w).below (new_below (w.alloc (.map #[] 0)) (.cells #[.pointer (some ⟨G, 0, none⟩), .int .i64 (N : Int), .map (some w.heap.size)] 80))
  have t0 : ((w.alloc (.map #[] 0)).alloc (.cells #[.pointer (some ⟨G, 0, none⟩), .int .i64 (N : Int), .map (some w.heap.size)] 80)).cell? ⟨w.heap.size + 1, 0, none⟩ = some (.pointer (some ⟨G, 0, none⟩)) := ht.cell 0
  have t1 : ((w.alloc (.map #[] 0)).alloc (.cells #[.pointer (some ⟨G, 0, none⟩), .int .i64 (N : Int), .map (some w.heap.size)] 80)).cell? ⟨w.heap.size + 1, 1, none⟩ = some (.int .i64 (N : Int)) := ht.cell 1
  have HL := Lib.hid (And.intro (hL.below hb) (And.intro hg (And.intro hz (And.intro ht (And.intro hM (And.intro hb hL))))))
  have HF := Lib.hid (fits_yes (hL.below hb) hg)
  clear hL hg hz ht hM hb hb0
  go_enter Tryz.func12, Tryz.ntmps12
  go_wp2_with (first
    | (go_at_call 34; refine HF.out.mono ?_; rintro e w2 ⟨rfl, hW⟩; have d0 := cell_below t0 hW; have d1 := cell_below t1 hW; have HB := Lib.hid (blank_any (HL.out.1.below hW) HL.out.2.1 0 (by omega) true (by rw [HL.out.2.2.1 0 (by omega)]; simp)); have H2 := Lib.hid hW; clear hW t0 t1)
    | (go_at_call 36; refine HB.out.mono ?_; rintro e w3 ⟨rfl, hW⟩; have x0 := cell_below d0 hW; have x1 := cell_below d1 hW; have h3 := below_of H2.out hW; have HG := Lib.hid (ibegin_any (HL.out.1.below h3) HL.out.2.1 hc (fun k _ hk => HL.out.2.2.1 k (by omega))); have H3 := Lib.hid h3; clear hW h3 d0 d1)
    | (go_at_call 37; refine HG.out.mono ?_; rintro e w4 ⟨rfl, hS4, hst4⟩; have H4 := Lib.hid (And.intro hS4 hst4); clear hS4 hst4 x0 x1)
    | go_in)
  go_ret2
  obtain ⟨⟨S', hL', hdv⟩, hst⟩ := H4.out
  have hlt := HL.out.2.2.2.2.2.2.lt
  have hb3 := H3.out
  have hT : TabIn A _ w.heap.size 0 (fun _ => none) := ⟨⟨fun _ => none, (HL.out.2.2.2.2.1.below hb3), fun i => rfl⟩⟩
  refine ⟨rfl, ⟨S', ⟨hL', HL.out.2.1, ⟨⟨fun _ => none, (HL.out.2.2.2.2.1.below hb3).stp hst, fun i => rfl⟩⟩, Wf.empty N K, hst.keep _ _ _ (by decide) (by simp; omega) (HL.out.2.2.2.1.below hb3 HL.out.2.2.2.1.lt)⟩, hdv⟩, ?_⟩
  exact (Stp.of_below HL.out.2.2.2.2.2.2.size (below_of HL.out.2.2.2.2.2.1 hb3)).trans hst
end Go.Proofs.YtkmkblhmjeeaeaaGreatDoor
end

/-
  Format: where a log has a table. Conditions: the log is at rest.
-/

section
set_option linter.unusedSimpArgs false
set_option linter.unusedVariables false
set_option maxRecDepth 100000
namespace Go.Proofs.YtkmkblhmjeeaeaaGreatDoor
open Go.RowKit Go.Maps

set_option maxRecDepth 100000 in
set_option maxHeartbeats 4000000 in
theorem format_used {ks : List B32} {B D L G n j N K : Nat} {S : Nat → List B8} {c : Nat} {w : World} (hL : Lg ks B D L G n j S c w) (hg : Geo n j N K) (hz : dvj j S 0 ≠ zeros64) :
    Calls Tryz.prog 12 #[.pointer (some ⟨G, 0, none⟩), .int .i64 N] w fun e w' => e = .returned (.tuple #[.pointer none, .int .i64 8]) ∧ Below w.heap.size w w' := by
  have hmm := @run_makeMap Tryz.prog
  have hb0 := new_below w (.map #[] 0)
  have hb := below_of hb0 (new_below (w.alloc (.map #[] 0)) (.cells #[.pointer (some ⟨G, 0, none⟩), .int .i64 (N : Int), .map (some w.heap.size)] 80))
  have ht := Blk.new (w.alloc (.map #[] 0)) 80 [.pointer (some ⟨G, 0, none⟩), .int .i64 (N : Int), .map (some w.heap.size)]
  rw [World.size_alloc] at ht
  have t0 : ((w.alloc (.map #[] 0)).alloc (.cells #[.pointer (some ⟨G, 0, none⟩), .int .i64 (N : Int), .map (some w.heap.size)] 80)).cell? ⟨w.heap.size + 1, 0, none⟩ = some (.pointer (some ⟨G, 0, none⟩)) := ht.cell 0
  have t1 : ((w.alloc (.map #[] 0)).alloc (.cells #[.pointer (some ⟨G, 0, none⟩), .int .i64 (N : Int), .map (some w.heap.size)] 80)).cell? ⟨w.heap.size + 1, 1, none⟩ = some (.int .i64 (N : Int)) := ht.cell 1
  have HL := Lib.hid (And.intro (hL.below hb) (And.intro hg (And.intro hz hb)))
  have HF := Lib.hid (fits_yes (hL.below hb) hg)
  clear hL hg hz ht hb hb0
  go_enter Tryz.func12, Tryz.ntmps12
  go_wp2_with (first
    | (go_at_call 34; refine HF.out.mono ?_; rintro e w2 ⟨rfl, hW⟩; have d0 := cell_below t0 hW; have d1 := cell_below t1 hW; have HB := Lib.hid (blank_any (HL.out.1.below hW) HL.out.2.1 0 (by omega) false (by simp [HL.out.2.2.1])); have H2 := Lib.hid hW; clear hW t0 t1)
    | (go_at_call 36; refine HB.out.mono ?_; rintro e w3 ⟨rfl, hW⟩; have h3 := below_of H2.out hW; have H3 := Lib.hid h3; clear hW h3)
    | go_in)
  go_ret2
  exact ⟨rfl, below_of HL.out.2.2.2 H3.out⟩
end Go.Proofs.YtkmkblhmjeeaeaaGreatDoor
end
