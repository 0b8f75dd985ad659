/-
  The document's table of nodes, as it lies; its Room. Conditions: the table lies in memory; at most a thousand nodes of at most 2^30 bytes.
-/
import Derived.Test.YtkmkblhmjeeaeaaGreatDoorM3
section
set_option linter.unusedSimpArgs false
set_option linter.unusedVariables false
set_option maxRecDepth 100000
namespace Go.Proofs.YtkmkblhmjeeaeaaGreatDoor
open Go.RowKit

/-- A node, as it lies: a slice for its bytes. -/
structure Nv where
  k : Int
  m : Int
  o : Int
  g : Int
  A : Option Addr
  n : Nat
  c : Nat
/-- A table of the document's: its nodes, whether they are there, how many blocks. -/
structure TbIn (w : World) (p : Nat) (ts : List (Nv × Bool)) (bl : Int) : Prop where
  most : ts.length ≤ 1000
  small : ∀ x ∈ ts, x.1.n ≤ 1073741824
  room : 0 ≤ bl ∧ bl ≤ 1000000000000
  blk : ∃ PN PI cN cI, Blk w p 71 [.slice PN ts.length cN, .slice PI ts.length cI, .int .i64 bl] ∧ (0 < ts.length → ∃ gN oN gI oI, PN = some ⟨gN, oN, none⟩ ∧ PI = some ⟨gI, oI, none⟩ ∧ gN < w.heap.size ∧ gI < w.heap.size ∧
    ∀ (i : Nat) (x : Nv) (b : Bool), ts[i]? = some (x, b) → (w.cell? ⟨gN, oN + i * 5, none⟩ = some (.int .i64 x.k) ∧ w.cell? ⟨gN, oN + i * 5 + 1, none⟩ = some (.int .i64 x.m) ∧ w.cell? ⟨gN, oN + i * 5 + 2, none⟩ = some (.int .i64 x.o) ∧
      w.cell? ⟨gN, oN + i * 5 + 3, none⟩ = some (.int .i64 x.g) ∧ w.cell? ⟨gN, oN + i * 5 + 4, none⟩ = some (.slice x.A x.n x.c)) ∧ w.cell? ⟨gI, oI + i, none⟩ = some (.bool b))
theorem TbIn.below {w w' : World} {p : Nat} {ts : List (Nv × Bool)} {bl : Int} (h : TbIn w p ts bl) (hb : Below w.heap.size w w') : TbIn w' p ts bl := by
  obtain ⟨PN, PI, cN, cI, hk, hc⟩ := h.blk
  refine ⟨h.most, h.small, h.room, PN, PI, cN, cI, hk.below hb hk.lt, fun hn => ?_⟩
  obtain ⟨gN, oN, gI, oI, h1, h2, h3, h4, h5⟩ := hc hn
  refine ⟨gN, oN, gI, oI, h1, h2, Nat.lt_of_lt_of_le h3 hb.size, Nat.lt_of_lt_of_le h4 hb.size, fun i x b hx => ?_⟩
  obtain ⟨⟨c0, c1, c2, c3, c4⟩, c5⟩ := h5 i x b hx
  exact ⟨⟨mcell c0 hb, mcell c1 hb, mcell c2 hb, mcell c3 hb, mcell c4 hb⟩, mcell c5 hb⟩
/-- How many blocks a table's nodes take. -/
def usedB : List (Nv × Bool) → Nat
  | [] => 0
  | (x, b) :: r => (if b = true then blks x.n else 0) + usedB r
theorem usedB_append : ∀ (a b : List (Nv × Bool)), usedB (a ++ b) = usedB a + usedB b
  | [], b => by simp [usedB]
  | (x, c) :: a, b => by rw [List.cons_append, usedB, usedB, usedB_append a b]; omega
theorem usedB_snoc {ts : List (Nv × Bool)} {i : Nat} {x : Nv} {b : Bool} (hx : ts[i]? = some (x, b)) : usedB (ts.take (i + 1)) = usedB (ts.take i) + if b = true then blks x.n else 0 := by
  rw [List.take_add_one, hx, Option.toList_some, usedB_append]
  simp [usedB]
theorem usedB_le : ∀ {ts : List (Nv × Bool)}, (∀ x ∈ ts, x.1.n ≤ 1073741824) → usedB ts ≤ ts.length * 16777217
  | [], _ => by simp [usedB]
  | (x, b) :: r, h => by
    have h1 := h (x, b) List.mem_cons_self
    have h2 := usedB_le (ts := r) fun y hy => h y (List.mem_cons_of_mem _ hy)
    rw [usedB, List.length_cons]
    have : blks x.n ≤ 16777217 := by unfold blks; simp at h1; omega
    split <;> omega
/-- Where Room stands. -/
def RoomAt (ts : List (Nv × Bool)) (bl : Int) (nv iv : Value) : Prop := ∃ (i : Nat) (z : Int), i ≤ ts.length ∧ iv = .int .i64 i ∧ nv = .int .i64 z ∧ z = bl - (usedB (ts.take i) : Int)

set_option maxHeartbeats 4000000 in
theorem rroom_any (w : World) (p : Nat) (ts : List (Nv × Bool)) (bl : Int) (ht : TbIn w p ts bl) :
    Calls Tryz.prog 25 #[.pointer (some ⟨p, 0, none⟩)] w fun e w' => e = .returned (.int .i64 (bl - (usedB ts : Int))) ∧ w = w' := by
  obtain ⟨PN, PI, cN, cI, hk, hc⟩ := ht.blk
  obtain ⟨L, hL⟩ : ∃ L, ts.length = L := ⟨_, rfl⟩
  rw [hL] at hk hc
  have e0 := hk.cell 0
  have e1 := hk.cell 1
  have e2 := hk.cell 2
  simp only [List.getElem?_cons_succ, List.getElem?_cons_zero] at e0 e1 e2
  have hm : L ≤ 1000 := by rw [← hL]; exact ht.most
  have HT := Lib.hid (And.intro ht (And.intro hc hL))
  clear hk hc ht hL
  go_enter Tryz.func25, Tryz.ntmps25
  go_wp2_with fail
  go_loop [3, 4] (fun nv iv => RoomAt ts bl nv iv) (fun _ iv => L - (intOf iv).toNat)
  case atStart => exact ⟨0, bl, Nat.zero_le _, rfl, rfl, by simp [usedB]⟩
  case round =>
    obtain ⟨i, z, hi, rfl, rfl, hz⟩ := hrel
    have hub : usedB (ts.take i) ≤ 16777217000 := by
      have h1 := usedB_le (ts := ts.take i) fun x hx => HT.out.1.small x (List.mem_of_mem_take hx)
      have h2 : (ts.take i).length ≤ 1000 := by rw [List.length_take]; have := HT.out.1.most; omega
      exact Nat.le_trans h1 (Nat.mul_le_mul_right 16777217 h2)
    have hr := HT.out.1.room
    have z0 : -1000000000000 ≤ z := by omega
    have z1 : z ≤ 1000000000000 := by omega
    have HZ := Lib.hid hz
    clear hz hub hr
    by_cases hlt : i < L
    · obtain ⟨⟨x, b⟩, hx⟩ : ∃ x, ts[i]? = some x := ⟨_, List.getElem?_eq_getElem (by have := HT.out.2.2; omega)⟩
      obtain ⟨gN, oN, gI, oI, rfl, rfl, hgN, hgI, hcl⟩ := HT.out.2.1 (by omega)
      obtain ⟨⟨c0, c1, c2, c3, c4⟩, c5⟩ := hcl i x b hx
      have hs := usedB_snoc hx
      have hn := HT.out.1.small _ (List.mem_of_getElem? hx)
      have HX := Lib.hid (And.intro hs hn)
      have hil : i + 1 ≤ ts.length := by have := HT.out.2.2; omega
      clear hcl hx hs hn c0 c1 c2 c3 hi
      cases b with
      | true =>
        have hb : blks x.n ≤ 16777217 := by have := HX.out.2; unfold blks; simp at this; omega
        obtain ⟨q, hq⟩ : ∃ q, blks x.n = q := ⟨_, rfl⟩
        have HQ := Lib.hid hq
        rw [hq] at hb
        clear hq
        go_wp2_with (go_at_call 24; ((with_reducible refine (rblocks_any _ x.n (by have := HX.out.2; simpa using this)).mono ?_); rintro e w' ⟨rfl, rfl⟩; rw [HQ.out]))
        go_round
        case rel => exact ⟨i + 1, z - q, hil, by go_num, rfl, by have h1 := HX.out.1; simp [HQ.out] at h1; have := HZ.out; omega⟩
        case measure => simp [intOf]; omega
      | false =>
        go_wp2_with fail
        go_round
        case rel => exact ⟨i + 1, z, hil, by go_num, rfl, by rw [HX.out.1, if_neg (by decide)]; have := HZ.out; omega⟩
        case measure => simp [intOf]; omega
    · have HC : Hid (z = bl - (usedB ts : Int)) := Lib.hid (by have := HZ.out; rwa [List.take_of_length_le (by have := HT.out.2.2; omega)] at this)
      clear hi
      go_wp2_with fail
      go_ret
      exact ⟨ret_num HC.out, rfl⟩
end Go.Proofs.YtkmkblhmjeeaeaaGreatDoor
end
