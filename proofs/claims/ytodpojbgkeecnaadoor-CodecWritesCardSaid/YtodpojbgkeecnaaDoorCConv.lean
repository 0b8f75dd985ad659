/-
  A string as bytes, and bytes put behind them. Conditions: those in each.
-/
import Derived.Test.YtodpojbgkeecnaaDoorCLawKit
import Derived.Lib.ConvBytes
import Derived.ArgAppend
import Derived.Deep.Upon
set_option linter.unusedSimpArgs false
set_option linter.unusedVariables false
namespace Go.Proofs.YtodpojbgkeecnaaDoor
open Go.RowKit

/-- A row of bytes at a block's head, with room. -/
structure CRow (W : World) (g cap : Nat) (b : List UInt8) : Prop where
  len : b.length ≤ cap
  capm : cap ≤ maxLen
  lt : g < W.heap.size
  cell : ∀ (j : Nat) (x : UInt8), b[j]? = some x → W.cell? ⟨g, j, none⟩ = some (.int .u8 (x.toNat : Int))
  spare : ∀ j, j < cap → (W.cell? ⟨g, j, none⟩).isSome = true ∧ W.frozen? ⟨g, j, none⟩ = false
theorem CRow.keep {W W' : World} {g cap : Nat} {b : List UInt8} (h : CRow W g cap b) (hk : W'.heap[g]? = W.heap[g]?) : CRow W' g cap b := by
  have hc : ∀ j, W'.cell? ⟨g, j, none⟩ = W.cell? ⟨g, j, none⟩ := fun j => by simp only [World.cell?, hk]
  have hf : ∀ j, W'.frozen? ⟨g, j, none⟩ = W.frozen? ⟨g, j, none⟩ := fun j => by simp only [World.frozen?, hk]
  have hlt : g < W'.heap.size := by
    have h1 := Array.getElem?_eq_getElem h.lt
    rw [← hk] at h1
    exact (Array.getElem?_eq_some_iff.1 h1).1
  exact ⟨h.len, h.capm, hlt, fun j x hx => (hc j).trans (h.cell j x hx), fun j hj => by rw [hc, hf]; exact h.spare j hj⟩
theorem CRow.bin {W : World} {g cap B : Nat} {b : List UInt8} (h : CRow W g cap b) (hB : B ≤ g) : BIn W (fun x => B ≤ x) (some ⟨g, 0, none⟩) b.length cap b :=
  ⟨rfl, h.len, h.capm, (fun h => by cases h), fun _ => ⟨g, 0, rfl, hB, fun j x hx => by rw [Nat.zero_add]; exact h.cell j x hx⟩⟩
theorem below_conv (w : World) (s : ByteArray) : Below w.heap.size w (Lib.bytesWorld w 5 s) :=
  ⟨rfl, rfl, rfl, by rw [Lib.bytesWorld_size]; omega, fun j hj => Lib.bytesWorld_at_old w 5 s j hj⟩
theorem conv_row (w : World) (b : List UInt8) (hb : b.length ≤ 100000) : CRow (Lib.bytesWorld w 5 ⟨b.toArray⟩) w.heap.size (grownCap w b.length 0 5) b := by
  have hsz : (⟨b.toArray⟩ : ByteArray).size = b.length := by simp [ByteArray.size]
  have hge := grownCap_ge w b.length 0 5
  have hcap : (Lib.bytesCells w 5 ⟨b.toArray⟩).size = grownCap w b.length 0 5 := by
    unfold Lib.bytesCells
    rw [hsz]
    simp
    omega
  have hnew := Lib.bytesWorld_at_new w 5 ⟨b.toArray⟩
  rw [hcap] at hnew
  refine ⟨hge, grownCap_le_maxLen w b.length 0 5 (by unfold maxLen; omega), by rw [Lib.bytesWorld_size]; omega, fun j x hx => ?_, fun j hj => ?_⟩
  · have hj := (List.getElem?_eq_some_iff.1 hx).1
    rw [Lib.bytesWorld_cell w 5 ⟨b.toArray⟩ j (by rw [hsz]; exact hj)]
    simp [List.getD_eq_getElem?_getD, hx]
  · constructor
    · simp only [World.cell?, hnew]
      simp [hcap, hj]
    · simp only [World.frozen?, hnew]
      simp
      omega
theorem tape_size_setCells (b : Nat) : ∀ (vs : List Value) (o : Nat) (w : World), (w.setCells b o vs).tape = w.tape ∧ (w.setCells b o vs).heap.size = w.heap.size
  | [], _, _ => ⟨rfl, rfl⟩
  | v :: vs, o, w => by
    have ih := tape_size_setCells b vs (o + 1) (w.setCell ⟨b, o, none⟩ v)
    refine ⟨ih.1.trans rfl, ih.2.trans ?_⟩
    simp
theorem conv_row2 {w : World} {X : ByteArray} {n g : Nat} {b : List UInt8} (hX : X = ⟨b.toArray⟩) (hn : n = b.length) (hg : w.heap.size = g) (hb : b.length ≤ 100000) : CRow (Lib.bytesWorld w 5 X) g (grownCap w n 0 5) b := by
  subst hX hn hg
  exact conv_row w b hb
theorem run_append_crow (W : World) {g cap m c : Nat} {b b2 : List UInt8} {R : Nat → Prop} {A : Option Addr} (h : CRow W g cap b) (h2 : BIn W R A m c b2) (hs : b.length + m ≤ 1000000000) (ty : TypeId) :
    ∃ A' c' W', (Builtin.append_ #[23, 23] ty #[.slice (some ⟨g, 0, none⟩) b.length cap, .slice A m c]).run Tryd.prog W = .ok (.slice A' (b.length + m) c') W' ∧
      (∀ B, B ≤ g → B ≤ W.heap.size → BIn W' (fun x => B ≤ x) A' (b.length + m) c' (b ++ b2)) ∧ W.grownBy W' (some g) := by
  obtain ⟨i0, hi, hz0, hz1, hz2⟩ := info_parts binfo
  rcases Nat.eq_zero_or_pos m with rfl | hm
  · have hb2 : b2 = [] := List.eq_nil_of_length_eq_zero h2.len
    subst hb2
    refine ⟨_, _, W, run_append_nothing (P := Tryd.prog) W 23 23 ty 5 i0 Tryd.underlying23 hi _ _ _ h.len _ ?_, fun B hB _ => by simpa using h.bin hB, ⟨rfl, rfl, rfl, Nat.le_refl _, fun _ _ _ => rfl⟩⟩
    exact ⟨.inl ⟨_, Tryd.underlying23⟩, fun w' => by cases A <;> simp [Builtin.lenOf], by cases A <;> simp [Builtin.firstCells, loadCells, loadCellsFrom], by cases A <;> simp [Builtin.firstCells, loadCells, loadCellsFrom], by simp, by simp⟩
  · obtain ⟨g2, o2, rfl, _, hc2⟩ := h2.cells hm
    have hnews : ∀ j u, (Lib.byteCells b2)[j]? = some u → W.cell? ((⟨g2, o2, none⟩ : Addr).add j) = some u := h2.news
    by_cases hroom : b.length + m ≤ cap
    · have hr := run_append_room_cells (P := Tryd.prog) W 23 ty 5 i0 Tryd.underlying23 hi g 0 b.length cap ⟨g2, o2, none⟩ m c (Lib.byteCells b2) (by rw [byteCells_length, h2.len, hz1, Nat.mul_one]) hnews (byteCells_one b2) hroom
        (fun j hj => by rw [byteCells_length, h2.len] at hj; rw [hz1]; exact (h.spare _ (by omega)).1) (fun j hj => by rw [byteCells_length, h2.len] at hj; rw [hz1]; exact (h.spare _ (by omega)).2)
      refine ⟨_, _, _, hr, fun B hB _ => ?_, ?_⟩
      · have hin : ∀ j, j < (Lib.byteCells b2).length → (W.cell? ⟨g, b.length + j, none⟩).isSome = true := fun j hj => by rw [byteCells_length, h2.len] at hj; exact (h.spare _ (by omega)).1
        refine ⟨by rw [List.length_append, h2.len], hroom, h.capm, (fun h => by cases h), fun _ => ⟨g, 0, rfl, hB, fun j x hx => ?_⟩⟩
        rw [hz1, Nat.mul_one, Nat.zero_add, Nat.zero_add]
        rcases Nat.lt_or_ge j b.length with hj | hj
        · rw [List.getElem?_append_left hj] at hx
          rw [World.cell?_setCells_out g _ _ _ _ (fun _ _ => .inl hj)]
          exact h.cell j x hx
        · rw [List.getElem?_append_right hj] at hx
          have hj2 := (List.getElem?_eq_some_iff.1 hx).1
          have := World.cell?_setCells_in g (Lib.byteCells b2) b.length W hin (j - b.length) (by rw [byteCells_length]; exact hj2)
          rw [show b.length + (j - b.length) = j by omega] at this
          rw [this]
          have hv := (List.getElem?_eq_some_iff.1 hx).2
          simp [Lib.byteCells, hv]
      · exact ⟨World.os_setCells .., (tape_size_setCells _ _ _ _).1, World.output_setCells .., Nat.le_of_eq (tape_size_setCells _ _ _ _).2.symm, fun k hk hne => World.heap_setCells_other _ _ _ _ hk (fun e => hne (by rw [e]))⟩
    · obtain ⟨v', w', hr, ho, hg⟩ := run_append_arg_grows (P := Tryd.prog) W 23 ty 5 i0 (.int .u8 0) 1 1 Tryd.underlying23 hi hz0 hz1 hz2 rfl (by decide) ⟨g, 0, none⟩ b.length cap (Lib.byteCells b) (by rw [byteCells_length, Nat.mul_one]) (h.bin (Nat.le_refl _)).news ⟨g2, o2, none⟩ m c (Lib.byteCells b2) (by rw [byteCells_length, h2.len, Nat.mul_one]) hnews (by omega) (by unfold maxLen; omega) (by omega)
      obtain ⟨A', c', rfl, hbin⟩ := own_bin (b := b ++ b2) (B := W.heap.size) (by rw [byteCells_append, List.length_append, h2.len]; exact ho)
      rw [List.length_append, h2.len] at hr hbin
      exact ⟨A', c', w', hr, fun B _ hB => hbin.keep fun x hx _ => ⟨rfl, Nat.le_trans hB hx⟩, ⟨hg.os, hg.tape, hg.output, hg.size, fun k hk _ => hg.block k hk (by simp)⟩⟩

theorem conv_cell {W : World} {s : ByteArray} {a : Addr} {u : Value} (h : W.cell? a = some u) : (Lib.bytesWorld W 5 s).cell? a = some u :=
  (Lib.bytesWorld_old W 5 s a (World.block_lt_of_cell? W _ h)).trans h
theorem grown_cell {W W' : World} {row : Option Nat} {a : Addr} {u : Value} (hg : W.grownBy W' row) (h : W.cell? a = some u) (hne : some a.block ≠ row) : W'.cell? a = some u :=
  (World.cell?_of_block (hg.block _ (World.block_lt_of_cell? W _ h) hne)).trans h
theorem conv_any (W : World) (s : ByteArray) : (convert 9 23 (.string s)).run Tryd.prog W = .ok (.slice (some ⟨W.heap.size, 0, none⟩) s.size (grownCap W s.size 0 5)) (Lib.bytesWorld W 5 s) :=
  Lib.run_convert_string_bytes W 9 23 5 s Tryd.underlying9 Tryd.underlying23 Tryd.underlying5
/-- Bytes behind a row with room, at a step of a region that draws its order. -/
theorem step_append_crow {w : World} {ops : Array Oper} {o : Oper} {a : Act} {K : Act → World → Prop} {Q : Exit → Act → World → Prop} {E : Prop} (hgd : o.guard = none) (s x : Operand)
    (ho : o.op = .call { callee := .builtin .append, args := #[s, x], argTypes := #[23, 23] })
    {g cap n : Nat} {b : List UInt8} (hs : a.eval s = .slice (some ⟨g, 0, none⟩) n cap) (hn : b.length = n) (hrow : CRow w g cap b)
    (R : Nat → Prop) (A : Option Addr) (m c : Nat) (b2 : List UInt8) (hx : a.eval x = .slice A m c) (hb : BIn w R A m c b2) (hsm : n + m ≤ 1000000000)
    (h : ∀ A' c' w', (∀ B, B ≤ g → B ≤ w.heap.size → BIn w' (fun x => B ≤ x) A' (n + m) c' (b ++ b2)) → w.grownBy w' (some g) → K (a.put o.dst (.slice A' (n + m) c')) w') :
    if Region.wanted o (yielded ops a.tmps) = true then Oper.wp Tryd.prog o a w K Q else E := by
  subst hn
  have hw : Region.wanted o (yielded ops a.tmps) = true := by simp [Region.wanted, hgd]
  rw [if_pos hw]
  obtain ⟨A', c', W', hr, h1, h2⟩ := run_append_crow w hrow hb hsm o.type
  unfold Oper.wp execOp
  simp only [ho, resolve, invoke, builtin, Sem.run_bind, Sem.run_pure, Result.andThen_ok, List.map_toArray, List.map_cons, List.map_nil, hs, hx, hr]
  exact h A' c' W' h1 h2

end Go.Proofs.YtodpojbgkeecnaaDoor
