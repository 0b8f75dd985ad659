/-
  The reader's small methods: ended, pass, take, isDigit. Conditions: the reader's block is known, its bytes lie in blocks below it.
-/
import Derived.Test.YtodpojbgkeecnaaDoorCSame
set_option linter.unusedSimpArgs false
set_option linter.unusedVariables false
namespace Go.Proofs.YtodpojbgkeecnaaDoor
open Go.RowKit

/-- Where the rest of a slice begins. -/
def fromA (A : Option Addr) (c k : Nat) : Option Addr := if c = k then A else A.map (·.add k)
theorem slice_to (A : Option Addr) (n c k : Nat) (h : k ≤ c) (W : World) : (Instr.sliceAt 23 (.slice A n c) none (some (.int .i64 k)) none).run Tryd.prog W = .ok (.slice A k c) W := by
  have he : Tryd.prog.elem 23 = 5 := by kernel_rfl
  have hs : (sizeOf 5).run Tryd.prog W = .ok 1 W := by kernel_rfl
  have hu : Tryd.prog.underlying 23 = some (.slice (Tryd.prog.elem 23)) := by rw [he]; exact Tryd.underlying23
  rw [run_sliceAt_slice _ _ _ _ _ _ hu, run_slice_h _ _ _ _ _ hu .i64 k (by omega) (by omega), he, hs]
  simp only [Result.andThen_ok, sliced]
  cases A <;> simp [Addr.add]
theorem slice_from (A : Option Addr) (n c k : Nat) (h : k ≤ n) (W : World) : (Instr.sliceAt 23 (.slice A n c) (some (.int .i64 k)) none none).run Tryd.prog W = .ok (.slice (fromA A c k) (n - k) (c - k)) W := by
  have he : Tryd.prog.elem 23 = 5 := by kernel_rfl
  have hs : (sizeOf 5).run Tryd.prog W = .ok 1 W := by kernel_rfl
  have hu : Tryd.prog.underlying 23 = some (.slice (Tryd.prog.elem 23)) := by rw [he]; exact Tryd.underlying23
  rw [run_sliceAt_slice _ _ _ _ _ _ hu, run_slice_l _ _ _ _ _ hu .i64 k (by omega) (by omega), he, hs]
  simp only [Result.andThen_ok, sliced, fromA, Int.toNat_natCast, Nat.mul_one]
theorem BIn.take {w : World} {Q : Nat → Prop} {A : Option Addr} {n c : Nat} {b : List UInt8} (h : BIn w Q A n c b) (k : Nat) (hk : k ≤ n) : BIn w Q A k c (b.take k) := by
  have hl := h.len
  refine ⟨by rw [List.length_take]; omega, by have := h.cap; omega, h.capm, fun hA => by have := h.nil hA; omega, fun h0 => ?_⟩
  obtain ⟨g, o, hA, hg, hc⟩ := h.cells (by omega)
  refine ⟨g, o, hA, hg, fun j x hx => ?_⟩
  rw [List.getElem?_take] at hx
  split at hx
  · exact hc j x hx
  · cases hx
theorem BIn.drop {w : World} {Q : Nat → Prop} {A : Option Addr} {n c : Nat} {b : List UInt8} (h : BIn w Q A n c b) (k : Nat) (hk : k ≤ n) : BIn w Q (fromA A c k) (n - k) (c - k) (b.drop k) := by
  have hl := h.len
  have hcap := h.cap
  refine ⟨by rw [List.length_drop]; omega, by omega, by have := h.capm; omega, fun hA => ?_, fun h0 => ?_⟩
  · cases A with
    | none => have := h.nil rfl; omega
    | some a => unfold fromA at hA; split at hA <;> cases hA
  · obtain ⟨g, o, rfl, hg, hc⟩ := h.cells (by omega)
    refine ⟨g, o + k, by unfold fromA; rw [if_neg (by omega)]; simp [add_off], hg, fun j x hx => ?_⟩
    rw [List.getElem?_drop] at hx
    rw [Nat.add_assoc]
    exact hc (k + j) x hx

/-- The reader in block R: what is left, how many lists are open. -/
def IsRd (w : World) (R : Nat) (op : Int) (bs : List UInt8) : Prop := ∃ A n c, Blk w R 70 [.slice A n c, .int .i64 op] ∧ BIn w (fun g => g < R) A n c bs
theorem IsRd.below {w w' : World} {R : Nat} {op : Int} {bs : List UInt8} (h : IsRd w R op bs) (hb : Below w.heap.size w w') : IsRd w' R op bs := by
  obtain ⟨A, n, c, h1, h2⟩ := h
  exact ⟨A, n, c, h1.below hb h1.lt, h2.below hb⟩
theorem IsRd.lt {w : World} {R : Nat} {op : Int} {bs : List UInt8} (h : IsRd w R op bs) : R < w.heap.size := by
  obtain ⟨A, n, c, h1, _⟩ := h
  exact h1.lt

/-- What turns where a reader reads: its own block, and new ones. -/
def RdStep (R : Nat) (w w' : World) : Prop := Only [R] w w'
theorem rd_below {R B : Nat} {w w' : World} (h : Only [R] w w') (hB : B ≤ w.heap.size) (hR : B ≤ R) : Below B w w' := h.below hB (by simpa using hR)

theorem ended_any (w : World) (R : Nat) (op : Int) (bs : List UInt8) (h : IsRd w R op bs) : Calls Tryd.prog 39 #[.pointer (some ⟨R, 0, none⟩)] w fun e w' => e = .returned (.bool bs.isEmpty) ∧ w = w' := by
  obtain ⟨A, n, c, h1, h2⟩ := h
  have c0 := h1.cell 0
  simp only [List.getElem?_cons_zero] at c0
  have e1 : bs.isEmpty = decide (n = 0) := by have := h2.len; subst this; cases bs <;> simp
  rw [e1]
  clear h1 h2 e1
  rcases Nat.eq_zero_or_pos n with rfl | hn
  · go_enter Tryd.func39, Tryd.ntmps39
    go_wp2_with fail
    go_ret
    exact ⟨rfl, rfl⟩
  · have hq : ((n : Int) == 0) = false := by simp; omega
    go_enter Tryd.func39, Tryd.ntmps39
    go_wp2_with fail
    go_ret
    exact ⟨by congr 2; simp; omega, rfl⟩

theorem digit_any (w : World) (x : UInt8) : Calls Tryd.prog 43 #[.int .u8 (x.toNat : Int)] w fun e w' => e = .returned (.bool (decide (48 ≤ x.toNat) && decide (x.toNat ≤ 57))) ∧ w = w' := by
  obtain ⟨n, hn⟩ : ∃ n, n = x.toNat := ⟨_, rfl⟩
  rw [← hn]
  clear hn
  by_cases h1 : 48 ≤ n
  · by_cases h2 : n ≤ 57
    · have q1 : (48 : Int) ≤ (n : Int) := by omega
      have q2 : (n : Int) ≤ 57 := by omega
      go_enter Tryd.func43, Tryd.ntmps43
      go_wp2_with fail
      go_ret
      exact ⟨by simp [h1, h2], rfl⟩
    · have q1 : (48 : Int) ≤ (n : Int) := by omega
      have q2 : ¬ (n : Int) ≤ 57 := by omega
      go_enter Tryd.func43, Tryd.ntmps43
      go_wp2_with fail
      go_ret
      exact ⟨by simp [h1, h2], rfl⟩
  · have q1 : ¬ (48 : Int) ≤ (n : Int) := by omega
    go_enter Tryd.func43, Tryd.ntmps43
    go_wp2_with fail
    go_ret
    exact ⟨by simp [h1], rfl⟩

/-- pass: the next k bytes, shared; the reader stands behind them. -/
theorem pass_any (w : World) (R : Nat) (op : Int) (bs : List UInt8) (h : IsRd w R op bs) (k : Nat) (x : Int) (hx : x = k) (hk : k ≤ bs.length) : Calls Tryd.prog 47 #[.pointer (some ⟨R, 0, none⟩), .int .i64 x] w fun e w' => ∃ A c, e = .returned (.slice A k c) ∧ BIn w' (fun g => g < R) A k c (bs.take k) ∧ IsRd w' R op (bs.drop k) ∧ Only [R] w w' := by
  subst hx
  obtain ⟨A, n, c, h1, h2⟩ := h
  have c0 := h1.cell 0
  have f0 := h1.frozen 0
  simp only [List.getElem?_cons_zero] at c0
  have hl := h2.len
  have hcap := h2.cap
  have s1 := slice_to A n c k (by omega)
  have s2 := slice_from A n c k (by omega)
  have H := Lib.hid (And.intro h1 h2)
  clear h1 h2
  go_enter Tryd.func47, Tryd.ntmps47
  go_wp2_with fail
  go_ret
  have ho : Only [R] w (w.setCell ⟨R, 0, none⟩ (.slice (fromA A c k) (n - k) (c - k))) := (Only.refl _ _).setCell (.inl (by simp)) _
  have hkp : ∀ g, g < R → g < w.heap.size → (w.setCell ⟨R, 0, none⟩ (.slice (fromA A c k) (n - k) (c - k))).heap[g]? = w.heap[g]? ∧ g < R := fun g hg hlt => ⟨ho.block g hlt (by simp; omega), hg⟩
  exact ⟨A, c, rfl, (H.out.2.take k (by omega)).keep hkp, ⟨_, _, _, H.out.1.set_ 0 _, (H.out.2.drop k (by omega)).keep hkp⟩, ho⟩

end Go.Proofs.YtodpojbgkeecnaaDoor
