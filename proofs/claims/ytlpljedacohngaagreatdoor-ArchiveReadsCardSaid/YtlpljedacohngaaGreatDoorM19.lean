/-
  Reading: the next bytes. Conditions: what is left lies in memory, and not in the reader.
-/
import Derived.Test.YtlpljedacohngaaGreatDoorM14
import Derived.Test.YtlpljedacohngaaGreatDoorM15
import Derived.Test.YtlpljedacohngaaGreatDoorM4
import Derived.Test.YtlpljedacohngaaGreatDoorM18
import Derived.Test.YtlpljedacohngaaGreatDoorM13
section
set_option linter.unusedSimpArgs false
set_option linter.unusedVariables false
set_option maxRecDepth 100000
namespace Go.Proofs.YtlpljedacohngaaGreatDoor
open Go.RowKit

/-- A value of one cell stored into a block that is known. -/
theorem wpList_store_v {P : Program} {ops : Array Oper} {rest : List Oper} {op : Oper} {a : Act} {w : World} {Q : Exit → Act → World → Prop} (hgd : op.guard = none) (ty : TypeId) (x y : Operand) (ho : op.op = .store ty x y)
    (b o : Nat) (v : Value) (hx : a.eval x = .pointer (some ⟨b, o, none⟩)) (hy : a.eval y = v) {t : TypeId} {cs : List Value}
    (hb : Blk w b t cs) (hn : o < cs.length) (hi : (P.info? ty).map (·.size) = some 1) (h1 : v.oneCell' = true) (hv : v.cells = #[v])
    (h : ∀ w', Blk w' b t (cs.set o v) → Only [b] w w' → wpList P ops Q rest (a.put op.dst undef) w') : wpList P ops Q (op :: rest) a w := by
  have hr := r_store1 hi h1 hv hb hn
  have hB : Blk (w.setCells b o [v]) b t (over cs o [v]) := hb.setCells [v] o (by simp; omega)
  have hO : Only [b] w (w.setCells b o [v]) := Only.setCells [v] b o (Only.refl _ _) (.inl (by simp))
  refine wpList_plain hgd fun K hK => ?_
  unfold Oper.wp execOp
  simp only [ho, hx, hy, Sem.run_bind, Sem.run_pure, Result.andThen_ok, hr]
  exact hK _ _ (h _ (over_one hn ▸ hB) hO)
/-- What is left, in memory of which something is known. -/
structure LIn (F : Nat → Prop) (w : World) (L : Option Addr) (n c : Nat) (bs : List B8) : Prop where
  din : DIn w L n c bs
  far : ∀ a, L = some a → F a.block
theorem DIn.away {w w' : World} {L : Option Addr} {n c g : Nat} {bs : List B8} (h : DIn w L n c bs) (ho : Only [g] w w') (hf : ∀ a, L = some a → a.block ≠ g) : DIn w' L n c bs := by
  refine ⟨h.len, h.cap, h.big, h.nil, fun hn => ?_⟩
  obtain ⟨b, o, hA, hb, hc⟩ := h.cells hn
  have hbg : b ∉ [g] := by
    have := hf _ hA
    simpa using this
  exact ⟨b, o, hA, Nat.lt_of_lt_of_le hb ho.size, fun j u hu => only_cell ho (hc j u hu) hbg⟩
theorem DIn.drop {w : World} {L : Option Addr} {n c k : Nat} {bs : List B8} (h : DIn w L n c bs) (hk : k ≤ n) : DIn w (if c = k then L else Option.map (fun x => x.add k) L) (n - k) (c - k) (bs.drop k) := by
  have hcap := h.cap
  refine ⟨by rw [List.length_drop, h.len], by omega, by have := h.big; omega, fun ha => ?_, fun hn => ?_⟩
  · split at ha
    · omega
    · have : L = Option.none := by simpa using ha
      have := h.nil this
      omega
  · obtain ⟨g, o, hA, hg, hc⟩ := h.cells (by omega)
    rw [if_neg (by omega), hA]
    refine ⟨g, o + k, by simp [addr_add], hg, fun j u hu => ?_⟩
    have := hc (k + j) u (by
      rw [Vb_get] at hu ⊢
      rw [List.getElem?_drop] at hu
      exact hu)
    rw [Nat.add_assoc]
    exact this
theorem far_drop {F : Nat → Prop} {L : Option Addr} {c k : Nat} (h : ∀ a, L = some a → F a.block) : ∀ a, (if c = k then L else Option.map (fun x => x.add k) L) = some a → F a.block := by
  intro a ha
  split at ha
  · exact h a ha
  · cases L with
    | none => simp at ha
    | some b =>
      simp only [Option.map_some, Option.some.injEq] at ha
      subst ha
      have := h b rfl
      obtain ⟨b1, o1, s1⟩ := b
      unfold Addr.add
      split <;> simpa using this
set_option maxHeartbeats 1000000 in
theorem take_any (F : Nat → Prop) (w : World) (g k : Nat) (hFg : ¬ F g) (L : Option Addr) (n c : Nat) (bs : List B8) (ms : Bool) (lv : Value) (hk : Blk w g 52 [.slice L n c, .bool ms, lv]) (h : LIn F w L n c bs) (hkm : k ≤ 9223372036854775807) :
    Calls Tryz.prog 41 #[.pointer (some ⟨g, 0, none⟩), .int .i64 k] w fun e w' => Only [g] w w' ∧ ((n < k ∧ e = .returned (.slice none 0 0) ∧ Blk w' g 52 [.slice L n c, .bool true, lv]) ∨
      (k ≤ n ∧ e = .returned (.slice L k c) ∧ ∃ L', Blk w' g 52 [.slice L' (n - k) (c - k), .bool ms, lv] ∧ LIn F w' L' (n - k) (c - k) (bs.drop k))) := by
  have hne : ∀ a, L = some a → a.block ≠ g := fun a ha e => hFg (e ▸ h.far a ha)
  have HNE := Lib.hid hne
  clear hne
  have y0 : w.cell? ⟨g, 0, none⟩ = some (.slice L n c) := (hk.cell 0).trans rfl
  have y1 : w.cell? ⟨g, 1, none⟩ = some (.bool ms) := (hk.cell 1).trans rfl
  have H := Lib.hid (And.intro hk h)
  have hcap := h.din.cap
  have hbig := h.din.big
  clear hk h
  by_cases hlt : n < k
  · have b1 : (n : Int) < (k : Int) := by omega
    go_enter Tryz.func41, Tryz.ntmps41
    go_wp2_with (refine wpList_store_v rfl 4 (.tmp 15) (.const (.bool true)) rfl g 1 (.bool true) rfl rfl H.out.1 (by simp) (by kernel_rfl) rfl rfl ?_; intro w2 hA hO; have H2 := Lib.hid (And.intro hA hO); clear hA hO)
    go_ret
    exact ⟨H2.out.2, .inl ⟨hlt, rfl, H2.out.1⟩⟩
  · have b1 : ¬ (n : Int) < (k : Int) := by omega
    have b2 : (0 : Int) ≤ (k : Int) := by omega
    have b3 : (k : Int) ≤ (n : Int) := by omega
    have b4 : (k : Int) ≤ (c : Int) := by omega
    go_enter Tryz.func41, Tryz.ntmps41
    go_wp2_with (refine wpList_store_v (v := .slice _ _ _) rfl 22 (.tmp 30) (.tmp 28) rfl g 0 rfl rfl H.out.1 (by simp) (by kernel_rfl) rfl rfl ?_; intro w2 hA hO; have H2 := Lib.hid (And.intro hA hO); clear hA hO)
    · have h1 := H2.out.1
      have h2 := ((H.out.2.din.drop (k := k) (by omega)).away H2.out.2 (far_drop (F := fun b => b ≠ g) HNE.out))
      have h3 := far_drop (c := c) (k := k) H.out.2.far
      rw [show c - k = 0 by omega] at h1 h2
      have HF := Lib.hid (And.intro h1 (And.intro h2 h3))
      clear h1 h2 h3
      go_ret
      exact ⟨H2.out.2, by omega, rfl, _, HF.out.1, HF.out.2.1, HF.out.2.2⟩
    · have HF := Lib.hid (And.intro H2.out.1 (And.intro ((H.out.2.din.drop (k := k) (by omega)).away H2.out.2 (far_drop (F := fun b => b ≠ g) HNE.out)) (far_drop (c := c) (k := k) H.out.2.far)))
      go_ret
      exact ⟨H2.out.2, by omega, rfl, _, HF.out.1, HF.out.2.1, HF.out.2.2⟩
end Go.Proofs.YtlpljedacohngaaGreatDoor
end

/-
  Whether two lists of entries are the same, as the program tells it. Condition: the entries lie in memory.
-/

section
set_option linter.unusedSimpArgs false
set_option linter.unusedVariables false
set_option maxRecDepth 100000
namespace Go.Proofs.YtlpljedacohngaaGreatDoor
open Go.RowKit

instance : DecidableEq En := fun a b => decidable_of_iff _ (sameE_iff a b)
theorem blk_range {w : World} {g t : Nat} {cs : List Value} (h : Blk w g t cs) : w.rangeAt g 0 cs := fun j v hj => by rw [Nat.zero_add, h.cell]; exact hj
theorem en_ne {p q : List En} {i : Nat} {a b : En} (h1 : p[i]? = some a) (h2 : q[i]? = some b) (h : sameE a b = false) : decide (p = q) = false := by
  refine decide_eq_false fun e => ?_
  subst e
  rw [h1] at h2
  cases h2
  have := (sameE_iff a a).2 rfl
  rw [h] at this
  cases this
end Go.Proofs.YtlpljedacohngaaGreatDoor
end
