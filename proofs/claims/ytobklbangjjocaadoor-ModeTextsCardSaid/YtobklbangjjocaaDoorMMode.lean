/-
  ParseUint, Parse, Word, the document's Text. Conditions: the sentinel is as its initialiser lays it; the kinds' names too.
-/
import Derived.Test.YtobklbangjjocaaDoorMParse
import Derived.Test.YtobklbangjjocaaDoorMCut
import Derived.Test.YtobklbangjjocaaDoorShelf
set_option linter.unusedSimpArgs false
set_option linter.unusedVariables false
set_option maxRecDepth 100000
namespace Go.Proofs.YtobklbangjjocaaDoor
open Go.RowKit

/-- The sentinel's variable holds an error. -/
def Es (w : World) : Prop := ∃ te pe, w.cell? ⟨2, 0, none⟩ = some (.iface te pe)
theorem Es.below {w w' : World} (h : Es w) (hb : Below w.heap.size w w') : Es w' := by
  obtain ⟨te, pe, h⟩ := h
  exact ⟨te, pe, (hb.cell (World.block_lt_of_cell? w _ h)).trans h⟩
theorem bytes_below (w : World) (s : ByteArray) : Below w.heap.size w (Lib.bytesWorld w 5 s) :=
  ⟨rfl, rfl, rfl, by rw [Lib.bytesWorld_size]; omega, fun j hj => Lib.bytesWorld_at_old w 5 s j hj⟩
theorem parseUint_yes (w : World) (t : ByteArray) (h4 : t.size = 4) (n : Nat) (hn : parse8 0 t.data.toList = some n) : Calls Tryd.prog 27 #[.string t, .int .i64 8, .int .i64 12] w fun e w' => e = .returned (.tuple #[.int .u64 (n : Int), .nilIface]) ∧ Below w.heap.size w w' := by
  have HF := inner_any t h4 w
  rw [hn] at HF
  have HF := Lib.hid HF
  clear h4 hn
  go_enter Tryd.func27, Tryd.ntmps27
  go_wp2_with fail
  with_reducible refine HF.out.mono ?_
  rintro e w1 ⟨rfl, rfl⟩
  have H1 := Lib.hid (bytes_below w t)
  unfold pTup
  go_wp2_with fail
  go_ret2
  exact ⟨rfl, H1.out⟩
theorem parseUint_no (w : World) (hE : Es w) (t : ByteArray) (h4 : t.size = 4) (hn : parse8 0 t.data.toList = none) : Calls Tryd.prog 27 #[.string t, .int .i64 8, .int .i64 12] w fun e w' => ∃ N, e = .returned (.tuple #[.int .u64 0, .iface 70 (.pointer (some ⟨N, 0, none⟩))]) ∧ Below w.heap.size w w' := by
  have HF := inner_any t h4 w
  rw [hn] at HF
  have HF := Lib.hid HF
  obtain ⟨te, pe, hev⟩ := hE.below (bytes_below w t)
  have HV := Lib.hid (And.intro hev h4)
  clear h4 hn hev hE
  go_enter Tryd.func27, Tryd.ntmps27
  go_wp2_with fail
  with_reducible refine HF.out.mono ?_
  rintro e w1 ⟨rfl, rfl⟩
  have H1 := Lib.hid (bytes_below w t)
  unfold pTup
  go_wp2_with fail
  refine (Tryd.strconv_toError_syntax _ t 8 12 _ _ (by rw [HV.out.2]; omega) HV.out.1 (.inr ⟨te, pe, rfl⟩)).mono ?_
  rintro e w2 ⟨N, rfl, hN, hb, h2⟩
  have H2 := Lib.hid (mthen H1.out h2)
  clear hN hb h2
  go_wp2_with fail
  go_ret2
  exact ⟨N, rfl, H2.out⟩

theorem four_of {l : List UInt8} {n : Nat} (h : modeParse l = some n) : l.length = 4 ∧ parse8 0 l = some n := by
  unfold modeParse at h
  split at h
  · exact ⟨by assumption, h⟩
  · cases h
theorem parse_yes (w : World) (t : ByteArray) (n : Nat) (hn : modeParse t.data.toList = some n) : Calls Tryd.prog 9 #[.string t] w fun e w' => e = .returned (.tuple #[.int .i64 (n : Int), .int .i64 0]) ∧ Below w.heap.size w w' := by
  obtain ⟨h4, h8⟩ := four_of hn
  have hl := parse_le hn
  have hsz : t.size = 4 := by rw [← h4]; rfl
  have HF := Lib.hid (parseUint_yes w t hsz n h8)
  have hw : IntKind.i64.wrap (n : Int) = (n : Int) := by simp [IntKind.wrap, IntKind.bits, IntKind.signed]; omega
  clear h4 h8 hn
  go_enter Tryd.func9, Tryd.ntmps9
  go_wp2_with fail
  with_reducible refine HF.out.mono ?_
  rintro e w1 ⟨rfl, h1⟩
  have H1 := Lib.hid h1
  clear h1
  go_wp2_with fail
  go_ret2
  exact ⟨rfl, H1.out⟩
theorem parse_no (w : World) (hE : Es w) (t : ByteArray) (hn : modeParse t.data.toList = none) : Calls Tryd.prog 9 #[.string t] w fun e w' => e = .returned (.tuple #[.int .i64 0, .int .i64 3]) ∧ Below w.heap.size w w' := by
  by_cases h4 : t.size = 4
  · have h8 : parse8 0 t.data.toList = none := by
      unfold modeParse at hn
      rwa [if_pos (show t.data.toList.length = 4 from h4)] at hn
    have HF := Lib.hid (parseUint_no w hE t h4 h8)
    clear h8 hn hE
    go_enter Tryd.func9, Tryd.ntmps9
    go_wp2_with fail
    with_reducible refine HF.out.mono ?_
    rintro e w1 ⟨N, rfl, h1⟩
    have H1 := Lib.hid h1
    clear h1
    go_wp2_with fail
    go_ret2
    exact ⟨rfl, H1.out⟩
  · have hne : ¬ ((t.size : Int) = 4) := by omega
    obtain ⟨q1, q2, q3⟩ := eqB_false hne
    have hne2 : ¬ t.size = 4 := h4
    have q4 : decide (t.size = 4) = false := by simpa using h4
    clear hn hE hne h4
    go_enter Tryd.func9, Tryd.ntmps9
    go_wp2_with fail
    go_ret2
    exact ⟨rfl, Below.refl _ _⟩
end Go.Proofs.YtobklbangjjocaaDoor
