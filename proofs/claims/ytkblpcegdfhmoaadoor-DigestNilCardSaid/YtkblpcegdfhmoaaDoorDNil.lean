/-
  DigestNil's walk: a nil stream was told nothing. Condition: the constants lie in their variable.
-/
import Derived.Test.YtkblpcegdfhmoaaDoorDKnown
namespace Go.Proofs.YtkblpcegdfhmoaaDoor
open Go.RowKit

set_option maxRecDepth 100000 in
set_option maxHeartbeats 1000000 in
theorem nil_walk (w : World) (A : Option Addr) (n c : Nat) (hK : Roots Ks w) : Calls Tryd.prog 6 #[.slice A n c] w fun e w' => e = .returned (.bool true) ∧ Below w.heap.size w w' := by
  have hpos := hK.pos
  have heq : ∀ W, (Op.equalIn 10000 31 (.agg (Vb (sha Ks [])).toArray) (.agg (Vb (sha Ks [])).toArray)).run Tryd.prog W = .ok true W := fun W => by
    rw [eql32 _ _ (sha_length _ _) (sha_length _ _)]
    simp
  have HK := Lib.hid hK
  clear hK
  go_enter Tryd.func6, Tryd.ntmps6
  go_wp2_with fail
  refine (fork_str_nil Ks w).mono ?_
  rintro e w1 ⟨q, rfl, hq, hs, hb⟩
  have H1 := Lib.hid (And.intro hs hb)
  have hs1 := hb.size
  have hq1 := hs.lt
  clear hs hb
  go_wp2_with fail
  refine (known_walk w1 (HK.out.below H1.out.2 hpos)).mono ?_
  rintro e w2 ⟨rfl, hb⟩
  have H2 := Lib.hid (And.intro (H1.out.1.below hb hq1) (H1.out.2.trans (hb.mono hs1)))
  clear hb
  go_wp2_with (first
    | (go_at_call 16; refine (write_nil _ _ _ _).mono ?_; rintro e w' ⟨rfl, rfl⟩)
    | (go_at_call 18; with_reducible refine (len_nil _).mono ?_; rintro e w' ⟨rfl, rfl⟩))
  have hb3 : Below w.heap.size w (w2.alloc (.cells #[.slice A n c] 23)) := H2.out.2.alloc H2.out.2.size _
  refine (sum_any Ks _ none [] (HK.out.below hb3 hpos) (.inl ⟨rfl, rfl⟩) (by simp)).mono ?_
  rintro e w3 ⟨rfl, hb⟩
  have H3 := Lib.hid (And.intro (H2.out.1.below (((Below.refl _ _).alloc (Nat.le_refl _) _).trans (hb.mono (by simp))) H2.out.1.lt) (hb3.trans (hb.mono (by simpa using hb3.size))))
  clear hb hb3
  go_wp2_with fail
  refine (of_none Ks w3 (HK.out.below H3.out.2 hpos)).mono ?_
  rintro e w4 ⟨rfl, hb⟩
  have H4 := Lib.hid (And.intro (H3.out.1.below hb H3.out.1.lt) (H3.out.2.trans (hb.mono H3.out.2.size)))
  clear hb
  go_wp2_with fail
  have hq4 := H4.out.1.len
  go_wp2_with (go_at_call 18; refine (len_any _ q 0 hq4).mono ?_; rintro e w' ⟨rfl, rfl⟩)
  go_ret
  exact ⟨rfl, H4.out.2⟩

end Go.Proofs.YtkblpcegdfhmoaaDoor
