/-
  Int, Text, Of, strange: the small functions. Conditions: what is handed in reads as a tree; bytes and lists no longer than a million.
-/
import Derived.Test.YtodpojbgkeecnaaDoorCOwn
import Derived.Lib.AppendStr
import Derived.WalkSpells
set_option linter.unusedSimpArgs false
set_option linter.unusedVariables false
namespace Go.Proofs.YtodpojbgkeecnaaDoor
open Go.RowKit

theorem In.int (w : World) (Q : Nat → Prop) (n : Int) : In w Q (.mk 0 n [] []) (.agg #[.int .i64 0, .int .i64 n, .slice none 0 0, .slice none 0 0]) := In.shut (BIn.none w Q) (LIn.none w Q)

theorem int_any (w : World) (n : Int) : Calls Tryd.prog 19 #[.int .i64 n] w fun e w' => e = .returned (.agg #[.int .i64 0, .int .i64 n, .slice none 0 0, .slice none 0 0]) ∧ Below w.heap.size w w' := by
  go_enter Tryd.func19, Tryd.ntmps19
  go_wp2_with fail
  refine bodyPost_ret (v := .agg #[.int .i64 0, .int .i64 n, .slice none 0 0, .slice none 0 0]) (by simp [results, Tryd.results19, go_sem]) rfl ⟨rfl, ?_⟩
  exact (Below.refl _ _).alloc (Nat.le_refl _) _

set_option maxRecDepth 100000 in
theorem of_any (w : World) (Q : Nat → Prop) (L : Option Addr) (n c : Nat) (l : List T) (xs : List Value) (hl : LIn w Q L n c l xs) (hok : (T.mk 2 0 [] l).ok) : Calls Tryd.prog 18 #[.slice L n c] w (OwnPost (.mk 2 0 [] l) w) := by
  have HL := Lib.hid hl
  have HO := Lib.hid hok
  clear hl hok
  go_enter Tryd.func18, Tryd.ntmps18
  go_wp2_with fail
  refine (own_any _ (.mk 2 0 [] l) (Nat.lt_succ_self _) HO.out _ Q _ (In.shut (BIn.none _ Q) (HL.out.below ((Below.refl _ _).alloc (Nat.le_refl _) _)))).mono ?_
  rintro e w2 ⟨v2, rfl, hin2, hb2⟩
  obtain ⟨A2, nb2, cb2, L2, nl2, cl2, xs2, rfl, hb, hl⟩ := hin2.open_
  rw [World.size_alloc] at hb2
  have hd : Blk w2 w.heap.size 26 [.int .i64 0, .int .i64 0, .slice none 0 0, .slice none 0 0] := (Blk.new w 26 [.int .i64 0, .int .i64 0, .slice none 0 0, .slice none 0 0]).below hb2 (Nat.lt_succ_self _)
  have g0 := hd.cell 0
  have g1 := hd.cell 1
  have g2 := hd.cell 2
  have g3 := hd.cell 3
  simp only [List.getElem?_cons_succ, List.getElem?_cons_zero] at g0 g1 g2 g3
  have k0 := hd.frozen 0
  have k1 := hd.frozen 1
  have k2 := hd.frozen 2
  have k3 := hd.frozen 3
  have H2 := Lib.hid (And.intro hin2 (And.intro hb2 hd))
  clear hin2 hb2 hd hb hl
  go_wp2_with fail
  refine bodyPost_ret (v := .agg #[.int .i64 2, .int .i64 0, .slice A2 nb2 cb2, .slice L2 nl2 cl2]) (by simp [results, Tryd.results18, go_sem, g0, g1, g2, g3]) rfl ⟨_, rfl, ?_, ?_⟩
  · refine H2.out.1.keep _ _ fun g hg hlt => ?_
    simp only [World.size_alloc] at hg
    have ho : Only [w.heap.size] w2 ((((w2.setCell ⟨w.heap.size, 0, none⟩ (.int .i64 2)).setCell ⟨w.heap.size, 1, none⟩ (.int .i64 0)).setCell ⟨w.heap.size, 2, none⟩ (.slice A2 nb2 cb2)).setCell ⟨w.heap.size, 3, none⟩ (.slice L2 nl2 cl2)) := (((((Only.refl _ _).setCell (.inl (by simp)) _).setCell (.inl (by simp)) _).setCell (.inl (by simp)) _).setCell (.inl (by simp)) _)
    exact ⟨ho.block g hlt (by simp; omega), by omega⟩
  · exact (((((((Below.refl _ w).alloc (Nat.le_refl _) _).trans (H2.out.2.1.mono (by omega))).setCell (Nat.le_refl _) _).setCell (Nat.le_refl _) _).setCell (Nat.le_refl _) _).setCell (Nat.le_refl _) _)


theorem text_first {w w2 : World} (hg : (w.alloc (.cells #[.int .i64 0, .int .i64 0, .slice none 0 0, .slice none 0 0] 26)).grownBy w2 (Value.ownBlock (.slice none 0 0))) :
    Blk w2 w.heap.size 26 [.int .i64 0, .int .i64 0, .slice none 0 0, .slice none 0 0] ∧ Below w.heap.size w w2 ∧ w2.cell? ⟨w.heap.size, 0, none⟩ = some (.int .i64 0) ∧ w2.cell? ⟨w.heap.size, 1, none⟩ = some (.int .i64 0) ∧ w2.cell? ⟨w.heap.size, 2, none⟩ = some (.slice none 0 0) ∧ w2.cell? ⟨w.heap.size, 3, none⟩ = some (.slice none 0 0) ∧
      w2.frozen? ⟨w.heap.size, 0, none⟩ = false ∧ w2.frozen? ⟨w.heap.size, 1, none⟩ = false ∧ w2.frozen? ⟨w.heap.size, 2, none⟩ = false ∧ w2.frozen? ⟨w.heap.size, 3, none⟩ = false := by
  have e1 : ∀ k : Nat, some k ≠ Value.ownBlock (.slice none 0 0) := fun k h => by cases h
  have hd : Blk w2 w.heap.size 26 [.int .i64 0, .int .i64 0, .slice none 0 0, .slice none 0 0] := (Blk.new w 26 [.int .i64 0, .int .i64 0, .slice none 0 0, .slice none 0 0]).grown hg (e1 _)
  exact ⟨hd, ((Below.refl _ _).alloc (Nat.le_refl _) _).grown hg (by simp) (fun q hq => absurd hq.symm (e1 q)), hd.cell 0, hd.cell 1, hd.cell 2, hd.cell 3, hd.frozen 0, hd.frozen 1, hd.frozen 2, hd.frozen 3⟩
theorem strCells_bytes (s : ByteArray) : Lib.strCells s = Lib.byteCells s.data.toList := by
  obtain ⟨⟨l⟩⟩ := s
  rfl

set_option maxRecDepth 100000 in
theorem text_any (w : World) (s : ByteArray) (hs : s.size ≤ 1000000) : Calls Tryd.prog 20 #[.string s] w (OwnPost (.mk 1 0 s.data.toList []) w) := by
  obtain ⟨i0, hi, hz0, hz1, hz2⟩ := info_parts binfo
  have HI := Lib.hid (And.intro hi (And.intro hz0 (And.intro hz1 hz2)))
  clear hi hz0 hz1 hz2
  go_enter Tryd.func20, Tryd.ntmps20
  go_wp2_with (at_builtin; refine Lib.wpList_append_own_string _ rfl (.const (Value.slice none 0 0)) (.tmp 3) 23 9 rfl (w.heap.size + 1) 5 i0 Tryd.underlying23 Tryd.underlying9 HI.out.1 HI.out.2.1 HI.out.2.2.1 HI.out.2.2.2 (.slice none 0 0) 0 [] rfl (World.ownsRow_nil _ _ _ _) s rfl (by unfold maxLen; omega) (by omega) (by simp) ?_; intro v2 w2 ho2 hg2 _; obtain ⟨A2, c2, rfl, hb2⟩ := own_bin (b := s.data.toList) (by simpa [strCells_bytes] using ho2); obtain ⟨hd, hbel, g0, g1, g2, g3, k0, k1, k2, k3⟩ := text_first hg2; have HK := Lib.hid (And.intro hd (And.intro hbel hb2)); clear ho2 hg2 hd hbel hb2)
  refine bodyPost_ret (v := .agg #[.int .i64 1, .int .i64 0, .slice A2 s.data.toList.length c2, .slice none 0 0]) (by simp [results, Tryd.results20, go_sem, g0, g1, g2, g3]) rfl ⟨_, rfl, ?_, ?_⟩
  · have ho : Only [w.heap.size] w2 ((((w2.setCell ⟨w.heap.size, 0, none⟩ (.int .i64 1)).setCell ⟨w.heap.size, 1, none⟩ (.int .i64 0)).setCell ⟨w.heap.size, 2, none⟩ (.slice A2 s.data.toList.length c2)).setCell ⟨w.heap.size, 3, none⟩ (.slice none 0 0)) := (((((Only.refl _ _).setCell (.inl (by simp)) _).setCell (.inl (by simp)) _).setCell (.inl (by simp)) _).setCell (.inl (by simp)) _)
    exact In.shut (HK.out.2.2.keep fun g hg hlt => ⟨ho.block g hlt (by simp; omega), by omega⟩) (LIn.none _ _)
  · exact (((HK.out.2.1.setCell (Nat.le_refl _) _).setCell (Nat.le_refl _) _).setCell (Nat.le_refl _) _).setCell (Nat.le_refl _) _

/-- Is it of no kind, or has it what its kind doesn't have? -/
def T.strangeB : T → Bool
  | .mk k n b l => if k = 0 then !(b.isEmpty && l.isEmpty) else if k = 1 then !(decide (n = 0) && l.isEmpty) else if k = 2 then !(decide (n = 0) && b.isEmpty) else true

theorem strange_any (w : World) (Q : Nat → Prop) (t : T) (v : Value) (hin : In w Q t v) : Calls Tryd.prog 23 #[v] w fun e w' => e = .returned (.bool t.strangeB) ∧ Below w.heap.size w w' := by
  obtain ⟨k, n, b, l⟩ := t
  obtain ⟨A, nb, cb, L, nl, cl, xs, rfl, hb, hl⟩ := hin.open_
  have e1 : b.isEmpty = decide (nb = 0) := by have := hb.len; subst this; cases b <;> simp
  have e2 : l.isEmpty = decide (nl = 0) := by have := hl.len; subst this; cases l <;> simp
  have hs : T.strangeB (.mk k n b l) = if k = 0 then !(decide (nb = 0) && decide (nl = 0)) else if k = 1 then !(decide (n = 0) && decide (nl = 0)) else if k = 2 then !(decide (n = 0) && decide (nb = 0)) else true := by rw [T.strangeB, e1, e2]
  rw [hs]
  clear hs hin hb hl e1 e2
  have hb0 : Below w.heap.size w (w.alloc (.cells #[.int .i64 k, .int .i64 n, .slice A nb cb, .slice L nl cl] 26)) := (Below.refl _ _).alloc (Nat.le_refl _) _
  have HB := Lib.hid hb0
  clear hb0
  by_cases k0 : k = 0
  · subst k0
    rw [if_pos rfl]
    rcases Nat.eq_zero_or_pos nb with rfl | h1
    · rcases Nat.eq_zero_or_pos nl with rfl | h2
      · go_enter Tryd.func23, Tryd.ntmps23
        go_wp2_with fail
        go_ret
        exact ⟨rfl, HB.out⟩
      · go_enter Tryd.func23, Tryd.ntmps23
        go_wp2_with fail
        go_ret
        exact ⟨by congr 2; simp; try omega, HB.out⟩
    · go_enter Tryd.func23, Tryd.ntmps23
      go_wp2_with fail
      go_ret
      exact ⟨by congr 2; simp; try omega, HB.out⟩
  · rw [if_neg k0]
    by_cases k1 : k = 1
    · subst k1
      rw [if_pos rfl]
      by_cases h1 : n = 0
      · subst h1
        rcases Nat.eq_zero_or_pos nl with rfl | h2
        · go_enter Tryd.func23, Tryd.ntmps23
          go_wp2_with fail
          go_ret
          exact ⟨rfl, HB.out⟩
        · go_enter Tryd.func23, Tryd.ntmps23
          go_wp2_with fail
          go_ret
          exact ⟨by congr 2; simp; try omega, HB.out⟩
      · go_enter Tryd.func23, Tryd.ntmps23
        go_wp2_with fail
        go_ret
        exact ⟨by congr 2; simp; try omega, HB.out⟩
    · rw [if_neg k1]
      by_cases k2 : k = 2
      · subst k2
        rw [if_pos rfl]
        by_cases h1 : n = 0
        · subst h1
          rcases Nat.eq_zero_or_pos nb with rfl | h2
          · go_enter Tryd.func23, Tryd.ntmps23
            go_wp2_with fail
            go_ret
            exact ⟨rfl, HB.out⟩
          · go_enter Tryd.func23, Tryd.ntmps23
            go_wp2_with fail
            go_ret
            exact ⟨by congr 2; simp; try omega, HB.out⟩
        · go_enter Tryd.func23, Tryd.ntmps23
          go_wp2_with fail
          go_ret
          exact ⟨by congr 2; simp; try omega, HB.out⟩
      · rw [if_neg k2]
        go_enter Tryd.func23, Tryd.ntmps23
        go_wp2_with fail
        go_ret
        exact ⟨rfl, HB.out⟩
end Go.Proofs.YtodpojbgkeecnaaDoor
