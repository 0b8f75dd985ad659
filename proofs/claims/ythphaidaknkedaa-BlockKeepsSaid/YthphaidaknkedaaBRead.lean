/-
  Read: what it tells of a sector. Conditions: the disk is held.
-/
import Derived.Test.YthphaidaknkedaaBMore
import Derived.WalkMore
namespace Go.Proofs.Ythphaidaknkedaa
open Go.RowKit

theorem read_nil (w : World) (no : Int) : Calls Try.prog 14 #[.pointer none, .int .i64 no] w fun e w' => e = .returned (.tuple #[.slice none 0 0, .int .i64 9]) ∧ w = w' := by
  go_enter Try.func14, Try.ntmps14
  go_wp2_with fail
  go_step3
  go_wp2_with (go_at_call 28; refine (on_nil _).mono ?_; rintro e w' ⟨rfl, rfl⟩)
  rw [Exit.noGoto_ret]
  go_ret2
  exact ⟨rfl, rfl⟩

theorem read_off (w : World) (D : Nat) (no : Int) (c0 : w.cell? ⟨D, 0, none⟩ = some (.bool false)) :
    Calls Try.prog 14 #[.pointer (some ⟨D, 0, none⟩), .int .i64 no] w fun e w' => e = .returned (.tuple #[.slice none 0 0, .int .i64 9]) ∧ w = w' := by
  go_enter Try.func14, Try.ntmps14
  go_wp2_with fail
  go_step3
  go_wp2_with (go_at_call 28; refine (on_any _ D _ c0).mono ?_; rintro e w' ⟨rfl, rfl⟩)
  rw [Exit.noGoto_ret]
  go_ret2
  exact ⟨rfl, rfl⟩

theorem read_arg (w : World) (D L n lc : Nat) (no : Int) (hn : n ≤ 4096) (c0 : w.cell? ⟨D, 0, none⟩ = some (.bool true)) (c3 : w.cell? ⟨D, 3, none⟩ = some (.slice (some ⟨L, 0, none⟩) (64 * n) lc)) (hbad : ¬ (0 ≤ no ∧ no < n)) :
    Calls Try.prog 14 #[.pointer (some ⟨D, 0, none⟩), .int .i64 no] w fun e w' => e = .returned (.tuple #[.slice none 0 0, .int .i64 1]) ∧ w = w' := by
  have hd : decide (0 ≤ no ∧ no < n) = false := decide_eq_false hbad
  clear hbad
  go_enter Try.func14, Try.ntmps14
  go_wp2_with fail
  go_step3
  go_wp2_with (first | (go_at_call 28; refine (on_any _ D _ c0).mono ?_; rintro e w' ⟨rfl, rfl⟩) | (go_at_call 32; refine (has_any _ D L n lc no hn c3).mono ?_; rw [hd]; rintro e w' ⟨rfl, rfl⟩))
  rw [Exit.noGoto_ret]
  go_ret2
  exact ⟨rfl, rfl⟩

/-- What Read leaves: the bytes in memory of the call's own. -/
def ReadPost (xs : List Int) (w : World) (e : Ending) (w' : World) : Prop := ∃ v', e = .returned (.tuple #[v', .int .i64 0]) ∧ w'.ownsRow w.heap.size 5 1 v' xs.length (U xs) ∧ v' ≠ .slice none 0 0 ∧ Below w.heap.size w w'

/-- No waiting write from place i on is of sector k. -/
def NoneFrom (s : St) (k i : Nat) : Prop := ∀ p ∈ s.waits.drop i, p.1 ≠ (k : Int)
theorem NoneFrom.start (s : St) (k : Nat) : NoneFrom s k s.waits.length := by
  intro p hp
  simp at hp

theorem seen_none {s : St} {k : Nat} (h : NoneFrom s k 0) : seen s k = (s.laid.drop (64 * k)).take 64 := by
  unfold seen
  have : s.waits.reverse.find? (fun p => p.1 == (k : Int)) = none := by
    rw [List.find?_eq_none]
    intro p hp
    have := h p (by simpa using hp)
    simpa using this
  rw [this]
theorem seen_some {s : St} {k j : Nat} {p : Int × List Int} (h : NoneFrom s k (j + 1)) (hp : s.waits[j]? = some p) (hk : p.1 = (k : Int)) : seen s k = p.2 := by
  unfold seen
  obtain ⟨hj, hpe⟩ := List.getElem?_eq_some_iff.1 hp
  have e : s.waits = s.waits.take j ++ p :: s.waits.drop (j + 1) := by
    rw [← hpe, List.getElem_cons_drop, List.take_append_drop]
  have : s.waits.reverse.find? (fun p => p.1 == (k : Int)) = some p := by
    rw [e, List.reverse_append, List.reverse_cons, List.append_assoc, List.find?_append]
    have h0 : (s.waits.drop (j + 1)).reverse.find? (fun p => p.1 == (k : Int)) = none := by
      rw [List.find?_eq_none]
      intro q hq
      have := h q (by simpa using hq)
      simpa using this
    rw [h0]
    simp [hk]
  rw [this]
theorem NoneFrom.step {s : St} {k j : Nat} {p : Int × List Int} (h : NoneFrom s k (j + 1)) (hp : s.waits[j]? = some p) (hk : (p.1 == (k : Int)) = false) : NoneFrom s k j := by
  obtain ⟨hj, hpe⟩ := List.getElem?_eq_some_iff.1 hp
  intro q hq
  rw [← List.getElem_cons_drop hj, hpe] at hq
  rcases List.mem_cons.1 hq with rfl | hq
  · simpa using hk
  · exact h q hq

theorem add_off (g o j : Nat) : (⟨g, o, none⟩ : Addr).add j = ⟨g, o + j, none⟩ := by unfold Addr.add; split <;> simp_all
theorem sector_cells {w : World} {L k : Nat} {laid : List Int} {tl : List Value} (hL : Blk w L 5 (U laid ++ tl)) : ∀ j u, (U ((laid.drop (64 * k)).take 64))[j]? = some u → w.cell? ((⟨L, k * 64, none⟩ : Addr).add j) = some u := by
  intro j u hu
  rw [add_off, hL.cell]
  rw [← U_take, ← U_drop, List.getElem?_take] at hu
  split at hu
  · rw [List.getElem?_drop] at hu
    rw [List.getElem?_append_left (by have := (List.getElem?_eq_some_iff.1 hu).1; omega), ← hu, Nat.mul_comm]
  · cases hu
theorem wait_cells {w : World} {g o : Nat} {bs : List Int} (h : ∀ j x, bs[j]? = some x → w.cell? ⟨g, o + j, none⟩ = some (.int .u8 x)) : ∀ j u, (U bs)[j]? = some u → w.cell? ((⟨g, o, none⟩ : Addr).add j) = some u := by
  intro j u hu
  rw [U_get] at hu
  cases hx : bs[j]? with
  | none => rw [hx] at hu; cases hu
  | some x =>
    rw [hx] at hu
    simp only [Option.map_some, Option.some.injEq] at hu
    subst hu
    rw [add_off]
    exact h j x hx

set_option maxHeartbeats 400000 in
theorem read_ok (B : Nat) (w : World) (D L : Nat) (wv : Value) (s : St) (k : Nat) (hd : IsDisk B w D L wv s) (hon : s.on = true) (hk : k < s.n) :
    Calls Try.prog 14 #[.pointer (some ⟨D, 0, none⟩), .int .i64 k] w (ReadPost (seen s k) w) := by
  obtain ⟨A, c, rfl, hform⟩ := hd.form
  have hn := hd.good.n2
  have hcap := hd.good.cap
  have hlc := hd.good.lc0
  obtain ⟨c0, c1, c2, c3, c4, c5, c6⟩ := dk_cells hd.disk
  rw [hon] at c0
  have hdc : decide (0 ≤ (k : Int) ∧ (k : Int) < s.n) = true := decide_eq_true ⟨by omega, by omega⟩
  have HD := Lib.hid hd
  have HF := Lib.hid hform
  clear hd hform c1 c2 c5 c6
  go_enter Try.func14, Try.ntmps14
  go_wp2_with fail
  go_step3
  go_wp2_with (first | (go_at_call 28; refine (on_any _ D _ c0).mono ?_; rintro e w' ⟨rfl, rfl⟩) | (go_at_call 32; refine (has_any _ D L s.n s.lc k hn c3).mono ?_; rw [hdc]; rintro e w' ⟨rfl, rfl⟩) | (go_at_call 36; refine (sector_any _ D L s.n s.lc k hlc hn hk c3).mono ?_; rintro e w' ⟨rfl, rfl⟩))
  go_step3
  go_wp2_with fail
  go_loop [6, 7] (fun v p => ∃ i : Nat, i ≤ s.waits.length ∧ p = .int .i64 ((i : Int) - 1) ∧ v = .slice (some ⟨L, k * 64, none⟩) 64 (s.lc - k * 64) ∧ NoneFrom s k i) (fun _ p => (intOf p + 1).toNat)
  case atStart => exact ⟨s.waits.length, Nat.le_refl _, rfl, rfl, NoneFrom.start s k⟩
  case round =>
    obtain ⟨i, hi, rfl, rfl, hnf⟩ := hrel
    have HN := Lib.hid hnf
    clear hnf
    match i, hi, HN with
    | 0, hi, HN =>
      go_wp2_with fail
      refine (clone_bytes w ⟨L, k * 64, none⟩ 64 (s.lc - k * 64) ((s.laid.drop (64 * k)).take 64) (by rw [List.length_take, List.length_drop, HD.out.good.size]; omega) (by omega) (sector_cells HD.out.laid)).mono ?_
      rintro e w' ⟨v', rfl, h1, h2⟩
      have H := Lib.hid (And.intro h1 h2)
      clear h1 h2
      go_wp2_with fail
      rw [Exit.noGoto_ret]
      go_ret2
      exact ⟨v', rfl, by rw [seen_none HN.out]; exact H.out⟩
    | j + 1, hi, HN =>
      obtain ⟨p, hp⟩ : ∃ p, s.waits[j]? = some p := ⟨_, List.getElem?_eq_getElem (by omega)⟩
      obtain ⟨g, rfl, hno, hbs⟩ := HF.out j p hp
      have ej : (((j + 1 : Nat) : Int) - 1) = (j : Int) := by omega
      rw [ej]
      have hlen := (HD.out.good.sec p (List.mem_of_getElem? hp)).2.2
      have HP := Lib.hid hp
      have HB := Lib.hid hbs
      have HL := Lib.hid hlen
      clear hp hbs ej hlen
      by_cases hq : p.1 = (k : Int)
      · have hq' : (p.1 == (k : Int)) = true := by simpa using hq
        have HQ := Lib.hid hq
        clear hq
        go_wp2_with fail
        refine (clone_bytes w ⟨g, j * 65 + 1, none⟩ 64 64 p.2 HL.out (by omega) (wait_cells HB.out)).mono ?_
        rintro e w' ⟨v', rfl, h1, h2⟩
        have H := Lib.hid (And.intro h1 h2)
        clear h1 h2
        go_wp2_with fail
        rw [Exit.noGoto_ret]
        go_ret2
        exact ⟨v', rfl, by rw [seen_some HN.out HP.out HQ.out]; exact H.out⟩
      · have hq' : (p.1 == (k : Int)) = false := by simpa using hq
        clear hq
        go_wp2_with fail
        go_round
        case rel => exact ⟨j, by omega, rfl, rfl, HN.out.step HP.out hq'⟩
        case measure => simp [intOf]

end Go.Proofs.Ythphaidaknkedaa
