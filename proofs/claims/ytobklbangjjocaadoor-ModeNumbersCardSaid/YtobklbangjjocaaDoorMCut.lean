/-
  The document's digits, what is granted, Cut, and whether somebody may. Conditions: a mode and a who that are ones, where said; lists that lie in memory.
-/
import Derived.Test.YtobklbangjjocaaDoorMSmall
set_option linter.unusedSimpArgs false
set_option linter.unusedVariables false
set_option maxRecDepth 100000
namespace Go.Proofs.YtobklbangjjocaaDoor
open Go.RowKit

theorem digit0_any (w : World) (m : Int) (h0 : 0 ≤ m) (h1 : m ≤ 4095) : Calls Tryd.prog 28 #[.int .i64 m, .int .i64 0] w fun e w' => e = .returned (.int .i64 (m / 512 % 8)) ∧ Below w.heap.size w w' := by
  have HB := Lib.hid (mnew w (.cells #[.int .i64 512, .int .i64 64, .int .i64 8, .int .i64 1] 60))
  go_enter Tryd.func28, Tryd.ntmps28
  go_wp2_with fail
  go_ret
  exact ⟨rfl, HB.out⟩
theorem digit1_any (w : World) (m : Int) (h0 : 0 ≤ m) (h1 : m ≤ 4095) : Calls Tryd.prog 28 #[.int .i64 m, .int .i64 1] w fun e w' => e = .returned (.int .i64 (m / 64 % 8)) ∧ Below w.heap.size w w' := by
  have HB := Lib.hid (mnew w (.cells #[.int .i64 512, .int .i64 64, .int .i64 8, .int .i64 1] 60))
  go_enter Tryd.func28, Tryd.ntmps28
  go_wp2_with fail
  go_ret
  exact ⟨rfl, HB.out⟩
theorem digit2_any (w : World) (m : Int) (h0 : 0 ≤ m) (h1 : m ≤ 4095) : Calls Tryd.prog 28 #[.int .i64 m, .int .i64 2] w fun e w' => e = .returned (.int .i64 (m / 8 % 8)) ∧ Below w.heap.size w w' := by
  have HB := Lib.hid (mnew w (.cells #[.int .i64 512, .int .i64 64, .int .i64 8, .int .i64 1] 60))
  go_enter Tryd.func28, Tryd.ntmps28
  go_wp2_with fail
  go_ret
  exact ⟨rfl, HB.out⟩
theorem digit3_any (w : World) (m : Int) (h0 : 0 ≤ m) (h1 : m ≤ 4095) : Calls Tryd.prog 28 #[.int .i64 m, .int .i64 3] w fun e w' => e = .returned (.int .i64 (m % 8)) ∧ Below w.heap.size w w' := by
  have HB := Lib.hid (mnew w (.cells #[.int .i64 512, .int .i64 64, .int .i64 8, .int .i64 1] 60))
  have e : m / 1 % 8 = m % 8 := by omega
  go_enter Tryd.func28, Tryd.ntmps28
  go_wp2_with fail
  go_ret
  exact ⟨ret_num (by omega), HB.out⟩

/-- Where has stands. -/
def HasAt (d w : Int) (v : Value) : Prop :=
  v = .int .i64 4 ∨ (v = .int .i64 2 ∧ hasB d w = (!(decide (w / 2 % 2 = 1) && decide (d / 2 % 2 = 0)) && !(decide (w / 1 % 2 = 1) && decide (d / 1 % 2 = 0)))) ∨
    (v = .int .i64 1 ∧ hasB d w = !(decide (w / 1 % 2 = 1) && decide (d / 1 % 2 = 0))) ∨ (v = .int .i64 0 ∧ hasB d w = true)
theorem eqB_true {a b : Int} (h : a = b) : (a == b) = true ∧ decide (a = b) = true := ⟨by simp [h], by simp [h]⟩
theorem eqB_false {a b : Int} (h : ¬ a = b) : (a == b) = false ∧ decide (a = b) = false ∧ (a != b) = true := ⟨by simp [h], by simp [h], by simp [h]⟩
set_option maxHeartbeats 1000000 in
theorem has_any (w : World) (d x : Int) (d0 : 0 ≤ d) (d1 : d ≤ 7) (x0 : 0 ≤ x) (x1 : x ≤ 7) : Calls Tryd.prog 30 #[.int .i64 d, .int .i64 x] w fun e w' => e = .returned (.bool (hasB d x)) ∧ w = w' := by
  go_enter Tryd.func30, Tryd.ntmps30
  go_wp2_with fail
  go_loop [5] (fun v => HasAt d x v) (fun v => (intOf v).toNat)
  case atStart => exact .inl rfl
  case round =>
    rcases hrel with rfl | ⟨rfl, hh⟩ | ⟨rfl, hh⟩ | ⟨rfl, hh⟩
    · by_cases h1 : x / 4 % 2 = 1
      · by_cases h2 : d / 4 % 2 = 0
        · have HH : Hid (hasB d x = false) := Lib.hid (by unfold hasB; simp [h1, h2])
          go_wp2_with fail
          go_ret
          exact ⟨ret_bool HH.out.symm, rfl⟩
        · have HH : Hid (hasB d x = (!(decide (x / 2 % 2 = 1) && decide (d / 2 % 2 = 0)) && !(decide (x / 1 % 2 = 1) && decide (d / 1 % 2 = 0)))) := Lib.hid (by unfold hasB; simp [h1, h2])
          obtain ⟨q1, q2, q3⟩ := eqB_false h2
          clear h2
          go_wp2_with fail
          go_round
          case rel => exact .inr (.inl ⟨rfl, HH.out⟩)
          case measure => simp [intOf]
      · have HH : Hid (hasB d x = (!(decide (x / 2 % 2 = 1) && decide (d / 2 % 2 = 0)) && !(decide (x / 1 % 2 = 1) && decide (d / 1 % 2 = 0)))) := Lib.hid (by unfold hasB; simp [h1])
        obtain ⟨q1, q2, q3⟩ := eqB_false h1
        clear h1
        go_wp2_with fail
        go_round
        case rel => exact .inr (.inl ⟨rfl, HH.out⟩)
        case measure => simp [intOf]
    · by_cases h1 : x / 2 % 2 = 1
      · by_cases h2 : d / 2 % 2 = 0
        · have HH : Hid (hasB d x = false) := Lib.hid (by rw [hh]; simp [h1, h2])
          clear hh
          go_wp2_with fail
          go_ret
          exact ⟨ret_bool HH.out.symm, rfl⟩
        · have HH : Hid (hasB d x = !(decide (x / 1 % 2 = 1) && decide (d / 1 % 2 = 0))) := Lib.hid (by rw [hh]; simp [h1, h2])
          obtain ⟨q1, q2, q3⟩ := eqB_false h2
          clear h2 hh
          go_wp2_with fail
          go_round
          case rel => exact .inr (.inr (.inl ⟨rfl, HH.out⟩))
          case measure => simp [intOf]
      · have HH : Hid (hasB d x = !(decide (x / 1 % 2 = 1) && decide (d / 1 % 2 = 0))) := Lib.hid (by rw [hh]; simp [h1])
        obtain ⟨q1, q2, q3⟩ := eqB_false h1
        clear h1 hh
        go_wp2_with fail
        go_round
        case rel => exact .inr (.inr (.inl ⟨rfl, HH.out⟩))
        case measure => simp [intOf]
    · by_cases h1 : x / 1 % 2 = 1
      · by_cases h2 : d / 1 % 2 = 0
        · have HH : Hid (hasB d x = false) := Lib.hid (by rw [hh, decide_eq_true h1, decide_eq_true h2]; rfl)
          clear hh
          go_wp2_with fail
          go_ret
          exact ⟨ret_bool HH.out.symm, rfl⟩
        · have HH : Hid (hasB d x = true) := Lib.hid (by rw [hh, decide_eq_true h1, decide_eq_false h2]; rfl)
          obtain ⟨q1, q2, q3⟩ := eqB_false h2
          clear h2 hh
          go_wp2_with fail
          go_round
          case rel => exact .inr (.inr (.inr ⟨rfl, HH.out⟩))
          case measure => simp [intOf]
      · have HH : Hid (hasB d x = true) := Lib.hid (by rw [hh, decide_eq_false h1]; rfl)
        obtain ⟨q1, q2, q3⟩ := eqB_false h1
        clear h1 hh
        go_wp2_with fail
        go_round
        case rel => exact .inr (.inr (.inr ⟨rfl, HH.out⟩))
        case measure => simp [intOf]
    · have HH := Lib.hid hh
      clear hh
      go_wp2_with fail
      go_ret
      exact ⟨ret_bool HH.out.symm, rfl⟩

set_option maxHeartbeats 1000000 in
theorem granted_any (w : World) (k m o g who group : Int) (h0 : 0 ≤ m) (h1 : m ≤ 4095) : Calls Tryd.prog 32 #[stv k m o g, .int .i64 who, .int .i64 group] w fun e w' => e = .returned (.int .i64 (gr m o g who group)) ∧ Below w.heap.size w w' := by
  have HB := Lib.hid (mnew w (.cells #[.int .i64 k, .int .i64 m, .int .i64 o, .int .i64 g] 32))
  by_cases c1 : who = 0
  · have e : gr m o g who group = 7 := by unfold gr; rw [if_pos c1]
    rw [e]
    clear e
    subst c1
    go_enter Tryd.func32, Tryd.ntmps32
    go_wp2_with fail
    go_ret
    exact ⟨rfl, HB.out⟩
  · by_cases c2 : who = o
    · have e : gr m o g who group = m / 64 % 8 := by unfold gr; rw [if_neg c1, if_pos c2]
      rw [e]
      clear e
      obtain ⟨q1, q2, q3⟩ := eqB_false c1
      clear c1
      subst c2
      go_enter Tryd.func32, Tryd.ntmps32
      go_wp2_with fail
      go_ret
      exact ⟨ret_num (by first | rfl | exact mask3 _ | (rw [mask3]) | (rw [mask3]; omega)), HB.out⟩
    · obtain ⟨q1, q2, q3⟩ := eqB_false c1
      obtain ⟨q4, q5, q6⟩ := eqB_false c2
      by_cases c3 : group = g
      · have e : gr m o g who group = m / 8 % 8 := by unfold gr; rw [if_neg c1, if_neg c2, if_pos c3]
        rw [e]
        clear e c1 c2
        subst c3
        go_enter Tryd.func32, Tryd.ntmps32
        go_wp2_with fail
        go_ret
        exact ⟨ret_num (by first | rfl | exact mask3 _ | (rw [mask3]) | (rw [mask3]; omega)), HB.out⟩
      · have e : gr m o g who group = m % 8 := by unfold gr; rw [if_neg c1, if_neg c2, if_neg c3]
        rw [e]
        obtain ⟨q7, q8, q9⟩ := eqB_false c3
        clear e c1 c2 c3
        go_enter Tryd.func32, Tryd.ntmps32
        go_wp2_with fail
        go_ret
        exact ⟨ret_num (by first | rfl | exact mask3 _ | (rw [mask3]) | (rw [mask3]; omega)), HB.out⟩

/-- Where Cut stands. -/
def CutAt (m : Int) (ds : List Int) (mv iv : Value) : Prop := ∃ k : Nat, k ≤ ds.length ∧ iv = .int .i64 k ∧ mv = .int .i64 ((ds.take k).foldl (fun a d => bits .andNot .i64 a d) m)
theorem foldl_take {α : Type} (f : α → Int → α) (a : α) (l : List Int) (k : Nat) (x : Int) (h : l[k]? = some x) : (l.take (k + 1)).foldl f a = f ((l.take k).foldl f a) x := by
  rw [List.take_add_one, h]
  simp
set_option maxHeartbeats 1000000 in
theorem cut_any (w : World) (m : Int) (A : Option Addr) (n c : Nat) (ds : List Int) (hd : NIn w A n c ds) : Calls Tryd.prog 24 #[.int .i64 m, .slice A n c] w fun e w' => e = .returned (.int .i64 (cutL m ds)) ∧ w = w' := by
  by_cases hm : 0 ≤ m ∧ m ≤ 4095
  · have HM := Lib.hid hm
    have HD := Lib.hid hd
    have hbig := hd.big
    obtain ⟨L, hL⟩ : ∃ L, L = ds.length := ⟨_, rfl⟩
    have hnL : n = L := by rw [hL]; exact hd.len.symm
    have HL := Lib.hid hL
    clear hm hd hL
    subst hnL
    go_enter Tryd.func24, Tryd.ntmps24
    go_wp2_with (go_at_call 25; ((with_reducible refine (isMode_yes _ m HM.out.1 HM.out.2).mono ?_); rintro e w' ⟨rfl, rfl⟩))
    go_loop [0, 12] (fun mv iv => CutAt m ds mv iv) (fun _ iv => n - (intOf iv).toNat)
    case atStart => exact ⟨0, Nat.zero_le _, rfl, rfl⟩
    case round =>
      obtain ⟨k, hk, rfl, rfl⟩ := hrel
      by_cases hlt : k < n
      · obtain ⟨b, o, rfl, hb, hc⟩ := HD.out.cells (by omega)
        obtain ⟨x, hx⟩ : ∃ x, ds[k]? = some x := ⟨_, List.getElem?_eq_getElem (by have := HL.out; omega)⟩
        have hcell := hc k x hx
        have HF := Lib.hid (foldl_take (fun a d => bits .andNot .i64 a d) m ds k x hx)
        have HK : Hid (k + 1 ≤ ds.length) := Lib.hid (by have := HL.out; omega)
        clear hc hx hk
        obtain ⟨z, hz⟩ : ∃ z, z = (ds.take k).foldl (fun a d => bits .andNot .i64 a d) m := ⟨_, rfl⟩
        have HZ := Lib.hid hz
        rw [← hz]
        clear hz
        go_wp2_with fail
        go_round
        case rel => exact ⟨k + 1, HK.out, by go_num, by rw [HF.out, ← HZ.out]⟩
        case measure => simp [intOf]; omega
      · have HF : Hid ((ds.take k).foldl (fun a d => bits .andNot .i64 a d) m = cutL m ds) := Lib.hid (by
          rw [List.take_of_length_le (by have := HL.out; omega)]
          unfold cutL
          rw [if_pos HM.out])
        clear hk
        go_wp2_with fail
        go_ret
        exact ⟨ret_num HF.out, rfl⟩
  · have e : cutL m ds = 0 := by unfold cutL; rw [if_neg hm]
    rw [e]
    have HM : Hid (m < 0 ∨ 4095 < m) := Lib.hid (by omega)
    clear hm hd e
    go_enter Tryd.func24, Tryd.ntmps24
    go_wp2_with (go_at_call 25; ((with_reducible refine (isMode_no _ m HM.out).mono ?_); rintro e w' ⟨rfl, rfl⟩))
    go_ret
    exact ⟨rfl, rfl⟩

/-- A list's first wants may all be done. -/
def mayAll (d : Int) (ws : List Int) : Bool := ws.all fun x => decide (bits .andNot .i64 x d = 0)
theorem mayAll_snoc {d x : Int} {ws : List Int} {k : Nat} (h : mayAll d (ws.take k) = true) (hx : ws[k]? = some x) (h0 : bits .andNot .i64 x d = 0) : mayAll d (ws.take (k + 1)) = true := by
  unfold mayAll at h ⊢
  rw [List.take_add_one, hx, List.all_append, h]
  simp [h0]
theorem mayAll_stop {d x : Int} {ws : List Int} {k : Nat} (hx : ws[k]? = some x) (h0 : ¬ bits .andNot .i64 x d = 0) : mayAll d ws = false := by
  unfold mayAll
  rw [List.all_eq_false]
  exact ⟨x, List.mem_of_getElem? hx, by simpa using h0⟩
/-- Where Can stands. -/
def CanAt (d : Int) (ws : List Int) (iv : Value) : Prop := ∃ k : Nat, k ≤ ws.length ∧ iv = .int .i64 k ∧ mayAll d (ws.take k) = true
theorem can_bad {k m o g who group : Int} {ws : List Int} (h : chk k m o g ≠ 0) : canB k m o g who group ws = false := by unfold canB; simp [h]
theorem can_who {k m o g who group : Int} {ws : List Int} (h : who < 0 ∨ 65535 < who) : canB k m o g who group ws = false := by
  unfold canB whoB
  have : (decide (0 ≤ who) && decide (who ≤ 65535)) = false := by rw [Bool.and_eq_false_iff, decide_eq_false_iff_not, decide_eq_false_iff_not]; omega
  rw [this]
  simp
theorem can_group {k m o g who group : Int} {ws : List Int} (h : group < 0 ∨ 65535 < group) : canB k m o g who group ws = false := by
  unfold canB whoB
  have : (decide (0 ≤ group) && decide (group ≤ 65535)) = false := by rw [Bool.and_eq_false_iff, decide_eq_false_iff_not, decide_eq_false_iff_not]; omega
  rw [this]
  simp
theorem can_may {k m o g who group : Int} {ws : List Int} (h : chk k m o g = 0) (h0 : 0 ≤ who) (h1 : who ≤ 65535) (h2 : 0 ≤ group) (h3 : group ≤ 65535) : canB k m o g who group ws = mayAll (gr m o g who group) ws := by
  unfold canB whoB mayAll
  simp [h, h0, h1, h2, h3]
theorem check_ok (w : World) {k m o g : Int} (h : chk k m o g = 0) : Calls Tryd.prog 16 #[stv k m o g] w fun e w' => e = .returned (.int .i64 0) ∧ Below w.heap.size w w' := by
  have := check_any w k m o g
  rwa [h] at this
theorem check_bad (w : World) {k m o g : Int} (h : chk k m o g ≠ 0) : Calls Tryd.prog 16 #[stv k m o g] w fun e w' => ∃ z, e = .returned (.int .i64 z) ∧ z = chk k m o g ∧ Below w.heap.size w w' :=
  (check_any w k m o g).mono fun e w' h => ⟨_, h.1, rfl, h.2⟩
theorem rcheck_ok (w : World) {k m o g : Int} (h : chk k m o g = 0) : Calls Tryd.prog 17 #[stv k m o g] w fun e w' => e = .returned (.int .i64 0) ∧ Below w.heap.size w w' := by
  have := rcheck_any w k m o g
  rwa [h] at this
theorem rcheck_bad (w : World) {k m o g : Int} (h : chk k m o g ≠ 0) : Calls Tryd.prog 17 #[stv k m o g] w fun e w' => ∃ z, e = .returned (.int .i64 z) ∧ z = chk k m o g ∧ Below w.heap.size w w' :=
  (rcheck_any w k m o g).mono fun e w' h => ⟨_, h.1, rfl, h.2⟩

set_option maxHeartbeats 2000000 in
theorem can_any (w : World) (k m o g who group : Int) (A : Option Addr) (n c : Nat) (ws : List Int) (hd : NIn w A n c ws) :
    Calls Tryd.prog 15 #[stv k m o g, .int .i64 who, .int .i64 group, .slice A n c] w fun e w' => e = .returned (.bool (canB k m o g who group ws)) ∧ Below w.heap.size w w' := by
  have HB := Lib.hid (mnew w (.cells #[.int .i64 k, .int .i64 m, .int .i64 o, .int .i64 g] 32))
  by_cases hc : chk k m o g = 0
  · by_cases hw : 0 ≤ who ∧ who ≤ 65535
    · by_cases hg : 0 ≤ group ∧ group ≤ 65535
      · have hbig := hd.big
        rw [can_may hc hw.1 hw.2 hg.1 hg.2]
        have hm := (chk_zero hc).2.1
        obtain ⟨d, hdd⟩ : ∃ d, d = gr m o g who group := ⟨_, rfl⟩
        rw [← hdd]
        have HD := Lib.hid (And.intro hc (And.intro hw (And.intro hg (And.intro hm (And.intro hdd hd)))))
        have HL : Hid (ws.length = n) := Lib.hid hd.len
        clear hc hw hg hm hd hdd
        go_enter Tryd.func15, Tryd.ntmps15
        go_wp2_with (first
          | (go_at_call 16; ((with_reducible refine (check_ok _ HD.out.1).mono ?_); rintro e w1 ⟨rfl, h1⟩; obtain ⟨e0, e1, e2, e3⟩ := ((Box.new w 32 k m o g).below h1).cells; have H1 := Lib.hid (mthen HB.out h1); clear h1))
          | (go_at_call 31; ((with_reducible refine (isWho_yes _ who HD.out.2.1.1 HD.out.2.1.2).mono ?_); rintro e w' ⟨rfl, rfl⟩))
          | (go_at_call 31; ((with_reducible refine (isWho_yes _ group HD.out.2.2.1.1 HD.out.2.2.1.2).mono ?_); rintro e w' ⟨rfl, rfl⟩))
          | (go_at_call 32; ((with_reducible refine (granted_any _ k m o g who group HD.out.2.2.2.1.1 HD.out.2.2.2.1.2).mono ?_); rintro e w2 ⟨rfl, h2⟩; have H2 := Lib.hid (mthen H1.out h2); clear h2; rw [← HD.out.2.2.2.2.1])))
        have HN := Lib.hid (HD.out.2.2.2.2.2.below H2.out)
        clear e0 e1 e2 e3
        go_loop [31] (fun iv => CanAt d ws iv) (fun iv => n - (intOf iv).toNat)
        case atStart => exact ⟨0, Nat.zero_le _, rfl, rfl⟩
        case round =>
          obtain ⟨j, hj, rfl, hall⟩ := hrel
          by_cases hlt : j < n
          · obtain ⟨b, oo, rfl, hb, hcl⟩ := HN.out.cells (by omega)
            obtain ⟨x, hx⟩ : ∃ x, ws[j]? = some x := ⟨_, List.getElem?_eq_getElem (by have := HL.out; omega)⟩
            have hcell := hcl j x hx
            by_cases hz : bits .andNot .i64 x d = 0
            · have HK := Lib.hid (And.intro (show j + 1 ≤ ws.length by have := HL.out; omega) (mayAll_snoc hall hx hz))
              clear hcl hx hj hall
              go_wp2_with fail
              go_round
              case rel => exact ⟨j + 1, HK.out.1, by go_num, HK.out.2⟩
              case measure => simp [intOf]; omega
            · have HK := Lib.hid (mayAll_stop hx hz)
              obtain ⟨q1, q2, q3⟩ := eqB_false hz
              clear hcl hx hj hall hz
              go_wp2_with fail
              go_ret
              exact ⟨ret_bool HK.out.symm, H2.out⟩
          · have HK : Hid (mayAll d ws = true) := Lib.hid (by rwa [List.take_of_length_le (by have := HL.out; omega)] at hall)
            clear hj hall
            go_wp2_with fail
            go_ret
            exact ⟨ret_bool HK.out.symm, H2.out⟩
      · rw [can_group (by omega)]
        have HD := Lib.hid (And.intro hc (And.intro hw (show group < 0 ∨ 65535 < group by omega)))
        clear hc hw hg hd
        go_enter Tryd.func15, Tryd.ntmps15
        go_wp2_with (first
          | (go_at_call 16; ((with_reducible refine (check_ok _ HD.out.1).mono ?_); rintro e w1 ⟨rfl, h1⟩; have H1 := Lib.hid (mthen HB.out h1); clear h1))
          | (go_at_call 31; ((with_reducible refine (isWho_yes _ who HD.out.2.1.1 HD.out.2.1.2).mono ?_); rintro e w' ⟨rfl, rfl⟩))
          | (go_at_call 31; ((with_reducible refine (isWho_no _ group HD.out.2.2).mono ?_); rintro e w' ⟨rfl, rfl⟩)))
        go_ret
        exact ⟨rfl, H1.out⟩
    · rw [can_who (by omega)]
      have HD := Lib.hid (And.intro hc (show who < 0 ∨ 65535 < who by omega))
      clear hc hw hd
      go_enter Tryd.func15, Tryd.ntmps15
      go_wp2_with (first
        | (go_at_call 16; ((with_reducible refine (check_ok _ HD.out.1).mono ?_); rintro e w1 ⟨rfl, h1⟩; have H1 := Lib.hid (mthen HB.out h1); clear h1))
        | (go_at_call 31; ((with_reducible refine (isWho_no _ who HD.out.2).mono ?_); rintro e w' ⟨rfl, rfl⟩)))
      go_ret
      exact ⟨rfl, H1.out⟩
  · rw [can_bad hc]
    have HD := Lib.hid hc
    clear hc hd
    go_enter Tryd.func15, Tryd.ntmps15
    go_wp2_with (go_at_call 16; ((with_reducible refine (check_bad _ HD.out).mono ?_); rintro e w1 ⟨z, rfl, hz, h1⟩; obtain ⟨q1, q2, q3⟩ := eqB_false (show ¬ z = 0 by rw [hz]; exact HD.out); clear hz; have H1 := Lib.hid (mthen HB.out h1); clear h1))
    go_ret
    exact ⟨rfl, H1.out⟩
end Go.Proofs.YtobklbangjjocaaDoor
