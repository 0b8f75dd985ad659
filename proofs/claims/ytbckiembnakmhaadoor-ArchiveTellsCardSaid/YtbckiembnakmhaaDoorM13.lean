/-
  The laws' own helpers: a sector of one byte, bytes filled up to a sector, are two slices the same. Conditions: the slices' bytes lie at their addresses.
-/
import Derived.Test.YtbckiembnakmhaaDoorM12
import Derived.Deep.QuietTactic
import Derived.BigQuiet
import Derived.Test.YtbckiembnakmhaaDoorM10
import Derived.Test.YtbckiembnakmhaaDoorM11
import Derived.Test.YtbckiembnakmhaaDoorM9
import Derived.Test.YtbckiembnakmhaaDoorM4
import Derived.Test.YtbckiembnakmhaaDoorM6
section
set_option maxRecDepth 100000
set_option linter.unusedSimpArgs false
set_option linter.unusedVariables false
namespace Go.Proofs.YtbckiembnakmhaaDoor
open Go.RowKit

/-- The bytes of a slice lie at its address (nil, empty or not). -/
def BytesAt (w : World) (A : Option Addr) (xs : List Int) : Prop := 0 < xs.length → ∃ ad, A = some ad ∧ ∀ j x, xs[j]? = some x → w.cell? (ad.add j) = some (.int .u8 x)

def SameRel (xs ys : List Int) (w : World) (k : Nat) (wr : World) : Prop := xs.take k = ys.take k ∧ ∃ q, wr = w.drewN q
theorem same_step {xs ys : List Int} {k : Nat} {x y : Int} (h : xs.take k = ys.take k) (hx : xs[k]? = some x) (hy : ys[k]? = some y) (e : x = y) : xs.take (k + 1) = ys.take (k + 1) := by
  rw [List.take_add_one, List.take_add_one, hx, hy, h, e]
theorem same_no {xs ys : List Int} {k : Nat} {x y : Int} (hx : xs[k]? = some x) (hy : ys[k]? = some y) (e : x ≠ y) : (xs == ys) = false := by
  rw [beq_eq_false_iff_ne]
  rintro rfl
  rw [hx] at hy
  injection hy with hy
  exact e hy
theorem same_yes {xs ys : List Int} {n : Nat} (h : xs.take n = ys.take n) (hx : xs.length = n) (hy : ys.length = n) : (xs == ys) = true := by
  rw [List.take_of_length_le (by omega), List.take_of_length_le (by omega)] at h
  simp [h]

set_option maxHeartbeats 1000000 in
theorem same_walk (w : World) (A A' : Option Addr) (n n' c c' : Nat) (xs ys : List Int) (hx : xs.length = n) (hy : ys.length = n') (hbig : n ≤ 9223372036854775807) (h : BytesAt w A xs) (h' : BytesAt w A' ys) :
    Calls Tryd.prog 19 #[.slice A n c, .slice A' n' c'] w fun e w' => e = .returned (.bool (xs == ys)) ∧ ∃ q, w.drewN q = w' := by
  by_cases hne : n = n'
  · subst hne
    have hd : ((n : Int) != n) = false := by simp
    go_enter Tryd.func19, Tryd.ntmps19
    go_wp2_with fail
    have HX := Lib.hid (And.intro hx hy)
    have HA := Lib.hid h
    have HA' := Lib.hid h'
    clear hx hy h h' hd
    go_loopw [5] (fun i wr => ∃ k : Nat, k ≤ n ∧ i = .int .i64 k ∧ SameRel xs ys w k wr) (fun i _ => n - (intOf i).toNat)
    case atStart => exact ⟨0, Nat.zero_le _, rfl, rfl, 0, rfl⟩
    case round =>
      obtain ⟨k, hk, rfl, hpre, q, rfl⟩ := hrel
      have HP := Lib.hid hpre
      clear hpre
      by_cases hlt : k < n
      · obtain ⟨ad, rfl, hc⟩ := HA.out (by have := HX.out.1; omega)
        obtain ⟨ad', rfl, hc'⟩ := HA'.out (by have := HX.out.2; omega)
        obtain ⟨x, hx⟩ : ∃ x, xs[k]? = some x := ⟨_, List.getElem?_eq_getElem (by have := HX.out.1; omega)⟩
        obtain ⟨y, hy⟩ : ∃ y, ys[k]? = some y := ⟨_, List.getElem?_eq_getElem (by have := HX.out.2; omega)⟩
        have e1 := hc k x hx
        have e2 := hc' k y hy
        have HK := Lib.hid (And.intro hx hy)
        clear hc hc' hx hy
        by_cases hxy : x = y
        · have hb : (x != y) = false := by simp [hxy]
          have HE := Lib.hid hxy
          clear hxy
          go_wp2_with fail
          go_quiet (fail)
          go_wp2_with fail
          go_roundw
          case rel => exact ⟨k + 1, by omega, by go_num, same_step HP.out HK.out.1 HK.out.2 HE.out, _, rfl⟩
          case measure => simp [intOf]; omega
        · have hb : (x != y) = true := by rw [bne_iff_ne]; exact hxy
          have HE := Lib.hid hxy
          clear hxy
          go_wp2_with fail
          go_quiet (fail)
          go_wp2_with fail
          go_ret
          exact ⟨by rw [same_no HK.out.1 HK.out.2 HE.out]; rfl, _, (World.drewN_drewN _ _ _).symm⟩
      · obtain rfl : k = n := by omega
        go_wp2_with fail
        go_ret
        exact ⟨by rw [same_yes HP.out HX.out.1 HX.out.2]; rfl, _, rfl⟩
  · have hd : ((n : Int) != n') = true := by rw [bne_iff_ne]; omega
    have hq : (xs == ys) = false := by
      rw [beq_eq_false_iff_ne]
      rintro rfl
      omega
    rw [hq]
    clear hne hq hx hy h h'
    go_enter Tryd.func19, Tryd.ntmps19
    go_wp2_with fail
    go_ret
    exact ⟨rfl, 0, rfl⟩

def Z64 : List Int := List.replicate 64 0
/-- The first k bytes are c, the others 0. -/
def AllTo (c : Int) (k : Nat) : List Int := List.replicate k c ++ List.replicate (64 - k) 0
def AllRel (N : Nat) (c : Int) (w : World) (k : Nat) (wr : World) : Prop := Blk wr N 5 (U (AllTo c k)) ∧ Below N w wr
theorem AllTo.step (c : Int) (k : Nat) (hk : k < 64) : (U (AllTo c k)).set k (.int .u8 c) = U (AllTo c (k + 1)) := by
  unfold AllTo U
  rw [← List.map_set]
  congr 1
  rw [List.set_append_right _ _ (by simp)]
  simp only [List.length_replicate, Nat.sub_self]
  obtain ⟨m, hm⟩ : ∃ m, 64 - k = m + 1 := ⟨63 - k, by omega⟩
  rw [hm, List.replicate_succ, List.set_cons_zero, show 64 - (k + 1) = m by omega, List.replicate_succ']
  simp

/-- Bytes filled up, or cut, to a sector. -/
def full (xs : List Int) : List Int := xs.take 64 ++ List.replicate (64 - xs.length) 0
theorem full_length (xs : List Int) : (full xs).length = 64 := by simp [full]; omega
def FullTo (xs : List Int) (k : Nat) : List Int := xs.take k ++ List.replicate (64 - k) 0
def FullRel (N : Nat) (xs : List Int) (w : World) (k : Nat) (wr : World) : Prop := Blk wr N 5 (U (FullTo xs k)) ∧ Below N w wr
theorem FullTo.step (xs : List Int) (k : Nat) (x : Int) (hk : k < 64) (hx : xs[k]? = some x) : (U (FullTo xs k)).set k (.int .u8 x) = U (FullTo xs (k + 1)) := by
  have hl : k < xs.length := (List.getElem?_eq_some_iff.1 hx).1
  have ht : (xs.take k).length = k := by rw [List.length_take]; omega
  unfold FullTo U
  rw [← List.map_set]
  congr 1
  rw [List.set_append_right _ _ (by omega), ht, Nat.sub_self, List.take_add_one, hx]
  obtain ⟨m, hm⟩ : ∃ m, 64 - k = m + 1 := ⟨63 - k, by omega⟩
  rw [hm, List.replicate_succ, List.set_cons_zero, show 64 - (k + 1) = m by omega]
  simp
theorem FullTo.done (xs : List Int) (k : Nat) (h : k = xs.length ∧ k ≤ 64 ∨ k = 64 ∧ k ≤ xs.length) : FullTo xs k = full xs := by
  unfold FullTo full
  rcases h with ⟨rfl, h⟩ | ⟨rfl, h⟩
  · rw [List.take_of_length_le (Nat.le_refl _), List.take_of_length_le h]
  · rw [show 64 - 64 = 0 by omega, show 64 - xs.length = 0 by omega]

end Go.Proofs.YtbckiembnakmhaaDoor
end

/-
  What is read of a sector, behind a write, a flush and a crash that keeps all: plain theorems on states. Conditions: the state is good.
-/

section
set_option maxRecDepth 100000
set_option linter.unusedSimpArgs false
set_option linter.unusedVariables false
namespace Go.Proofs.YtbckiembnakmhaaDoor
open Go.RowKit

def sec (l : List Int) (j : Nat) : List Int := (l.drop (64 * j)).take 64
theorem sec_putS {l bs : List Int} {n k j : Nat} (hl : l.length = 64 * n) (hk : k < n) (hj : j < n) (hb : bs.length = 64) : sec (putS l k bs) j = if j = k then bs else sec l j := by
  apply List.ext_getElem?
  intro i
  unfold sec putS
  by_cases hi : i < 64
  · rw [List.getElem?_take_of_lt hi, List.getElem?_drop]
    by_cases hjk : j = k
    · subst hjk
      rw [if_pos rfl, List.append_assoc, List.getElem?_append_right (by simp; omega), List.getElem?_append_left (by simp; omega)]
      congr 1
      simp
      omega
    · rw [if_neg hjk, List.getElem?_take_of_lt hi, List.getElem?_drop]
      by_cases hlt : j < k
      · rw [List.append_assoc, List.getElem?_append_left (by simp; omega), List.getElem?_take_of_lt (by omega)]
      · rw [List.getElem?_append_right (by simp; omega), List.getElem?_drop]
        congr 1
        simp
        omega
  · rw [List.getElem?_take_eq_none (by omega)]
    by_cases hjk : j = k
    · rw [if_pos hjk, List.getElem?_eq_none (by omega)]
    · rw [if_neg hjk, List.getElem?_take_eq_none (by omega)]

theorem sec_layAll {n j : Nat} (hj : j < n) : ∀ (rs : List (Int × List Int)) (l : List Int), l.length = 64 * n → (∀ p ∈ rs, 0 ≤ p.1 ∧ p.1 < n ∧ p.2.length = 64) →
    sec (layAll l rs.reverse) j = match rs.find? (fun p => p.1 == (j : Int)) with | some p => p.2 | none => sec l j
  | [], l, _, _ => rfl
  | p :: rs, l, hl, hp => by
    have hpp := hp p (by simp)
    rw [List.reverse_cons, layAll_snoc, sec_putS (n := n) (layAll_length _ _ hl (fun q hq => hp q (by simp at hq; simp [hq]))) (by omega) hj hpp.2.2, sec_layAll hj rs l hl (fun q hq => hp q (by simp [hq])), List.find?_cons]
    by_cases h : p.1 = (j : Int)
    · have hb : (p.1 == (j : Int)) = true := by simp [h]
      rw [if_pos (by omega), hb]
    · have hb : (p.1 == (j : Int)) = false := by simpa using h
      rw [if_neg (by omega), hb]

theorem seen_sec {s : St} (hg : Good s) {j : Nat} (hj : j < s.n) : seen s j = sec (layAll s.laid s.waits) j := by
  have := sec_layAll hj s.waits.reverse s.laid hg.size (fun p hp => hg.sec p (by simpa using hp))
  rw [List.reverse_reverse] at this
  rw [this]
  rfl
theorem seen_write {s : St} (hg : Good s) {no j : Nat} {bs : List Int} (hno : no < s.n) (hb : bs.length = 64) (hj : j < s.n) {s' : St} (hg' : Good s') (hn : s'.n = s.n) (hl : s'.laid = s.laid) (hw : s'.waits = s.waits ++ [((no : Int), bs)]) :
    seen s' j = if j = no then bs else seen s j := by
  rw [seen_sec hg' (by omega), seen_sec hg hj, hl, hw, layAll_snoc, sec_putS (n := s.n) (layAll_length _ _ hg.size hg.sec) (by simpa using hno) hj hb]
  rfl
theorem seen_laid {s : St} (hg : Good s) {j : Nat} (hj : j < s.n) {s' : St} (hg' : Good s') (hn : s'.n = s.n) (hl : s'.laid = layAll s.laid s.waits) (hw : s'.waits = []) : seen s' j = seen s j := by
  rw [seen_sec hg' (by omega), seen_sec hg hj, hl, hw]
  rfl
/-- The numbers 0 to m - 1. -/
def upTo (m : Nat) : List Int := (List.range m).map fun (i : Nat) => (i : Int)
theorem upTo_succ (m : Nat) : upTo (m + 1) = upTo m ++ [(m : Int)] := by simp [upTo, List.range_succ]
theorem upTo_length (m : Nat) : (upTo m).length = m := by simp [upTo]
theorem kept_all (ws : List (Int × List Int)) : kept (upTo ws.length) ws = ws := by
  unfold kept
  have : (ws.zipIdx.filter fun x => decide ((x.2 : Int) ∈ upTo ws.length)) = ws.zipIdx := by
    rw [List.filter_eq_self]
    intro x hx
    have := (List.mem_zipIdx' hx).1
    simp [upTo]
    exact ⟨x.2, this, rfl⟩
  rw [this]
  simp

end Go.Proofs.YtbckiembnakmhaaDoor
end

/-
  ArchiveFronts, plainly: the first entries of a right archive, and one of its paths once more. Plain theorems; no condition.
-/

section
set_option linter.unusedSimpArgs false
set_option linter.unusedVariables false
set_option maxRecDepth 100000
namespace Go.Proofs.YtbckiembnakmhaaDoor
open Go.RowKit

theorem chk_spec : ∀ (es ahead : List En), ∃ k, k ≤ es.length ∧ (chkFrom ahead es).1 = ahead.length + k ∧ (∀ (j : Nat) x, j < k → es[j]? = some x → refE x (ahead ++ es.take j) false = 0) ∧ (((chkFrom ahead es).2 = 0 ∧ k = es.length) ∨ ((chkFrom ahead es).2 ≠ 0 ∧ k < es.length)) := by
  intro es
  induction es with
  | nil => intro ahead; exact ⟨0, Nat.le_refl _, rfl, fun j x h => absurd h (by omega), .inl ⟨rfl, rfl⟩⟩
  | cons e es ih =>
    intro ahead
    unfold chkFrom
    by_cases h : refE e ahead false = 0
    · rw [if_pos h]
      obtain ⟨k, h1, h2, h3, h4⟩ := ih (ahead ++ [e])
      refine ⟨k + 1, by simp; exact h1, by rw [h2, List.length_append]; simp; omega, fun j x hj hx => ?_, ?_⟩
      · cases j with
        | zero =>
          simp only [List.getElem?_cons_zero, Option.some.injEq] at hx
          subst hx
          simpa using h
        | succ j =>
          have := h3 j x (by omega) (by simpa using hx)
          rw [List.append_assoc] at this
          rw [List.take_succ_cons]
          exact this
      · rcases h4 with ⟨h5, h6⟩ | ⟨h5, h6⟩
        · exact .inl ⟨h5, by simp [h6]⟩
        · exact .inr ⟨h5, by simp; omega⟩
    · rw [if_neg h]
      exact ⟨0, Nat.zero_le _, rfl, fun j x hj => absurd hj (by omega), .inr ⟨h, by simp⟩⟩
theorem chkE_spec {ts : List En} (h40 : ts.length ≤ 40) : (chkE ts).1 ≤ ts.length ∧ (∀ (j : Nat) x, j < (chkE ts).1 → ts[j]? = some x → refE x (ts.take j) false = 0) ∧ ((chkE ts).2 = 0 → (chkE ts).1 = ts.length) := by
  have e : chkE ts = chkFrom [] ts := by unfold chkE; rw [if_neg (by omega)]
  obtain ⟨k, h1, h2, h3, h4⟩ := chk_spec ts []
  rw [List.length_nil, Nat.zero_add] at h2
  rw [e, h2]
  refine ⟨h1, fun j x hj hx => ?_, fun hz => ?_⟩
  · have := h3 j x hj hx
    rwa [List.nil_append] at this
  · rcases h4 with ⟨_, h6⟩ | ⟨h5, _⟩
    · exact h6
    · exact absurd hz h5
theorem chk_front {ts : List En} (h40 : ts.length ≤ 40) : chkE (ts.take (chkE ts).1) = ((chkE ts).1, 0) := by
  obtain ⟨h1, h2, _⟩ := chkE_spec h40
  have hl : (ts.take (chkE ts).1).length = (chkE ts).1 := by rw [List.length_take]; omega
  have e : chkE (ts.take (chkE ts).1) = chkFrom [] (ts.take (chkE ts).1) := by
    show (if 40 < (ts.take (chkE ts).1).length then ((40, 2) : Nat × Int) else chkFrom [] (ts.take (chkE ts).1)) = _
    rw [if_neg (by rw [hl]; omega)]
  rw [e, chk_all _ [] (fun j x hx => ?_), hl]
  · simp
  · rw [List.nil_append]
    rw [List.getElem?_take] at hx
    split at hx
    · rename_i hj
      rw [List.take_take, show min j (chkE ts).1 = j by omega]
      exact h2 j x hj hx
    · cases hx
theorem at_mem : ∀ {es : List En} {e : En}, e ∈ es → (atE es e.path).isSome = true := by
  intro es
  induction es with
  | nil => intro e h; cases h
  | cons x xs ih =>
    intro e h
    unfold atE
    split
    · rfl
    · rename_i hne
      rcases List.mem_cons.1 h with rfl | h
      · exact absurd rfl hne
      · rw [Option.isSome_map]
        exact ih h
theorem chk_twice {ts : List En} (h40 : ts.length ≤ 40) {n : Nat} {e : En} (hn : n < (chkE ts).1) (he : ts[n]? = some e) (h39 : (chkE ts).1 ≤ 39) : chkE (ts.take (chkE ts).1 ++ [e]) = ((chkE ts).1, 8) := by
  obtain ⟨h1, h2, _⟩ := chkE_spec h40
  obtain ⟨k, hk⟩ : ∃ k, k = (chkE ts).1 := ⟨_, rfl⟩
  rw [← hk] at h1 h2 hn h39 ⊢
  have hl : (ts.take k).length = k := by rw [List.length_take]; omega
  have hz := ref_all (h2 n e hn he)
  have hr : refE e (ts.take k) false = 8 := by
    have hm : e ∈ ts.take k := by
      refine List.mem_of_getElem? (i := n) ?_
      rw [List.getElem?_take, if_pos hn]
      exact he
    refine ref_found (k := 6) (by omega) (fun j hj => ?_) (at_mem hm)
    have := hz j (by omega)
    match j, hj with
    | 0, _ | 1, _ | 2, _ | 3, _ | 4, _ | 5, _ => exact this
    | j + 6, h => omega
  have e2 : chkE (ts.take k ++ [e]) = chkFrom [] (ts.take k ++ [e]) := by unfold chkE; rw [if_neg (by rw [List.length_append, hl]; simp; omega)]
  have hat : (ts.take k ++ [e])[k]? = some e := by
    rw [List.getElem?_append_right (by omega), hl, Nat.sub_self]
    rfl
  have htk : (ts.take k ++ [e]).take k = ts.take k := by rw [List.take_left' hl]
  rw [e2, chk_stop _ [] k e hat (fun j x hj hx => ?_) (by rw [List.nil_append, htk, hr]; decide), List.nil_append, htk, hr]
  · simp
  · rw [List.nil_append]
    rw [List.getElem?_append_left (by omega), List.getElem?_take, if_pos hj] at hx
    rw [List.take_append_of_le_length (by omega), List.take_take, show min j k = j by omega]
    exact h2 j x hj hx
theorem toEs_length (es : List En) : (toEs es).length ≤ 41 := by unfold toEs; rw [List.length_map, List.length_take]; omega
/-- The cells of a row of entries. -/
theorem EIn.rows {w : World} {A : Option Addr} {n c : Nat} {xs : List Ev} {es : List En} (h : EIn w A n c xs es) (h0 : 0 < n) : ∃ g off, A = some ⟨g, off, Option.none⟩ ∧ ∀ (j : Nat) u, (rowE xs)[j]? = some u → w.cell? ⟨g, off + j, Option.none⟩ = some u := by
  obtain ⟨g, o, hA, _, hc⟩ := h.cells h0
  refine ⟨g, o, hA, fun j u hu => ?_⟩
  have hj : j < xs.length * 4 := by
    have := (List.getElem?_eq_some_iff.1 hu).1
    rw [rowE_length] at this
    exact this
  have hx := List.getElem?_eq_getElem (l := xs) (i := j / 4) (by omega)
  obtain ⟨x, hxe⟩ : ∃ x, x = xs[j / 4]'(by omega) := ⟨_, rfl⟩
  rw [← hxe] at hx
  have hv := List.getElem?_eq_getElem (l := evC x) (i := j % 4) (by show j % 4 < 4; omega)
  have h1 := rowE_get xs (j / 4) x hx (j % 4) _ hv
  rw [show j / 4 * 4 + j % 4 = j by omega, hu] at h1
  cases h1
  have := hc (j / 4) x hx (j % 4) _ hv
  rw [show o + j / 4 * 4 + j % 4 = o + j by omega] at this
  exact this
theorem rowE_one (xs : List Ev) : ∀ u ∈ rowE xs, u.oneCell' = true := by
  intro u hu
  unfold rowE at hu
  obtain ⟨x, _, hx⟩ := List.mem_flatMap.1 hu
  exact evC_one x u hx
/-- Entries in a row of the call's own. -/
theorem ein_row {N T n : Nat} {w : World} {v : Value} {xs : List Ev} {es : List En} (h : w.ownsRow N T 4 v n (rowE xs)) (hl : xs.length = n) (hl2 : es.length = n) (hok : ∀ (i : Nat) x e, xs[i]? = some x → es[i]? = some e → EvOk w x e) :
    ∃ A c, v = .slice A n c ∧ EIn w A n c xs es := by
  subst hl
  rcases h.2 with ⟨rfl, h0⟩ | ⟨g, cap, cur, rfl, hg, hb, h1, h2, h3, h4⟩
  · exact ⟨none, 0, by rw [h0], ⟨rfl, hl2, by omega, by omega, fun _ => rfl, fun hp => absurd hp (by omega), hok⟩⟩
  · refine ⟨_, _, rfl, ⟨rfl, hl2, by omega, by unfold maxLen at h2; omega, (fun ha => by cases ha), fun hp => ⟨g, 0, rfl, (Array.getElem?_eq_some_iff.1 hb).1, fun i x hx j u hu => ?_⟩, hok⟩⟩
    have hk : Blk w g T cur.toList := by simpa [Blk] using hb
    rw [hk.cell, Nat.zero_add]
    have := rowE_get xs i x hx j u hu
    rw [← h4, List.getElem?_take] at this
    split at this
    · exact this
    · cases this
end Go.Proofs.YtbckiembnakmhaaDoor
end

/-
  An entry that shares no memory with the one it is the same as; the first entry of a path. Condition: the entries lie in memory.
-/

section
set_option linter.unusedSimpArgs false
set_option linter.unusedVariables false
set_option maxRecDepth 100000
namespace Go.Proofs.YtbckiembnakmhaaDoor
open Go.RowKit

theorem four_ev {w : World} {g t : Nat} {x : Ev} (h : Blk w g t (evC x)) : w.cell? ⟨g, 0, none⟩ = some (.slice x.PA x.pn x.pc) ∧ w.cell? ⟨g, 1, none⟩ = some (.int .i64 x.k) ∧ w.cell? ⟨g, 2, none⟩ = some (.int .i64 x.m) ∧ w.cell? ⟨g, 3, none⟩ = some (.slice x.DA x.dn x.dc) := ⟨h.cell 0, h.cell 1, h.cell 2, h.cell 3⟩
set_option maxHeartbeats 2000000 in
theorem own12_any (w : World) (x : Ev) (e : En) (h : EvOk w x e) :
    Calls Tryd.prog 22 #[evV x] w fun en w' => ∃ y, en = .returned (evV y) ∧ OwnE w.heap.size w' y e ∧ Below w.heap.size w w' := by
  have hb0 := (pnew w (.cells (evC x).toArray 30)).trans ((pnew (w.alloc (.cells (evC x).toArray 30)) (.cells #[.slice none 0 0, .int .i64 0, .int .i64 0, .slice none 0 0] 30)).mono (pnew w _).size)
  have hk := (Blk.new w 30 (evC x)).alloc (.cells #[.slice none 0 0, .int .i64 0, .int .i64 0, .slice none 0 0] 30)
  have hz := Blk.new (w.alloc (.cells (evC x).toArray 30)) 30 [.slice none 0 0, .int .i64 0, .int .i64 0, .slice none 0 0]
  rw [World.size_alloc] at hz
  obtain ⟨PA, pn, pc, k, m, DA, dn, dc⟩ := x
  obtain ⟨w1, hw1⟩ : ∃ w1, w1 = (w.alloc (.cells #[.slice PA pn pc, .int .i64 k, .int .i64 m, .slice DA dn dc] 30)).alloc (.cells #[.slice none 0 0, .int .i64 0, .int .i64 0, .slice none 0 0] 30) := ⟨_, rfl⟩
  have H := Lib.hid h
  have H1 : Hid (Blk w1 w.heap.size 30 (evC ⟨PA, pn, pc, k, m, DA, dn, dc⟩) ∧ Blk w1 (w.heap.size + 1) 30 [.slice none 0 0, .int .i64 0, .int .i64 0, .slice none 0 0] ∧ Below w.heap.size w w1) := Lib.hid (by rw [hw1]; exact ⟨hk, hz, hb0⟩)
  clear h hb0 hk hz
  obtain ⟨y0, y1, y2, y3⟩ := four_ev H1.out.1
  go_enter Tryd.func22, Tryd.ntmps22
  go_upto_region 1 with fail
  rw [← hw1]
  clear hw1
  have HP := Lib.hid (H.out.path.below H1.out.2.2)
  have hpn : pn ≤ 1000000 := by have := H.out.small.names; rw [H.out.path.len] at this; exact this
  have hdn : dn ≤ 1000000 := by have := H.out.small.data; rw [H.out.data.len] at this; exact this
  go_wp2_with (first
    | (refine wpList_app (v := .slice none 0 0) (base := w.heap.size) (n := 0) rfl rfl Tryd.underlying23 str_info rfl (by decide) (strV e.path) rfl (World.ownsRow_nil _ _ _ _) rfl (by rw [strV_length, HP.out.len, Nat.mul_one]) (fun h0 => sin_rows HP.out h0) (strV_one _) (by omega) (by decide) H1.out.2.2.size ?_; intro v2 w2 k1 k2 k3; rw [Nat.zero_add, List.nil_append] at k1; obtain ⟨R2, c2, rfl⟩ := own_slice k1; have b2 : Below w1.heap.size w1 w2 := k2.below (Nat.le_refl _) (by simp [Value.ownBlock]); have hk2 := H1.out.1.below b2 H1.out.1.lt; have x0 := hk2.cell 0; have x3 := hk2.cell 3; have f0 := hk2.frozen 0; have f3 := hk2.frozen 3; have hbb : Below w.heap.size w (w2.setCell ⟨w.heap.size, 0, none⟩ (.slice R2 pn c2)) := (H1.out.2.2.trans (b2.mono H1.out.2.2.size)).setCell (p := ⟨w.heap.size, 0, none⟩) (Nat.le_refl _) _; have H2 := Lib.hid (And.intro (ownsRow_only k1 ((Only.refl [w.heap.size] w2).setCell (p := ⟨w.heap.size, 0, none⟩) (.inl (by simp)) (.slice R2 pn c2)) (fun q hq hm => own_blk_ne k1 hk2 (by decide) (by simp at hm; rw [hq, hm]))) (And.intro (hk2.set_ 0 (.slice R2 pn c2)) (And.intro hbb (And.intro ((H1.out.2.1.below b2 H1.out.2.1.lt).far (p := ⟨w.heap.size, 0, none⟩) (by simp) (.slice R2 pn c2)) (H.out.data.below hbb))))); clear k1 k2 k3 b2 hk2 hbb y0 y1 y2 y3; simp only [evC, List.getElem?_cons_zero, List.getElem?_cons_succ] at x0 x3)
    | (refine wpList_app (v := .slice none 0 0) (base := w.heap.size) (n := 0) rfl rfl Tryd.underlying28 byt_info rfl (by decide) (Vb e.data) rfl (World.ownsRow_nil _ _ _ _) rfl (by rw [Vb_length, H2.out.2.2.2.2.len, Nat.mul_one]) (fun h0 => din_rows H2.out.2.2.2.2 h0) (Vb_oneCell _) (by omega) (by decide) H2.out.2.2.1.size ?_; intro v3 w3 k1 k2 k3; rw [Nat.zero_add, List.nil_append] at k1; obtain ⟨R3, c3, rfl⟩ := own_slice k1; have b3 := k2.below (B := (w2.setCell ⟨w.heap.size, 0, none⟩ (.slice R2 pn c2)).heap.size) (Nat.le_refl _) (by simp [Value.ownBlock]); have hk3 := H2.out.2.1.below b3 H2.out.2.1.lt; have hz3 := H2.out.2.2.2.1.below b3 H2.out.2.2.2.1.lt; have H3 := Lib.hid (And.intro (ownsRow_only (S := []) H2.out.1 (Only.of_below b3) (by simp)) (And.intro k1 (And.intro hk3 (And.intro hz3 (H2.out.2.2.1.trans (b3.mono H2.out.2.2.1.size)))))); clear x0 x3 f0 f3; have x0 := hk3.cell 0; have x1 := hk3.cell 1; have x2 := hk3.cell 2; have x3 := hk3.cell 3; have f3 := hk3.frozen 3; clear k1 k2 k3 b3 hk3 hz3; simp only [evC, List.set_cons_zero, List.getElem?_cons_zero, List.getElem?_cons_succ] at x0 x1 x2 x3)
    | (refine wpList_store_blk rfl 30 (.tmp 2) (.tmp 11) rfl (w.heap.size + 1) 0 (evC ⟨R2, pn, c2, k, m, R3, dn, c3⟩) rfl rfl (H3.out.2.2.2.1.far (p := ⟨w.heap.size, 3, none⟩) (by simp) (.slice R3 dn c3)) (by simp [evC]) infoEv (evC_one _) ?_; intro w4 hA hO; rw [over_whole (by simp [evC])] at hA))
  obtain ⟨d0, d1, d2, d3⟩ := four_ev hA
  have o1 : Only [w.heap.size, w.heap.size + 1] w3 w4 := ((Only.refl [w.heap.size, w.heap.size + 1] w3).setCell (p := ⟨w.heap.size, 3, none⟩) (.inl (by simp)) (.slice R3 dn c3)).trans (hO.mono (fun q hq _ => by simp at hq; simp [hq]))
  have hr2 := ownsRow_only H3.out.1 o1 (fun q hq hm => by
    simp at hm
    rcases hm with rfl | rfl
    · exact own_blk_ne H3.out.1 H3.out.2.2.1 (by decide) hq
    · exact own_blk_ne H3.out.1 H3.out.2.2.2.1 (by decide) hq)
  have hr3 := ownsRow_only H3.out.2.1 o1 (fun q hq hm => by
    simp at hm
    rcases hm with rfl | rfl
    · exact own_blk_ne H3.out.2.1 H3.out.2.2.1 (by decide) hq
    · exact own_blk_ne H3.out.2.1 H3.out.2.2.2.1 (by decide) hq)
  have hb4 : Below w.heap.size w w4 := H3.out.2.2.2.2.trans (o1.below H3.out.2.2.2.2.size (fun q hq => by simp at hq; omega))
  refine bodyPost_ret (v := evV ⟨R2, pn, c2, k, m, R3, dn, c3⟩) (by simp [results, Tryd.results22, go_sem, d0, d1, d2, d3]) rfl ?_
  exact ⟨⟨R2, pn, c2, k, m, R3, dn, c3⟩, rfl, ⟨by rw [H.out.path.len]; exact hr2, H.out.kind, H.out.mode, by rw [H.out.data.len]; exact hr3, H.out.small⟩, hb4⟩
end Go.Proofs.YtbckiembnakmhaaDoor
end

/-
  The first entry of a path, as the program and as the document find it; how many files there are. Condition: the entries lie in memory.
-/

section
set_option linter.unusedSimpArgs false
set_option linter.unusedVariables false
set_option maxRecDepth 100000
namespace Go.Proofs.YtbckiembnakmhaaDoor
open Go.RowKit

theorem zero_ev_build (W : World) : (Instr.build 30 #[]).run Tryd.prog W = .ok (evV ⟨none, 0, 0, 0, 0, none, 0, 0⟩) W := by kernel_rfl
/-- What Find answers. -/
def FindOut (N : Nat) (es : List En) (q : Pa) (y : Ev) (z : Int) (w' : World) : Prop := match atE es q with
  | none => z = 7
  | some i => z = 0 ∧ ∃ e, es[i]? = some e ∧ OwnE N w' y e
set_option maxHeartbeats 2000000 in
theorem find12_any (w : World) (A : Option Addr) (n c : Nat) (xs : List Ev) (es : List En) (h : EIn w A n c xs es) (B : Option Addr) (m d : Nat) (q : Pa) (hq : SIn w B m d q) :
    Calls Tryd.prog 8 #[.slice A n c, .slice B m d] w fun e w' => ∃ y z, e = .returned (.tuple #[evV y, .int .i64 z]) ∧ FindOut w.heap.size es q y z w' ∧ Below w.heap.size w w' := by
  have hb := pnew w (.cells #[.slice none 0 0, .int .i64 0, .int .i64 0, .slice none 0 0] 30)
  have hbig : n ≤ 9223372036854775807 := by have := h.cap; have := h.big; omega
  have HZ := Lib.hid (Blk.new w 30 [.slice none 0 0, .int .i64 0, .int .i64 0, .slice none 0 0])
  have HA := Lib.hid (at_any12 _ A n c xs es (h.below hb) B m d q (hq.below hb))
  have HB := Lib.hid (And.intro hb (h.below hb))
  clear h hq hb
  go_enter Tryd.func8, Tryd.ntmps8
  go_wp2_with fail
  refine HA.out.mono ?_
  rintro e w1 ⟨rfl, h1⟩
  have H1 := Lib.hid (And.intro (HB.out.2.below h1) (And.intro (HB.out.1.trans (h1.mono HB.out.1.size)) (HZ.out.below h1 HZ.out.lt)))
  clear h1
  cases ha : atE es q with
  | none =>
    have HF : Hid (∀ N y w', FindOut N es q y 7 w') := Lib.hid (fun N y w' => by unfold FindOut; rw [ha])
    have hz := zero_ev_build
    clear ha
    unfold plN
    go_wp2_with (refine wpList_store_blk rfl 30 (.tmp 4) (.tmp 12) rfl w.heap.size 0 (evC ⟨none, 0, 0, 0, 0, none, 0, 0⟩) rfl rfl H1.out.2.2 (by simp [evC]) infoEv (evC_one _) ?_; intro w4 hA hO; rw [over_whole (by simp [evC])] at hA; have H4 := Lib.hid (And.intro hA (H1.out.2.1.trans (hO.below H1.out.2.1.size (by simp)))); clear hA hO)
    obtain ⟨d0, d1, d2, d3⟩ := four_ev H4.out.1
    refine bodyPost_ret (v := .tuple #[evV ⟨none, 0, 0, 0, 0, none, 0, 0⟩, .int .i64 7]) (by simp [results, Tryd.results8, go_sem, d0, d1, d2, d3]) rfl ?_
    exact ⟨_, 7, rfl, HF.out _ _ _, H4.out.2⟩
  | some i =>
    obtain ⟨e, he, _⟩ := ate_lt es q i ha
    have HF : Hid (∀ N y w', OwnE N w' y e → FindOut N es q y 0 w') := Lib.hid (fun N y w' ho => by unfold FindOut; rw [ha]; exact ⟨rfl, e, he, ho⟩)
    have hi : i < n := by
      have := (List.getElem?_eq_some_iff.1 he).1
      have := H1.out.1.elen
      omega
    obtain ⟨g, o, y, e', rfl, hg, hy, he', hok, hcl⟩ := H1.out.1.row hi
    rw [he] at he'
    cases he'
    have HC := Lib.hid (And.intro hcl (own12_any w1 y e hok))
    have b1 : (i : Int) < (n : Int) := by omega
    have b0 : (0 : Int) ≤ (i : Int) := by omega
    have b2 : ((i : Int) < 0) = False := eq_false (by omega)
    clear ha he hy hok hcl
    unfold plN
    go_wp2_with (first
      | (refine wpList_load_mid rfl 30 (.tmp 15) rfl g (o + i * 4) rfl _ _ HC.out.1 Tryd.underlying30 rfl infoEv ?_)
      | (go_at_call 22; go_must (refine HC.out.2.mono ?_); rintro en w2 ⟨z, rfl, hz, hb2⟩; have H2 := Lib.hid (And.intro hz (And.intro (H1.out.2.1.trans (hb2.mono H1.out.2.1.size)) (H1.out.2.2.below hb2 H1.out.2.2.lt))); clear hz hb2)
      | (refine wpList_store_blk rfl 30 (.tmp 4) (.tmp 17) rfl w.heap.size 0 (evC z) rfl rfl H2.out.2.2 (by simp [evC]) infoEv (evC_one _) ?_; intro w4 hA hO; rw [over_whole (by simp [evC])] at hA; have H4 := Lib.hid (And.intro hA (And.intro (H2.out.2.1.trans (hO.below H2.out.2.1.size (by simp))) ((H2.out.1.base H1.out.2.1.size).only hO (fun k hk hm => by simp at hm; have := (H2.out.1.path.lt k hk).1; have := H1.out.2.2.lt; omega) (fun k hk hm => by simp at hm; have := (H2.out.1.data.lt k hk).1; have := H1.out.2.2.lt; omega)))); clear hA hO))
    obtain ⟨d0, d1, d2, d3⟩ := four_ev H4.out.1
    refine bodyPost_ret (v := .tuple #[evV z, .int .i64 0]) (by simp [results, Tryd.results8, go_sem, d0, d1, d2, d3]) rfl ?_
    exact ⟨z, 0, rfl, HF.out _ _ _ H4.out.2.2, H4.out.2.1⟩
set_option maxHeartbeats 1000000 in
/-- The document's Same, of paths. -/
theorem rsame05_any (w : World) (A B : Option Addr) (n c m d : Nat) (p q : Pa) (h : SIn w A n c p) (k : SIn w B m d q) :
    Calls Tryd.prog 23 #[.slice A n c, .slice B m d] w fun e w' => e = .returned (.bool (decide (p = q))) ∧ Below w.heap.size w w' := by
  have hbig : n ≤ 9223372036854775807 := by have := h.cap; have := h.big; omega
  have H := Lib.hid (And.intro h k)
  have HL := Lib.hid (And.intro h.len k.len)
  clear h k
  by_cases hnm : n = m
  · subst hnm
    go_enter Tryd.func23, Tryd.ntmps23
    go_wp2_with fail
    go_loopw [5] (fun iv wr => ∃ i : Nat, i ≤ n ∧ iv = .int .i64 i ∧ Hid (∀ (j : Nat) t u, j < i → p[j]? = some t → q[j]? = some u → t = u) ∧ Hid (Below w.heap.size w wr)) (fun iv _ => n - (intOf iv).toNat)
    case atStart => exact ⟨0, by omega, rfl, Lib.hid (fun j t u h => absurd h (by omega)), Lib.hid (Below.refl _ _)⟩
    case round =>
      obtain ⟨i, hi, rfl, HK, HW⟩ := hrel
      by_cases hlt : i < n
      · obtain ⟨t, ht⟩ := H.out.1.get hlt
        obtain ⟨u, hu⟩ := H.out.2.get hlt
        obtain ⟨g, o, rfl, hg, hcl⟩ := (H.out.1.below HW.out).cells (by omega)
        obtain ⟨g2, o2, rfl, hg2, hcl2⟩ := (H.out.2.below HW.out).cells (by omega)
        have hc := hcl i t ht
        have hc2 := hcl2 i u hu
        have HT := Lib.hid (And.intro ht hu)
        have b0 : (0 : Int) ≤ (i : Int) := by omega
        have b1 : (i : Int) < (n : Int) := by omega
        clear hcl ht hcl2 hu
        by_cases htu : t = u
        · subst htu
          go_wp2_with fail
          go_region_held3 (fun w' => w'.cell? ⟨g, o + i, none⟩ = some (.string t) ∧ w'.cell? ⟨g2, o2 + i, none⟩ = some (.string t)) (first | exact ⟨hc, hc2⟩) (first | go_in)
          all_goals (go_wp2_with fail)
          all_goals exact ⟨⟨i + 1, by omega, by go_num, Lib.hid (fun j x y hj hx hy => by
            by_cases h : j < i
            · exact HK.out j x y h hx hy
            · obtain rfl : j = i := by omega
              have h1 := HT.out.1
              have h2 := HT.out.2
              rw [hx] at h1
              rw [hy] at h2
              cases h1
              cases h2
              rfl), Lib.hid (HW.out.trans ((pdrew _).mono HW.out.size))⟩, by simp [intOf]; omega⟩
        · have hd := str_ne htu
          have HQ : Hid (decide (p = q) = false) := Lib.hid (decide_eq_false fun e => htu (by
            have h1 := HT.out.1
            have h2 := HT.out.2
            rw [e] at h1
            rw [h1] at h2
            cases h2
            rfl))
          go_wp2_with fail
          go_region_held3 (fun w' => w'.cell? ⟨g, o + i, none⟩ = some (.string t) ∧ w'.cell? ⟨g2, o2 + i, none⟩ = some (.string u)) (first | exact ⟨hc, hc2⟩) (first | go_in)
          all_goals (go_wp2_with fail)
          all_goals ((try rw [Exit.noGoto_ret]); go_ret; exact ⟨pret_bool (by rw [HQ.out]), HW.out.trans ((pdrew _).mono HW.out.size)⟩)
      · obtain rfl : i = n := by omega
        have HQ : Hid (decide (p = q) = true) := Lib.hid (decide_eq_true (pa_ext (by rw [HL.out.1, HL.out.2]) fun j x y hx hy => HK.out j x y (by have := (List.getElem?_eq_some_iff.1 hx).1; have := HL.out.1; omega) hx hy))
        go_wp2_with fail
        go_ret
        exact ⟨pret_bool (by rw [HQ.out]), HW.out⟩
  · have HQ : Hid (decide (p = q) = false) := Lib.hid (decide_eq_false (pa_ne_len (by rw [HL.out.1, HL.out.2]; exact hnm)))
    have hd : ¬ (n : Int) = m := by omega
    go_enter Tryd.func23, Tryd.ntmps23
    go_wp2_with fail
    go_ret
    exact ⟨pret_bool (by rw [HQ.out]), Below.refl _ _⟩
set_option maxHeartbeats 1000000 in
/-- The document's Find. -/
theorem rfind12_any (w : World) (A : Option Addr) (n c : Nat) (xs : List Ev) (es : List En) (h : EIn w A n c xs es) (B : Option Addr) (m d : Nat) (q : Pa) (hq : SIn w B m d q) :
    Calls Tryd.prog 9 #[.slice A n c, .slice B m d] w fun e w' => e = .returned (.int .i64 (plN (atE es q))) ∧ Below w.heap.size w w' := by
  have hbig : n ≤ 9223372036854775807 := by have := h.cap; have := h.big; omega
  have H := Lib.hid (And.intro h hq)
  clear h hq
  go_enter Tryd.func9, Tryd.ntmps9
  go_wp2_with fail
  go_loopw [5] (fun iv wr => ∃ i : Nat, i ≤ n ∧ iv = .int .i64 i ∧ Hid (∀ (j : Nat) (y : En), j < i → es[j]? = some y → y.path ≠ q) ∧ Hid (Below w.heap.size w wr)) (fun iv _ => n - (intOf iv).toNat)
  case atStart => exact ⟨0, by omega, rfl, Lib.hid (fun j y h => absurd h (by omega)), Lib.hid (Below.refl _ _)⟩
  case round =>
    obtain ⟨i, hi, rfl, HK, HW⟩ := hrel
    by_cases hlt : i < n
    · obtain ⟨g, o, x, e, rfl, hg, hx, he, hok, hcl⟩ := (H.out.1.below HW.out).row hlt
      have c0 : wr.cell? ⟨g, o + i * 4, none⟩ = some (.slice x.PA x.pn x.pc) := hcl 0 _ rfl
      have HE := Lib.hid he
      have HI := Lib.hid (rsame05_any wr x.PA B x.pn x.pc m d e.path q hok.path (H.out.2.below HW.out))
      clear hx he hok hcl
      go_wp2_with fail
      refine HI.out.mono ?_
      rintro en w2 ⟨rfl, h2⟩
      have H2 := Lib.hid (HW.out.trans (h2.mono HW.out.size))
      clear h2
      by_cases hp : e.path = q
      · have hd : decide (e.path = q) = true := decide_eq_true hp
        have HP := Lib.hid hp
        rw [hd]
        clear hd hp
        go_wp2_with fail
        go_ret
        exact ⟨pret_num (by rw [ate_some es q i e HE.out HP.out HK.out]; rfl), H2.out⟩
      · have hd : decide (e.path = q) = false := decide_eq_false hp
        have HP := Lib.hid hp
        rw [hd]
        clear hd hp
        go_wp2_with fail
        go_roundw
        case rel => exact ⟨i + 1, by omega, by go_num, Lib.hid (fun j y hj hy => by
          by_cases hji : j < i
          · exact HK.out j y hji hy
          · obtain rfl : j = i := by omega
            rw [HE.out] at hy
            cases hy
            exact HP.out), H2⟩
        case measure => simp [intOf]; omega
    · obtain rfl : i = n := by omega
      have HQ : Hid (atE es q = none) := Lib.hid (ate_none es q fun j y hy => HK.out j y (by have := (List.getElem?_eq_some_iff.1 hy).1; have := H.out.1.elen; omega) hy)
      go_wp2_with fail
      go_ret
      exact ⟨pret_num (by rw [HQ.out]; rfl), HW.out⟩
end Go.Proofs.YtbckiembnakmhaaDoor
end

/-
  Whether two lists of entries are the same, as the program tells it. Condition: the entries lie in memory.
-/

section
set_option linter.unusedSimpArgs false
set_option linter.unusedVariables false
set_option maxRecDepth 100000
namespace Go.Proofs.YtbckiembnakmhaaDoor
open Go.RowKit

theorem En.ext_ {a b : En} (h1 : a.path = b.path) (h2 : a.kind = b.kind) (h3 : a.mode = b.mode) (h4 : a.data = b.data) : a = b := by
  cases a; cases b; simp_all
def sameE (a b : En) : Bool := decide (a.path = b.path) && decide (a.kind = b.kind) && decide (a.mode = b.mode) && decide (a.data = b.data)
theorem sameE_iff (a b : En) : sameE a b = true ↔ a = b := by
  unfold sameE
  simp only [Bool.and_eq_true, decide_eq_true_eq]
  constructor
  · rintro ⟨⟨⟨h1, h2⟩, h3⟩, h4⟩
    exact En.ext_ h1 h2 h3 h4
  · rintro rfl
    exact ⟨⟨⟨rfl, rfl⟩, rfl⟩, rfl⟩
theorem bytes_nb {x y : List B8} : (Lib.bytesOf (x.map nb) == Lib.bytesOf (y.map nb)) = decide (x = y) := by
  have hi : ∀ a b : B8, UInt8.ofNat (nb a).toNat = UInt8.ofNat (nb b).toNat → a = b := by
    intro a b h
    have h1 : (UInt8.ofNat (nb a).toNat).toNat = (UInt8.ofNat (nb b).toNat).toNat := by rw [h]
    have ha := nb_bound a
    have hb := nb_bound b
    simp only [UInt8.toNat_ofNat'] at h1
    exact nb_inj (by omega)
  by_cases h : x = y
  · subst h; simp
  · rw [decide_eq_false h, beq_eq_false_iff_ne]
    intro e
    apply h
    unfold Lib.bytesOf at e
    rw [List.map_map, List.map_map] at e
    exact (List.map_inj_right (fun a b hab => hi a b hab)).1 e
/-- bytes.Equal, of bytes in memory. -/
theorem bequal_din (w : World) (A B : Option Addr) (n c m d : Nat) (xs ys : List B8) (h : DIn w A n c xs) (k : DIn w B m d ys) :
    Calls Tryd.prog 39 #[.slice A n c, .slice B m d] w fun e w' => e = .returned (.bool (decide (xs = ys))) ∧ w' = w := by
  refine (Tryd.bytes_Equal_all A B n c m d (xs.map nb) (ys.map nb) w (by rw [List.length_map, h.len]) (by rw [List.length_map, k.len]) h.bytesIn k.bytesIn).mono ?_
  rintro e w' ⟨rfl, rfl⟩
  exact ⟨by rw [bytes_nb], rfl⟩
set_option maxHeartbeats 2000000 in
theorem same12_any (w : World) (x y : Ev) (a b : En) (h : EvOk w x a) (k : EvOk w y b) :
    Calls Tryd.prog 27 #[evV x, evV y] w fun e w' => e = .returned (.bool (sameE a b)) ∧ Below w.heap.size w w' := by
  have hb := (pnew w (.cells (evC x).toArray 30)).trans ((pnew (w.alloc (.cells (evC x).toArray 30)) (.cells (evC y).toArray 30)).mono (pnew w _).size)
  have hx := (Blk.new w 30 (evC x)).alloc (.cells (evC y).toArray 30)
  have hy := Blk.new (w.alloc (.cells (evC x).toArray 30)) 30 (evC y)
  rw [World.size_alloc] at hy
  have HS := Lib.hid (psame_any _ x.PA y.PA x.pn x.pc y.pn y.pc a.path b.path (h.path.below hb) (k.path.below hb))
  have HB := Lib.hid (And.intro hx (And.intro hy (And.intro hb (And.intro (h.data.below hb) (k.data.below hb)))))
  have HK : Hid (sameE a b = (decide (a.path = b.path) && decide (x.k = y.k) && decide (x.m = y.m) && decide (a.data = b.data))) := Lib.hid (by unfold sameE; rw [h.kind, k.kind, h.mode, k.mode])
  clear h k hb hx hy
  obtain ⟨PA, pn, pc, k, m, DA, dn, dc⟩ := x
  obtain ⟨PB, qn, qc, k2, m2, DB, en, ec⟩ := y
  go_enter Tryd.func27, Tryd.ntmps27
  go_wp2_with fail
  refine HS.out.mono ?_
  rintro e w1 ⟨rfl, h1⟩
  obtain ⟨x0, x1, x2, x3⟩ := four_ev (HB.out.1.below h1 HB.out.1.lt)
  obtain ⟨y0, y1, y2, y3⟩ := four_ev (HB.out.2.1.below h1 HB.out.2.1.lt)
  have H1 := Lib.hid (And.intro (HB.out.2.2.1.trans (h1.mono HB.out.2.2.1.size)) (And.intro (HB.out.2.2.2.1.below h1) (HB.out.2.2.2.2.below h1)))
  clear h1
  simp only at x1 x2 x3 y1 y2 y3
  by_cases c0 : a.path = b.path
  · have HF : Hid (sameE a b = (decide (k = k2) && decide (m = m2) && decide (a.data = b.data))) := Lib.hid (by rw [HK.out, decide_eq_true c0]; rfl)
    rw [decide_eq_true c0]
    clear c0 HK
    by_cases c1 : k = k2
    · subst c1
      by_cases c2 : m = m2
      · subst c2
        have HG : Hid (sameE a b = decide (a.data = b.data)) := Lib.hid (by rw [HF.out]; simp)
        clear HF
        go_wp2_with (go_at_call 39; go_must (refine (bequal_din w1 DA DB dn dc en ec _ _ H1.out.2.1 H1.out.2.2).mono ?_); rintro e w2 ⟨rfl, rfl⟩)
        go_ret
        exact ⟨pret_bool (by rw [HG.out]), H1.out.1⟩
      · have HG : Hid (sameE a b = false) := Lib.hid (by rw [HF.out, decide_eq_false c2]; simp)
        have b2 : (m == m2) = false := by simpa using c2
        clear HF
        go_wp2_with fail
        go_ret
        exact ⟨pret_bool (by rw [HG.out]), H1.out.1⟩
    · have HG : Hid (sameE a b = false) := Lib.hid (by rw [HF.out, decide_eq_false c1]; simp)
      have b1 : (k == k2) = false := by simpa using c1
      clear HF
      go_wp2_with fail
      go_ret
      exact ⟨pret_bool (by rw [HG.out]), H1.out.1⟩
  · have HG : Hid (sameE a b = false) := Lib.hid (by rw [HK.out, decide_eq_false c0]; simp)
    rw [decide_eq_false c0]
    clear HK
    go_wp2_with fail
    go_ret
    exact ⟨pret_bool (by rw [HG.out]), H1.out.1⟩
theorem en_ext {p q : List En} (hl : p.length = q.length) (h : ∀ (j : Nat) t u, p[j]? = some t → q[j]? = some u → t = u) : p = q := by
  apply List.ext_getElem?
  intro j
  rcases Nat.lt_or_ge j p.length with hj | hj
  · have e1 := List.getElem?_eq_getElem hj
    have e2 := List.getElem?_eq_getElem (l := q) (i := j) (by omega)
    rw [e1, e2, h j _ _ e1 e2]
  · rw [List.getElem?_eq_none hj, List.getElem?_eq_none (by omega)]
end Go.Proofs.YtbckiembnakmhaaDoor
end

/-
  The document's entries of the program's. Condition: the entries lie in memory.
-/

section
set_option linter.unusedSimpArgs false
set_option linter.unusedVariables false
set_option maxRecDepth 100000
namespace Go.Proofs.YtbckiembnakmhaaDoor
open Go.RowKit

set_option maxHeartbeats 4000000 in
theorem of12_any (w : World) (A : Option Addr) (n c : Nat) (xs : List Ev) (es : List En) (h : EIn w A n c xs es) (hn : n ≤ 100) :
    Calls Tryd.prog 11 #[.slice A n c] w fun e w' => ∃ B d, e = .returned (.slice B n d) ∧ EIn w' B n d xs es ∧ Below w.heap.size w w' := by
  have H := Lib.hid h
  have HL := Lib.hid (And.intro h.len h.elen)
  clear h
  go_enter Tryd.func11, Tryd.ntmps11
  go_wp2_with fail
  go_loopw [3, 4] (fun u3 iv wr => ∃ i : Nat, i ≤ n ∧ iv = .int .i64 i ∧ Hid (wr.ownsRow w.heap.size 39 4 u3 i (rowE (xs.take i))) ∧ Hid (Below w.heap.size w wr)) (fun _ iv _ => n - (intOf iv).toNat)
  case atStart => exact ⟨0, by omega, rfl, Lib.hid (World.ownsRow_nil _ _ _ _), Lib.hid (Below.refl _ _)⟩
  case round =>
    obtain ⟨i, hi, rfl, HO, HW⟩ := hrel
    by_cases hlt : i < n
    · obtain ⟨g, o, x, a, rfl, hg, hx, ha, hok, hcl⟩ := (H.out.below HW.out).row hlt
      have q0 : wr.cell? ⟨g, o + i * 4, none⟩ = some (.slice x.PA x.pn x.pc) := hcl 0 _ rfl
      have q1 : wr.cell? ⟨g, o + i * 4 + 1, none⟩ = some (.int .i64 x.k) := hcl 1 _ rfl
      have q2 : wr.cell? ⟨g, o + i * 4 + 2, none⟩ = some (.int .i64 x.m) := hcl 2 _ rfl
      have q3 : wr.cell? ⟨g, o + i * 4 + 3, none⟩ = some (.slice x.DA x.dn x.dc) := hcl 3 _ rfl
      have HX := Lib.hid hx
      have b0 : (0 : Int) ≤ (i : Int) := by omega
      have b1 : (i : Int) < (n : Int) := by omega
      clear hx ha hok hcl hg
      go_wp2_with fail
      refine wp_hideQ ?_
      intro QQ hQQ
      refine wp_region_quickT [some 11, some 12, some 13, some 14, some 15, some 16, some 17, some 18, some 19, some 20, some 21, some 22, some 23, some 24, some 25, some 26, some 27, some 28, some 29, some 30, some 31, some 32, some 33] [isV (u3), isV (.slice (some ⟨g, o, none⟩) n c), isV (.int .i64 (i : Int)), isV (.pointer (some ⟨g, o + i * 4, none⟩)), isV (.pointer (some ⟨g, o + i * 4, none⟩)), isV (.slice x.PA x.pn x.pc), isV (.slice (some ⟨g, o, none⟩) n c), isV (.int .i64 (i : Int)), isV (.pointer (some ⟨g, o + i * 4, none⟩)), isV (.pointer (some ⟨g, o + i * 4 + 1, none⟩)), isV (.int .i64 x.k), isV (.slice (some ⟨g, o, none⟩) n c), isV (.int .i64 (i : Int)), isV (.pointer (some ⟨g, o + i * 4, none⟩)), isV (.pointer (some ⟨g, o + i * 4 + 2, none⟩)), isV (.int .i64 x.m), isV (.slice (some ⟨g, o, none⟩) n c), isV (.int .i64 (i : Int)), isV (.pointer (some ⟨g, o + i * 4, none⟩)), isV (.pointer (some ⟨g, o + i * 4 + 3, none⟩)), isV (.slice x.DA x.dn x.dc), isV (evV (x : Ev)), rowOneE 39 wr.heap.size (evC x)] 23 25 (by kernel_rfl) rfl rfl rfl rfl (by kernel_rfl) (by kernel_rfl) (by simp [isV.st, rowOneE.st]) ?_ ?_
      · intro hq rz hz
        match rz, hz with
        | 0, _ =>
          refine StepL.val rfl [] (by decide +kernel) ?_
          intro v wx hR hd
          exact ⟨wanted_plain rfl _, _, _, x_move rfl (fill_off rfl rfl), hR, Below.refl _ _, rfl⟩
        | 1, _ =>
          refine StepL.val rfl [] (by decide +kernel) ?_
          intro v wx hR hd
          exact ⟨wanted_plain rfl _, _, _, x_move rfl (fill_off rfl rfl), hR, Below.refl _ _, rfl⟩
        | 2, _ =>
          refine StepL.val rfl [] (by decide +kernel) ?_
          intro v wx hR hd
          exact ⟨wanted_plain rfl _, _, _, x_move rfl (fill_off rfl rfl), hR, Below.refl _ _, rfl⟩
        | 3, _ =>
          refine StepL.val rfl [1, 2] (by decide +kernel) ?_
          intro v wx hR hd
          have h1 : v 1 = _ := hd 1 (by simp)
          have h2 : v 2 = _ := hd 2 (by simp)
          exact ⟨wanted_plain rfl _, _, _, x_index rfl (hq.at_ rfl h1) (hq.at_ rfl h2) (r_index (e := 30) (size := 4) (by kernel_rfl) (by kernel_rfl) (by omega) (by omega) (by first | omega | simp)), hR, Below.refl _ _, rfl⟩
        | 4, _ =>
          refine StepL.val rfl [3] (by decide +kernel) ?_
          intro v wx hR hd
          have h3 : v 3 = _ := hd 3 (by simp)
          exact ⟨wanted_plain rfl _, _, _, x_field rfl (hq.at_ rfl h3) (r_field (off := 0) (by kernel_rfl)), hR, Below.refl _ _, rfl⟩
        | 5, _ =>
          refine StepL.val rfl [4] (by decide +kernel) ?_
          intro v wx hR hd
          have h4 : v 4 = _ := hd 4 (by simp)
          exact ⟨wanted_plain rfl _, _, _, x_load rfl (hq.at_ rfl h4) (r_load (by kernel_rfl) (pcell_below q0 hR)), hR, Below.refl _ _, rfl⟩
        | 6, _ =>
          refine StepL.val rfl [] (by decide +kernel) ?_
          intro v wx hR hd
          exact ⟨wanted_plain rfl _, _, _, x_move rfl (fill_off rfl rfl), hR, Below.refl _ _, rfl⟩
        | 7, _ =>
          refine StepL.val rfl [] (by decide +kernel) ?_
          intro v wx hR hd
          exact ⟨wanted_plain rfl _, _, _, x_move rfl (fill_off rfl rfl), hR, Below.refl _ _, rfl⟩
        | 8, _ =>
          refine StepL.val rfl [6, 7] (by decide +kernel) ?_
          intro v wx hR hd
          have h6 : v 6 = _ := hd 6 (by simp)
          have h7 : v 7 = _ := hd 7 (by simp)
          exact ⟨wanted_plain rfl _, _, _, x_index rfl (hq.at_ rfl h6) (hq.at_ rfl h7) (r_index (e := 30) (size := 4) (by kernel_rfl) (by kernel_rfl) (by omega) (by omega) (by first | omega | simp)), hR, Below.refl _ _, rfl⟩
        | 9, _ =>
          refine StepL.val rfl [8] (by decide +kernel) ?_
          intro v wx hR hd
          have h8 : v 8 = _ := hd 8 (by simp)
          exact ⟨wanted_plain rfl _, _, _, x_field rfl (hq.at_ rfl h8) (r_field (off := 1) (by kernel_rfl)), hR, Below.refl _ _, rfl⟩
        | 10, _ =>
          refine StepL.val rfl [9] (by decide +kernel) ?_
          intro v wx hR hd
          have h9 : v 9 = _ := hd 9 (by simp)
          exact ⟨wanted_plain rfl _, _, _, x_load rfl (hq.at_ rfl h9) (r_load (by kernel_rfl) (pcell_below q1 hR)), hR, Below.refl _ _, rfl⟩
        | 11, _ =>
          refine StepL.val rfl [] (by decide +kernel) ?_
          intro v wx hR hd
          exact ⟨wanted_plain rfl _, _, _, x_move rfl (fill_off rfl rfl), hR, Below.refl _ _, rfl⟩
        | 12, _ =>
          refine StepL.val rfl [] (by decide +kernel) ?_
          intro v wx hR hd
          exact ⟨wanted_plain rfl _, _, _, x_move rfl (fill_off rfl rfl), hR, Below.refl _ _, rfl⟩
        | 13, _ =>
          refine StepL.val rfl [11, 12] (by decide +kernel) ?_
          intro v wx hR hd
          have h11 : v 11 = _ := hd 11 (by simp)
          have h12 : v 12 = _ := hd 12 (by simp)
          exact ⟨wanted_plain rfl _, _, _, x_index rfl (hq.at_ rfl h11) (hq.at_ rfl h12) (r_index (e := 30) (size := 4) (by kernel_rfl) (by kernel_rfl) (by omega) (by omega) (by first | omega | simp)), hR, Below.refl _ _, rfl⟩
        | 14, _ =>
          refine StepL.val rfl [13] (by decide +kernel) ?_
          intro v wx hR hd
          have h13 : v 13 = _ := hd 13 (by simp)
          exact ⟨wanted_plain rfl _, _, _, x_field rfl (hq.at_ rfl h13) (r_field (off := 2) (by kernel_rfl)), hR, Below.refl _ _, rfl⟩
        | 15, _ =>
          refine StepL.val rfl [14] (by decide +kernel) ?_
          intro v wx hR hd
          have h14 : v 14 = _ := hd 14 (by simp)
          exact ⟨wanted_plain rfl _, _, _, x_load rfl (hq.at_ rfl h14) (r_load (by kernel_rfl) (pcell_below q2 hR)), hR, Below.refl _ _, rfl⟩
        | 16, _ =>
          refine StepL.val rfl [] (by decide +kernel) ?_
          intro v wx hR hd
          exact ⟨wanted_plain rfl _, _, _, x_move rfl (fill_off rfl rfl), hR, Below.refl _ _, rfl⟩
        | 17, _ =>
          refine StepL.val rfl [] (by decide +kernel) ?_
          intro v wx hR hd
          exact ⟨wanted_plain rfl _, _, _, x_move rfl (fill_off rfl rfl), hR, Below.refl _ _, rfl⟩
        | 18, _ =>
          refine StepL.val rfl [16, 17] (by decide +kernel) ?_
          intro v wx hR hd
          have h16 : v 16 = _ := hd 16 (by simp)
          have h17 : v 17 = _ := hd 17 (by simp)
          exact ⟨wanted_plain rfl _, _, _, x_index rfl (hq.at_ rfl h16) (hq.at_ rfl h17) (r_index (e := 30) (size := 4) (by kernel_rfl) (by kernel_rfl) (by omega) (by omega) (by first | omega | simp)), hR, Below.refl _ _, rfl⟩
        | 19, _ =>
          refine StepL.val rfl [18] (by decide +kernel) ?_
          intro v wx hR hd
          have h18 : v 18 = _ := hd 18 (by simp)
          exact ⟨wanted_plain rfl _, _, _, x_field rfl (hq.at_ rfl h18) (r_field (off := 3) (by kernel_rfl)), hR, Below.refl _ _, rfl⟩
        | 20, _ =>
          refine StepL.val rfl [19] (by decide +kernel) ?_
          intro v wx hR hd
          have h19 : v 19 = _ := hd 19 (by simp)
          exact ⟨wanted_plain rfl _, _, _, x_load rfl (hq.at_ rfl h19) (r_load (by kernel_rfl) (pcell_below q3 hR)), hR, Below.refl _ _, rfl⟩
        | 21, _ =>
          refine StepL.val rfl [5, 10, 15, 20] (by decide +kernel) ?_
          intro v wx hR hd
          have h5 : v 5 = _ := hd 5 (by simp)
          have h10 : v 10 = _ := hd 10 (by simp)
          have h15 : v 15 = _ := hd 15 (by simp)
          have h20 : v 20 = _ := hd 20 (by simp)
          exact ⟨wanted_plain rfl _, xe_ex (x_build rfl (pairs_4 (hq.at_ rfl h5) (hq.at_ rfl h10) (hq.at_ rfl h15) (hq.at_ rfl h20)) (build_rev wx _ _ _ _ _ _ _ _)) ⟨hR, Below.refl _ _, rfl⟩⟩
        | 22, _ =>
          refine StepL.val rfl [21] (by decide +kernel) ?_
          intro v wx hR hd
          have h21 : v 21 = _ := hd 21 (by simp)
          have hb := pnew wx (.cells (evC x).toArray 39)
          exact ⟨wanted_plain rfl _, xe_ex (x_slice rfl (pairs_1 (hq.at_ rfl h21)) (slice_rev12 wx x)) ⟨hR.trans (hb.mono hR.size), hb, _, rfl, hR.size, Blk.new wx 39 (evC x)⟩⟩
        | rz + 23, h => omega
      · intro v wx hR hV
        obtain ⟨p22, h22, hp22, hk22⟩ : rowOneE 39 wr.heap.size (evC x) (v 22) wx := hV 22 (by omega)
        have h0 : v 0 = _ := hV 0 (by omega)
        simp only [fillR, Act.put, List.setIfInBounds_toArray, List.set_cons_zero, List.set_cons_succ, List.drop_succ_cons, List.drop_zero, h0, h22]
        have hu := ownsRow_only (S := []) HO.out (Only.of_below hR) (by simp)
        refine wpList_app (v := u3) (base := w.heap.size) (n := i) rfl rfl Tryd.underlying22 rev_info12 rfl (by decide) (evC x) rfl hu rfl rfl (fun _ => ⟨_, _, rfl, fun j u hu => by rw [Nat.zero_add]; exact (hk22.cell j).trans hu⟩) (evC_one _) (by omega) (by decide) (Nat.le_trans HW.out.size hR.size) ?_
        intro v5 w4 k1 k2 k3
        rw [show rowE (xs.take i) ++ evC x = rowE (xs.take (i + 1)) by rw [List.take_add_one, HX.out, Option.toList_some, rowE_snoc]] at k1
        have HF := Lib.hid (And.intro k1 ((HW.out.trans (hR.mono HW.out.size)).trans (k2.below (Nat.le_trans HW.out.size hR.size) (fun k hk => (hu.lt k (by simpa using hk)).1))))
        clear k1 k2 k3 hR hV h0 h22 hp22 hk22 hu q0 q1 q2 q3
        go_wp2_with fail
        exact ⟨⟨i + 1, by omega, by go_num, Lib.hid HF.out.1, Lib.hid HF.out.2⟩, by simp [intOf]; omega⟩
    · obtain rfl : i = n := by omega
      have HE : Hid (xs.take i = xs) := Lib.hid (by rw [← HL.out.1, List.take_length])
      have hu := HO.out
      rw [HE.out] at hu
      obtain ⟨B, d, rfl, h1⟩ := ein_row hu HL.out.1 HL.out.2 (fun j y f hy hf => (H.out.ok j y f hy hf).below HW.out)
      have HF := Lib.hid h1
      clear hu h1 HO
      go_wp2_with fail
      go_ret
      exact ⟨B, d, rfl, HF.out, HW.out⟩
end Go.Proofs.YtbckiembnakmhaaDoor
end

/-
  How many files there are, and how many bytes; the digest of each entry's bytes. Conditions: the entries lie in memory; the constants lie in their variable.
-/

section
set_option linter.unusedSimpArgs false
set_option linter.unusedVariables false
set_option maxRecDepth 100000
namespace Go.Proofs.YtbckiembnakmhaaDoor
open Go.RowKit

def filesE (es : List En) : Nat := (es.map fun e => if e.kind = 0 then 1 else 0).sum
def sizeE (es : List En) : Nat := (es.map fun e => if e.kind = 0 then e.data.length else 0).sum
theorem files_next {es : List En} {i : Nat} {e : En} (h : es[i]? = some e) : filesE (es.take (i + 1)) = filesE (es.take i) + if e.kind = 0 then 1 else 0 := by
  unfold filesE
  rw [List.take_add_one, h, Option.toList_some, List.map_append, List.sum_append]
  simp
theorem size_next {es : List En} {i : Nat} {e : En} (h : es[i]? = some e) : sizeE (es.take (i + 1)) = sizeE (es.take i) + if e.kind = 0 then e.data.length else 0 := by
  unfold sizeE
  rw [List.take_add_one, h, Option.toList_some, List.map_append, List.sum_append]
  simp
theorem sums_small {es : List En} (h : ∀ e ∈ es, SmallE e) : ∀ i, filesE (es.take i) ≤ i ∧ sizeE (es.take i) ≤ i * 1000000 := by
  intro i
  induction i with
  | zero => simp [filesE, sizeE]
  | succ i ih =>
    cases he : es[i]? with
    | none =>
      have : es.take (i + 1) = es.take i := by
        rw [List.take_add_one, he]
        simp
      rw [this]
      omega
    | some e =>
      rw [files_next he, size_next he]
      have := (h e (List.mem_of_getElem? he)).data
      split <;> omega
theorem EIn.smalls {w : World} {A : Option Addr} {n c : Nat} {xs : List Ev} {es : List En} (h : EIn w A n c xs es) : ∀ e ∈ es, SmallE e := by
  intro e he
  obtain ⟨i, hi⟩ := List.getElem?_of_mem he
  have hl := (List.getElem?_eq_some_iff.1 hi).1
  obtain ⟨x, e', h1, h2, h3⟩ := h.get (i := i) (by rw [← h.elen]; exact hl)
  rw [hi] at h2
  cases h2
  exact h3.small
set_option maxHeartbeats 4000000 in
theorem sizes_any (w : World) (A : Option Addr) (n c : Nat) (xs : List Ev) (es : List En) (h : EIn w A n c xs es) (hn : n ≤ 1000000) :
    Calls Tryd.prog 14 #[.slice A n c] w fun e w' => e = .returned (.tuple #[.int .i64 (filesE es : Nat), .int .i64 (sizeE es : Nat)]) ∧ Below w.heap.size w w' := by
  have H := Lib.hid h
  have HS := Lib.hid (sums_small h.smalls)
  have HE : Hid (es.take n = es) := Lib.hid (by rw [← h.elen, List.take_length])
  clear h
  go_enter Tryd.func14, Tryd.ntmps14
  go_wp2_with fail
  go_loopw [4, 5, 10] (fun u4 u5 iv wr => ∃ i : Nat, i ≤ n ∧ u4 = .int .i64 (filesE (es.take i) : Nat) ∧ u5 = .int .i64 (sizeE (es.take i) : Nat) ∧ iv = .int .i64 i ∧ Hid (Below w.heap.size w wr)) (fun _ _ iv _ => n - (intOf iv).toNat)
  case atStart => exact ⟨0, by omega, rfl, rfl, rfl, Lib.hid (Below.refl _ _)⟩
  case round =>
    obtain ⟨i, hi, rfl, rfl, rfl, HW⟩ := hrel
    by_cases hlt : i < n
    · obtain ⟨g, o, x, e, rfl, hg, hx, he, hok, hcl⟩ := (H.out.below HW.out).row hlt
      have HC := Lib.hid hcl
      have HZ := Lib.hid (Blk.new wr 30 [.slice none 0 0, .int .i64 0, .int .i64 0, .slice none 0 0])
      have HN := Lib.hid (And.intro (files_next he) (size_next he))
      have hs1 := (HS.out i).1
      have hs2 := (HS.out i).2
      have hdn : x.dn ≤ 1000000 := by have := hok.small.data; rw [hok.data.len] at this; exact this
      have HK := Lib.hid (And.intro hok.kind hok.data.len)
      obtain ⟨F, hF⟩ : ∃ F, F = filesE (es.take i) := ⟨_, rfl⟩
      obtain ⟨Z, hZ⟩ : ∃ Z, Z = sizeE (es.take i) := ⟨_, rfl⟩
      rw [← hF] at hs1 HN
      rw [← hZ] at hs2 HN
      rw [← hF, ← hZ]
      clear hx he hok hcl hF hZ
      have hw1 : wrap64 ((F : Int) + 1) = (F : Int) + 1 := by unfold wrap64; omega
      have hw2 : wrap64 ((Z : Int) + (x.dn : Int)) = (Z : Int) + (x.dn : Int) := by unfold wrap64; omega
      by_cases hk : x.k = 0
      · have HT : Hid (filesE (es.take (i + 1)) = F + 1 ∧ sizeE (es.take (i + 1)) = Z + x.dn) := Lib.hid (by rw [HN.out.1, HN.out.2, HK.out.1, if_pos hk, if_pos hk, HK.out.2]; exact ⟨rfl, rfl⟩)
        go_wp2_with (first
          | (refine wpList_load_mid rfl 30 (.tmp 12) rfl g (o + i * 4) rfl _ _ HC.out Tryd.underlying30 rfl infoEv ?_)
          | (refine wpList_store_blk rfl 30 (.tmp 7) (.tmp 13) rfl wr.heap.size 0 (evC x) rfl rfl HZ.out (by simp [evC]) infoEv (evC_one _) ?_; intro w2 hA hO; rw [over_whole (by simp [evC])] at hA; obtain ⟨d0, d1, d2, d3⟩ := four_ev hA; have H2 := Lib.hid (HW.out.trans (((pnew wr _).trans (hO.below (B := wr.heap.size) (by simp) (by simp))).mono HW.out.size)); clear hA hO))
        go_roundw
        case rel => exact ⟨i + 1, by omega, by rw [HT.out.1]; go_num, by rw [HT.out.2]; go_num, by go_num, H2⟩
        case measure => simp [intOf]; omega
      · have HT : Hid (filesE (es.take (i + 1)) = F ∧ sizeE (es.take (i + 1)) = Z) := Lib.hid (by rw [HN.out.1, HN.out.2, HK.out.1, if_neg hk, if_neg hk]; exact ⟨rfl, rfl⟩)
        go_wp2_with (first
          | (refine wpList_load_mid rfl 30 (.tmp 12) rfl g (o + i * 4) rfl _ _ HC.out Tryd.underlying30 rfl infoEv ?_)
          | (refine wpList_store_blk rfl 30 (.tmp 7) (.tmp 13) rfl wr.heap.size 0 (evC x) rfl rfl HZ.out (by simp [evC]) infoEv (evC_one _) ?_; intro w2 hA hO; rw [over_whole (by simp [evC])] at hA; obtain ⟨d0, d1, d2, d3⟩ := four_ev hA; have H2 := Lib.hid (HW.out.trans (((pnew wr _).trans (hO.below (B := wr.heap.size) (by simp) (by simp))).mono HW.out.size)); clear hA hO))
        go_roundw
        case rel => exact ⟨i + 1, by omega, by rw [HT.out.1], by rw [HT.out.2], by go_num, H2⟩
        case measure => simp [intOf]; omega
    · obtain rfl : i = n := by omega
      rw [HE.out]
      go_wp2_with fail
      go_ret2
      exact ⟨rfl, HW.out⟩
end Go.Proofs.YtbckiembnakmhaaDoor
end
