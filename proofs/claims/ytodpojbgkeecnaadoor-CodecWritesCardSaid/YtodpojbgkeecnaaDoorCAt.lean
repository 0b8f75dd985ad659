/-
  At: the value that places lead to. Conditions: the value reads as a tree; the places lie in memory, no more than a thousand.
-/
import Derived.Test.YtodpojbgkeecnaaDoorCSmall
import Derived.Deep.CutBlock
set_option linter.unusedSimpArgs false
set_option linter.unusedVariables false
namespace Go.Proofs.YtodpojbgkeecnaaDoor
open Go.RowKit

/-- Numbers in memory. -/
structure PIn (w : World) (A : Option Addr) (n c : Nat) (ps : List Int) : Prop where
  len : ps.length = n
  cap : n ≤ c
  bound : ∀ x ∈ ps, -9223372036854775808 ≤ x ∧ x ≤ 9223372036854775807
  cells : 0 < n → ∃ g o, A = some ⟨g, o, none⟩ ∧ g < w.heap.size ∧ ∀ (j : Nat) (x : Int), ps[j]? = some x → w.cell? ⟨g, o + j, none⟩ = some (.int .i64 x)
theorem PIn.below {w w' : World} {A : Option Addr} {n c : Nat} {ps : List Int} (h : PIn w A n c ps) (hb : Below w.heap.size w w') : PIn w' A n c ps := by
  refine ⟨h.len, h.cap, h.bound, fun hn => ?_⟩
  obtain ⟨g, o, hA, hg, hc⟩ := h.cells hn
  exact ⟨g, o, hA, Nat.lt_of_lt_of_le hg hb.size, fun j x hx => (hb.cell (p := ⟨g, o + j, none⟩) hg).trans (hc j x hx)⟩

/-- The value at a place. -/
def T.sub : T → Int → Option T
  | .mk k _ _ l, p => if k = 2 ∧ 0 ≤ p ∧ p < l.length then l[p.toNat]? else none
/-- The value that places lead to. -/
def T.go : T → List Int → Option T
  | t, [] => some t
  | t, p :: r => (t.sub p).bind fun s => s.go r
theorem T.go_snoc : ∀ (ps : List Int) (t : T) (p : Int), t.go (ps ++ [p]) = (t.go ps).bind fun s => s.sub p
  | [], t, p => by
    show (t.sub p).bind (fun s => s.go []) = (some t).bind fun s => s.sub p
    simp only [Option.bind_some]
    cases t.sub p <;> rfl
  | q :: r, t, p => by
    show (t.sub q).bind (fun s => s.go (r ++ [p])) = ((t.sub q).bind fun s => s.go r).bind fun s => s.sub p
    rw [Option.bind_assoc]
    congr 1
    funext s
    exact T.go_snoc r s p
theorem T.go_none : ∀ (ps qs : List Int) (t : T), t.go ps = none → t.go (ps ++ qs) = none
  | [], _, t, h => by cases h
  | p :: r, qs, t, h => by
    show (t.sub p).bind (fun s => s.go (r ++ qs)) = none
    have h : (t.sub p).bind (fun s => s.go r) = none := h
    cases hs : t.sub p with
    | none => rfl
    | some s =>
      rw [hs] at h
      exact T.go_none r qs s h

/-- What At leaves. -/
def AtPost (t : T) (ps : List Int) (w : World) (e : Ending) (w' : World) : Prop := Below w.heap.size w w' ∧ match t.go ps with
  | some s => ∃ v', e = .returned (.tuple #[v', .int .i64 0]) ∧ In w' (fun g => w.heap.size ≤ g) s v'
  | none => e = .returned (.tuple #[.agg #[.int .i64 0, .int .i64 0, .slice none 0 0, .slice none 0 0], .int .i64 7])

/-- Where At's loop stands. -/
def AtRel (t : T) (ps : List Int) (w0 : World) (Q : Nat → Prop) (i : Value) (wr : World) : Prop := ∃ (k : Nat) (s : T) (c0 c1 c2 c3 : Value), k ≤ ps.length ∧ i = .int .i64 k ∧ t.go (ps.take k) = some s ∧ s.ok ∧ Blk wr w0.heap.size 26 [c0, c1, c2, c3] ∧ In wr (fun g => Q g ∧ g < w0.heap.size) s (.agg #[c0, c1, c2, c3]) ∧
  Blk wr (w0.heap.size + 1) 26 [.int .i64 0, .int .i64 0, .slice none 0 0, .slice none 0 0] ∧ Below w0.heap.size w0 wr

theorem T.sub_ok {t s : T} {p : Int} (h : t.sub p = some s) (hok : t.ok) : s.ok := by
  obtain ⟨k, n, b, l⟩ := t
  rw [T.sub] at h
  split at h
  · rw [T.ok] at hok
    exact T.okAll_mem hok.2.2.2.2 s (List.mem_of_getElem? h)
  · cases h

theorem at_end {t : T} {ps : List Int} {sk sn : Int} {sb : List UInt8} {sl : List T} {w wr w2 w3 : World} {A L : Option Addr} {nb cb nl cl : Nat} {xs : List Value} (hgo : t.go ps = some (.mk sk sn sb sl)) (hb : BIn w2 (fun g => wr.heap.size ≤ g) A nb cb sb) (hl : LIn w2 (fun g => wr.heap.size ≤ g) L nl cl sl xs) (hbel : Below w.heap.size w wr) (hb2 : Below wr.heap.size wr w2) (hD : w.heap.size + 1 < wr.heap.size)
    (ho : Only [w.heap.size + 1] w2 w3) : AtPost t ps w (.returned (.tuple #[.agg #[.int .i64 sk, .int .i64 sn, .slice A nb cb, .slice L nl cl], .int .i64 0])) w3 := by
  have hs := hbel.size
  refine ⟨(hbel.trans (hb2.mono hs)).trans (ho.below (Nat.le_trans hs hb2.size) (by simp)), ?_⟩
  rw [hgo]
  exact ⟨_, rfl, In.shut (hb.keep fun g hg hlt => ⟨ho.block g hlt (by simp; omega), by omega⟩) (hl.keep fun g hg hlt => ⟨ho.block g hlt (by simp; omega), by omega⟩)⟩
theorem at_step {t s s2 : T} {ps : List Int} {k : Nat} {p : Int} {w wr : World} {Q : Nat → Prop} {c0 c1 c2 c3 d0 d1 d2 d3 : Value} (hgo : t.go (ps.take k) = some s) (hp : ps[k]? = some p) (hs : s.sub p = some s2) (hk : k < ps.length) (hok : s.ok)
    (hbx : Blk wr w.heap.size 26 [c0, c1, c2, c3]) (hin : In wr (fun g => Q g ∧ g < w.heap.size) s2 (.agg #[d0, d1, d2, d3])) (hz : Blk wr (w.heap.size + 1) 26 [.int .i64 0, .int .i64 0, .slice none 0 0, .slice none 0 0]) (hbel : Below w.heap.size w wr) :
    AtRel t ps w Q (.int .i64 ((k : Int) + 1)) ((((wr.setCell ⟨w.heap.size, 0, none⟩ d0).setCell ⟨w.heap.size, 1, none⟩ d1).setCell ⟨w.heap.size, 2, none⟩ d2).setCell ⟨w.heap.size, 3, none⟩ d3) := by
  have ho : Only [w.heap.size] wr ((((wr.setCell ⟨w.heap.size, 0, none⟩ d0).setCell ⟨w.heap.size, 1, none⟩ d1).setCell ⟨w.heap.size, 2, none⟩ d2).setCell ⟨w.heap.size, 3, none⟩ d3) := (((((Only.refl _ _).setCell (.inl (by simp)) _).setCell (.inl (by simp)) _).setCell (.inl (by simp)) _).setCell (.inl (by simp)) _)
  refine ⟨k + 1, s2, d0, d1, d2, d3, by omega, by go_num, ?_, T.sub_ok hs hok, (((hbx.set_ 0 d0).set_ 1 d1).set_ 2 d2).set_ 3 d3, hin.keep _ _ fun g hg hlt => ⟨ho.block g hlt (by simp; omega), hg⟩, hz.only ho (by simp), hbel.trans (ho.below hbel.size (by simp))⟩
  rw [List.take_add_one, hp]
  show t.go (ps.take k ++ [p]) = some s2
  rw [T.go_snoc, hgo]
  exact hs
theorem at_none {t s : T} {ps : List Int} {k : Nat} {p : Int} {w w' : World} (hgo : t.go (ps.take k) = some s) (hp : ps[k]? = some p) (hs : s.sub p = none) (hb : Below w.heap.size w w') : AtPost t ps w (.returned (.tuple #[.agg #[.int .i64 0, .int .i64 0, .slice none 0 0, .slice none 0 0], .int .i64 7])) w' := by
  have h1 : t.go (ps.take (k + 1)) = none := by
    rw [List.take_add_one, hp]
    show t.go (ps.take k ++ [p]) = none
    rw [T.go_snoc, hgo]
    exact hs
  have h2 : t.go ps = none := by
    rw [← List.take_append_drop (k + 1) ps]
    exact T.go_none _ _ _ h1
  refine ⟨hb, ?_⟩
  rw [h2]
set_option maxRecDepth 100000 in
set_option maxHeartbeats 1000000 in
theorem at_any (t : T) (hok : t.ok) (w : World) (Q : Nat → Prop) (v : Value) (hin : In w Q t v) (A : Option Addr) (n c : Nat) (ps : List Int) (hp : PIn w A n c ps) (hn : n ≤ 1000) : Calls Tryd.prog 16 #[v, .slice A n c] w (AtPost t ps w) := by
  have hstart : ∀ c0 c1 c2 c3, v = .agg #[c0, c1, c2, c3] → AtRel t ps w Q (.int .i64 0) ((w.alloc (.cells #[c0, c1, c2, c3] 26)).alloc (.cells #[.int .i64 0, .int .i64 0, .slice none 0 0, .slice none 0 0] 26)) := by
    intro c0 c1 c2 c3 hv
    have hbel : Below w.heap.size w ((w.alloc (.cells #[c0, c1, c2, c3] 26)).alloc (.cells #[.int .i64 0, .int .i64 0, .slice none 0 0, .slice none 0 0] 26)) := ((Below.refl _ _).alloc (Nat.le_refl _) _).alloc (by simp) _
    refine ⟨0, t, c0, c1, c2, c3, Nat.zero_le _, rfl, rfl, hok, (Blk.new w 26 [c0, c1, c2, c3]).alloc _, hv ▸ hin.keep _ _ fun g hg hlt => ⟨hbel.block g hlt, hg, hlt⟩, ?_, hbel⟩
    have := Blk.new (w.alloc (.cells #[c0, c1, c2, c3] 26)) 26 [.int .i64 0, .int .i64 0, .slice none 0 0, .slice none 0 0]
    rw [World.size_alloc] at this
    exact this
  have HS := Lib.hid hstart
  have HP := Lib.hid hp
  obtain ⟨k0, n0, b0, l0⟩ := t
  obtain ⟨A0, nb0, cb0, L0, nl0, cl0, xs0, rfl, hb0, hl0⟩ := hin.open_
  clear hstart hp hin hb0 hl0 hok
  go_enter Tryd.func16, Tryd.ntmps16
  go_wp2_with fail
  have hpl := HP.out.len
  go_loopw [10] (fun i wr => AtRel (.mk k0 n0 b0 l0) ps w Q i wr) (fun i _ => n - (intOf i).toNat)
  case atStart => exact HS.out _ _ _ _ rfl
  case round =>
    obtain ⟨k, s, c0, c1, c2, c3, hk, rfl, hgo, hsok, hbx, hins, hz, hbel⟩ := hrel
    obtain ⟨sk, sn, sb, sl⟩ := s
    obtain ⟨A1, nb1, cb1, L1, nl1, cl1, xs1, hv, _, hl1⟩ := hins.open_
    injection hv with hv
    simp only [Array.mk.injEq, List.cons.injEq, and_true] at hv
    obtain ⟨rfl, rfl, rfl, rfl⟩ := hv
    have e0 := hbx.cell 0
    have e1 := hbx.cell 1
    have e2 := hbx.cell 2
    have e3 := hbx.cell 3
    have f0 := hbx.frozen 0
    have f1 := hbx.frozen 1
    have f2 := hbx.frozen 2
    have f3 := hbx.frozen 3
    have z0 := hz.cell 0
    have z1 := hz.cell 1
    have z2 := hz.cell 2
    have z3 := hz.cell 3
    have y0 := hz.frozen 0
    have y1 := hz.frozen 1
    have y2 := hz.frozen 2
    have y3 := hz.frozen 3
    simp only [List.getElem?_cons_succ, List.getElem?_cons_zero] at e0 e1 e2 e3 z0 z1 z2 z3
    by_cases hkn : k < n
    · obtain ⟨g, o, rfl, hg, hc⟩ := HP.out.cells (by omega)
      have hpk : ps[k]? = some (ps[k]'(by omega)) := List.getElem?_eq_getElem _
      have hbd := HP.out.bound _ (List.getElem_mem (h := (by omega : k < ps.length)))
      generalize (ps[k]'(by omega)) = p at hpk hbd
      have hcp : wr.cell? ⟨g, o + k, none⟩ = some (.int .i64 p) := (hbel.cell (p := ⟨g, o + k, none⟩) hg).trans (hc k p hpk)
      have HR := Lib.hid (And.intro hgo (And.intro hpk (And.intro hins (And.intro hsok (And.intro hbel (And.intro hbx (And.intro hz hl1)))))))
      clear hgo hpk hins hsok hbel hbx hz hc hl1
      by_cases k2 : sk = 2
      · subst k2
        rcases Int.lt_or_le p 0 with hp0 | hp0
        · go_wp2_with fail
          refine bodyPost_ret (v := .tuple #[.agg #[.int .i64 0, .int .i64 0, .slice none 0 0, .slice none 0 0], .int .i64 7]) (by simp [results, Tryd.results16, go_sem, z0, z1, z2, z3]) rfl ?_
          exact at_none HR.out.1 HR.out.2.1 (by rw [T.sub, if_neg (by omega)]) (((((HR.out.2.2.2.2.1.setCell (Nat.le_succ _) _).setCell (Nat.le_succ _) _).setCell (Nat.le_succ _) _).setCell (Nat.le_succ _) _))
        · have hp0' : ¬ p < 0 := by omega
          rcases Int.lt_or_le p nl1 with hp1 | hp1
          · obtain ⟨q, rfl⟩ : ∃ q : Nat, p = (q : Int) := ⟨p.toNat, by omega⟩
            obtain ⟨g1, o1, rfl, hQ1, _⟩ := HR.out.2.2.2.2.2.2.2.cells (by omega)
            have hqn : q < sl.length := by have := HR.out.2.2.2.2.2.2.2.len; omega
            have hqk : sl[q]? = some (sl[q]'hqn) := List.getElem?_eq_getElem _
            generalize (sl[q]'hqn) = s2 at hqk
            obtain ⟨d0, d1, d2, d3, h0, h1, h2, h3, hin2⟩ := HR.out.2.2.2.2.2.2.2.get q _ hqk
            obtain ⟨sk2, sn2, sb2, sl2⟩ := s2
            obtain ⟨A2, nb2, cb2, L2, nl2, cl2, xs2, hv, _, _⟩ := hin2.open_
            injection hv with hv
            simp only [Array.mk.injEq, List.cons.injEq, and_true] at hv
            obtain ⟨rfl, rfl, rfl, rfl⟩ := hv
            have hsub : T.sub (.mk 2 sn sb sl) (q : Int) = some (.mk sk2 sn2 sb2 sl2) := by rw [T.sub, if_pos ⟨rfl, by omega, by omega⟩]; simpa using hqk
            have H2 := Lib.hid (And.intro hsub hin2)
            have hqi : (q : Int) < (nl1 : Int) := hp1
            clear hqk hin2 hsub hQ1
            go_wp2_with fail
            go_roundw
            case rel => exact at_step HR.out.1 HR.out.2.1 H2.out.1 (by omega) HR.out.2.2.2.1 HR.out.2.2.2.2.2.1 H2.out.2 HR.out.2.2.2.2.2.2.1 HR.out.2.2.2.2.1
            case measure => simp [intOf]; omega
          · go_wp2_with fail
            refine bodyPost_ret (v := .tuple #[.agg #[.int .i64 0, .int .i64 0, .slice none 0 0, .slice none 0 0], .int .i64 7]) (by simp [results, Tryd.results16, go_sem, z0, z1, z2, z3]) rfl ?_
            exact at_none HR.out.1 HR.out.2.1 (by rw [T.sub, if_neg (by have := HR.out.2.2.2.2.2.2.2.len; omega)]) (((((HR.out.2.2.2.2.1.setCell (Nat.le_succ _) _).setCell (Nat.le_succ _) _).setCell (Nat.le_succ _) _).setCell (Nat.le_succ _) _))
      · have b2 : (sk == 2) = false := by simp [k2]
        go_wp2_with fail
        refine bodyPost_ret (v := .tuple #[.agg #[.int .i64 0, .int .i64 0, .slice none 0 0, .slice none 0 0], .int .i64 7]) (by simp [results, Tryd.results16, go_sem, z0, z1, z2, z3]) rfl ?_
        exact at_none HR.out.1 HR.out.2.1 (by rw [T.sub, if_neg (by omega)]) (((((HR.out.2.2.2.2.1.setCell (Nat.le_succ _) _).setCell (Nat.le_succ _) _).setCell (Nat.le_succ _) _).setCell (Nat.le_succ _) _))
    · have hend : ps.take k = ps := List.take_of_length_le (by omega)
      rw [hend] at hgo
      have HR := Lib.hid (And.intro hgo (And.intro hins (And.intro hsok (And.intro hbel (And.intro hbx (And.intro hz hl1))))))
      clear hgo hins hsok hbel hbx hz hl1 hend
      go_wp2_with fail
      refine (own_any _ _ (Nat.lt_succ_self _) HR.out.2.2.1 _ _ _ HR.out.2.1).mono ?_
      rintro e w2 ⟨v2, rfl, hin2, hb2⟩
      obtain ⟨A2, nb2, cb2, L2, nl2, cl2, xs2, rfl, hbb, hll⟩ := hin2.open_
      have hz2 := HR.out.2.2.2.2.2.1.below hb2 HR.out.2.2.2.2.2.1.lt
      clear z0 z1 z2 z3 y0 y1 y2 y3 e0 e1 e2 e3 f0 f1 f2 f3
      have z0 := hz2.cell 0
      have z1 := hz2.cell 1
      have z2 := hz2.cell 2
      have z3 := hz2.cell 3
      have y0 := hz2.frozen 0
      have y1 := hz2.frozen 1
      have y2 := hz2.frozen 2
      have y3 := hz2.frozen 3
      simp only [List.getElem?_cons_succ, List.getElem?_cons_zero] at z0 z1 z2 z3
      have H2 := Lib.hid (And.intro hbb (And.intro hll hb2))
      clear hbb hll hb2 hz2 hin2
      go_wp2_with fail
      refine bodyPost_ret (v := .tuple #[.agg #[.int .i64 sk, .int .i64 sn, .slice A2 nb2 cb2, .slice L2 nl2 cl2], .int .i64 0]) (by simp [results, Tryd.results16, go_sem, z0, z1, z2, z3]) rfl ?_
      exact at_end HR.out.1 H2.out.1 H2.out.2.1 (HR.out.2.2.2.1) H2.out.2.2 HR.out.2.2.2.2.2.1.lt (((((Only.refl _ _).setCell (.inl (by simp)) _).setCell (.inl (by simp)) _).setCell (.inl (by simp)) _).setCell (.inl (by simp)) _)

end Go.Proofs.YtodpojbgkeecnaaDoor
