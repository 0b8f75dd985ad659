/-
  CodecPlaces, walked: for every two lists of tokens and every places it returns true. Conditions: the arguments lie in memory; the library's table is as laid.
-/
import Derived.Test.YtodpojbgkeecnaaDoorCBuild
import Derived.Test.YtodpojbgkeecnaaDoorCLawKit
import Derived.Deep.CutBlock
import Derived.Deep.DeepCutAuto
set_option linter.unusedSimpArgs false
set_option linter.unusedVariables false
namespace Go.Proofs.YtodpojbgkeecnaaDoor
open Go.RowKit

/-- Where the law's own going into lists stands. -/
def PWalk (W : World) (t : T) (ps : List Int) (Y : Nat) (th i : Value) (wr : World) : Prop := ∃ (k : Nat) (b : Bool) (c0 c1 c2 c3 : Value), k ≤ ps.length ∧ i = .int .i64 k ∧ th = .bool b ∧ Blk wr Y 26 [c0, c1, c2, c3] ∧ Below Y W wr ∧
  (b = true → ∃ s, t.go (ps.take k) = some s ∧ s.ok ∧ In wr (fun g => g < Y) s (.agg #[c0, c1, c2, c3])) ∧ (b = false → t.go ps = none)
section
variable {W wr : World} {t s : T} {ps : List Int} {Y k : Nat} {p : Int} {c0 c1 c2 c3 d0 d1 d2 d3 : Value}
theorem pw_step {s2 : T} (hgo : t.go (ps.take k) = some s) (hp : ps[k]? = some p) (hs : s.sub p = some s2) (hok : s.ok) (hY : Blk wr Y 26 [c0, c1, c2, c3]) (hin : In wr (fun g => g < Y) s2 (.agg #[d0, d1, d2, d3])) (hb : Below Y W wr) {wx : World} {q : Nat} (hwx : wx = put4 (wr.drewN q) Y d0 d1 d2 d3) :
    PWalk W t ps Y (.bool true) (.int .i64 ((k : Int) + 1)) wx := by
  subst hwx
  have hin := hin.keep (w' := wr.drewN q) (Q' := fun g => g < Y) _ _ fun g hg _ => ⟨rfl, hg⟩
  have hY := hY.drewN q
  have hb := below_drewN hb q
  have hlt := (List.getElem?_eq_some_iff.1 hp).1
  have ho := put4_only (wr.drewN q) Y d0 d1 d2 d3
  refine ⟨k + 1, true, d0, d1, d2, d3, by omega, rfl, rfl, ?_, hb.trans (ho.below (Nat.le_of_lt hY.lt) (by simp)), fun _ => ⟨s2, ?_, T.sub_ok hs hok, hin.keep _ _ fun g hg hl => ⟨ho.block g hl (by simp; omega), hg⟩⟩, fun h => by cases h⟩
  · exact ((((hY.set_ 0 d0).set_ 1 d1).set_ 2 d2).set_ 3 d3)
  · rw [List.take_add_one, hp]
    show t.go (ps.take k ++ [p]) = _
    rw [T.go_snoc, hgo]
    exact hs
theorem pw_stop (hgo : t.go (ps.take k) = some s) (hp : ps[k]? = some p) (hs : s.sub p = none) (hY : Blk wr Y 26 [c0, c1, c2, c3]) (hb : Below Y W wr) {wx : World} {q : Nat} (hwx : wx = wr.drewN q) :
    PWalk W t ps Y (.bool false) (.int .i64 ((k : Int) + 1)) wx := by
  subst hwx
  have hlt := (List.getElem?_eq_some_iff.1 hp).1
  refine ⟨k + 1, false, c0, c1, c2, c3, by omega, rfl, rfl, hY, below_drewN hb q, (fun h => by cases h), fun _ => ?_⟩
  have h1 : t.go (ps.take (k + 1)) = none := by
    rw [List.take_add_one, hp]
    show t.go (ps.take k ++ [p]) = _
    rw [T.go_snoc, hgo]
    exact hs
  have := T.go_none _ (ps.drop (k + 1)) t h1
  rwa [List.take_append_drop] at this
end
/-- What At told, as the law has it. -/
def AtTold (t : T) (ps : List Int) (W : World) (er : Int) (v : Value) : Prop := (er = 0 ∧ ∃ s, t.go ps = some s ∧ s.ok ∧ In W (fun _ => True) s v) ∨ (er = 7 ∧ t.go ps = none)
theorem T.go_ok : ∀ (ps : List Int) (t s : T), t.ok → t.go ps = some s → s.ok
  | [], t, s, h, e => by
    injection e with e
    exact e ▸ h
  | p :: r, t, s, h, e => by
    have e : (t.sub p).bind (fun s => s.go r) = some s := e
    cases hs : t.sub p with
    | none => rw [hs] at e; cases e
    | some u => rw [hs] at e; exact T.go_ok r u s (T.sub_ok hs h) e
theorem at_told {t : T} {ps : List Int} {W W' : World} {e : Ending} (hok : t.ok) (h : AtPost t ps W e W') : ∃ k n A nb cb L nl cl er, e = .returned (.tuple #[.agg #[.int .i64 k, .int .i64 n, .slice A nb cb, .slice L nl cl], .int .i64 er]) ∧ AtTold t ps W' er (.agg #[.int .i64 k, .int .i64 n, .slice A nb cb, .slice L nl cl]) ∧ Below W.heap.size W W' := by
  obtain ⟨hb, h⟩ := h
  cases hg : t.go ps with
  | none =>
    rw [hg] at h
    exact ⟨_, _, _, _, _, _, _, _, _, h, .inr ⟨rfl, hg⟩, hb⟩
  | some s =>
    rw [hg] at h
    obtain ⟨v', rfl, hin⟩ := h
    obtain ⟨k, n, A, nb, cb, L, nl, cl, rfl⟩ := hin.form
    exact ⟨k, n, A, nb, cb, L, nl, cl, 0, rfl, .inl ⟨rfl, s, hg, T.go_ok _ _ _ hok hg, hin.mono fun _ _ _ => trivial⟩, hb⟩

/-- What the law keeps to its end: the two values, their boxes. -/
structure Kept (w wr : World) (t1 t2 : T) (g1 g2 : Nat) (k1 m1 : Int) (A1 L1 : Option Addr) (nb1 cb1 nl1 cl1 : Nat) (k2 m2 : Int) (A2 L2 : Option Addr) (nb2 cb2 nl2 cl2 : Nat) : Prop where
  i1 : In wr (fun _ => True) t1 (.agg #[.int .i64 k1, .int .i64 m1, .slice A1 nb1 cb1, .slice L1 nl1 cl1])
  i2 : In wr (fun _ => True) t2 (.agg #[.int .i64 k2, .int .i64 m2, .slice A2 nb2 cb2, .slice L2 nl2 cl2])
  bel : Below w.heap.size w wr
  x1 : Blk wr g1 26 [.int .i64 k1, .int .i64 m1, .slice A1 nb1 cb1, .slice L1 nl1 cl1]
  x2 : Blk wr g2 26 [.int .i64 k2, .int .i64 m2, .slice A2 nb2 cb2, .slice L2 nl2 cl2]
section
variable {w wr w' : World} {t1 t2 : T} {g1 g2 : Nat} {k1 m1 : Int} {A1 L1 : Option Addr} {nb1 cb1 nl1 cl1 : Nat} {k2 m2 : Int} {A2 L2 : Option Addr} {nb2 cb2 nl2 cl2 : Nat}
theorem Kept.on (h : Kept w wr t1 t2 g1 g2 k1 m1 A1 L1 nb1 cb1 nl1 cl1 k2 m2 A2 L2 nb2 cb2 nl2 cl2) (hb : Below wr.heap.size wr w') : Kept w w' t1 t2 g1 g2 k1 m1 A1 L1 nb1 cb1 nl1 cl1 k2 m2 A2 L2 nb2 cb2 nl2 cl2 :=
  ⟨h.i1.below hb, h.i2.below hb, h.bel.trans (hb.mono h.bel.size), h.x1.below hb h.x1.lt, h.x2.below hb h.x2.lt⟩
theorem Kept.cells (h : Kept w wr t1 t2 g1 g2 k1 m1 A1 L1 nb1 cb1 nl1 cl1 k2 m2 A2 L2 nb2 cb2 nl2 cl2) :
    (wr.cell? ⟨g1, 0, none⟩ = some (.int .i64 k1) ∧ wr.cell? ⟨g1, 1, none⟩ = some (.int .i64 m1) ∧ wr.cell? ⟨g1, 2, none⟩ = some (.slice A1 nb1 cb1) ∧ wr.cell? ⟨g1, 3, none⟩ = some (.slice L1 nl1 cl1)) ∧
    (wr.cell? ⟨g2, 0, none⟩ = some (.int .i64 k2) ∧ wr.cell? ⟨g2, 1, none⟩ = some (.int .i64 m2) ∧ wr.cell? ⟨g2, 2, none⟩ = some (.slice A2 nb2 cb2) ∧ wr.cell? ⟨g2, 3, none⟩ = some (.slice L2 nl2 cl2)) :=
  ⟨⟨h.x1.cell 0, h.x1.cell 1, h.x1.cell 2, h.x1.cell 3⟩, h.x2.cell 0, h.x2.cell 1, h.x2.cell 2, h.x2.cell 3⟩
end
set_option maxRecDepth 100000 in
set_option maxHeartbeats 4000000 in
theorem places_walk (B : Nat) (w : World) (hB : B ≤ w.heap.size) (htab : Tab B w) (A A' Ap : Option Addr) (n n' np c c' cp : Nat) (ts ts' : List Tok) (ps : List Int) (hk : KIn w A n c ts) (hk' : KIn w A' n' c' ts') (hp : PIn w Ap np cp ps) (hnp : np ≤ 9223372036854775807) :
    Calls Tryd.prog 4 #[.slice A n c, .slice A' n' c', .slice Ap np cp] w fun e w' => e = .returned (.bool true) ∧ Below w.heap.size w w' := by
  have HT := Lib.hid (And.intro hB htab)
  have HK := Lib.hid (And.intro hk hk')
  have HP := Lib.hid hp
  have hcap := hp.cap
  clear hB htab hk hk' hp
  go_enter Tryd.func4, Tryd.ntmps4
  go_wp2_with fail
  refine (build_any _ _ _ _ _ HK.out.1).mono ?_
  rintro e w1 ⟨v1, rfl, hin1, hb1⟩
  obtain ⟨k1, m1, A1, nb1, cb1, L1, nl1, cl1, rfl⟩ := hin1.form
  have H1 := Lib.hid (And.intro hin1 hb1)
  clear hin1 hb1
  go_wp2_with fail
  refine (build_any _ _ _ _ _ (HK.out.2.below (H1.out.2.trans ((below_new _ _).mono H1.out.2.size)))).mono ?_
  rintro e w2 ⟨v2, rfl, hin2, hb2⟩
  obtain ⟨k2, m2, A2, nb2, cb2, L2, nl2, cl2, rfl⟩ := hin2.form
  have hx1 := (Blk.new w1 26 [.int .i64 k1, .int .i64 m1, .slice A1 nb1 cb1, .slice L1 nl1 cl1]).below hb2 (by simp)
  have b2 : Below w1.heap.size w1 w2 := (below_new _ _).trans (hb2.mono (by simp))
  have b2w := H1.out.2.trans (b2.mono H1.out.2.size)
  have H2 := Lib.hid (And.intro (H1.out.1.below b2) (And.intro hin2 (And.intro b2w hx1)))
  have e0 := hx1.cell 0
  have e1 := hx1.cell 1
  have e2 := hx1.cell 2
  have e3 := hx1.cell 3
  simp only [List.getElem?_cons_succ, List.getElem?_cons_zero] at e0 e1 e2 e3
  have hlt1 := hx1.lt
  clear hin2 hb2 b2 b2w hx1
  go_wp2_with fail
  obtain ⟨m, hm⟩ : ∃ m, (min (np : Int) 10).toNat = m := ⟨_, rfl⟩
  rw [hm]
  have hmn : m ≤ np ∧ m ≤ 10 := by omega
  obtain ⟨qs, hq⟩ : ∃ qs, PIn w Ap m cp qs := ⟨_, HP.out.take m hmn.1⟩
  have hfx := built_facts (ts := ts) fun t ht => (HK.out.1.fits t ht).1
  have hfy := built_facts (ts := ts') fun t ht => (HK.out.2.fits t ht).1
  have HFX := Lib.hid hfx
  have HFY := Lib.hid hfy
  have bn := below_new w2 (.cells #[.int .i64 k2, .int .i64 m2, .slice A2 nb2 cb2, .slice L2 nl2 cl2] 26)
  have HQ := Lib.hid (hq.below (H2.out.2.2.1.trans (bn.mono H2.out.2.2.1.size)))
  have hm10 : m ≤ 10 := hmn.2
  clear hm hmn hq hfx hfy bn HP hcap
  refine (at_any _ HFX.out.1 _ _ _ (H2.out.1.below (below_new _ _)) _ _ _ _ HQ.out (by omega)).mono ?_
  rintro e w3 hat
  obtain ⟨k3, m3, A3, nb3, cb3, L3, nl3, cl3, er, rfl, htold, hb3⟩ := at_told HFX.out.1 hat
  clear hat
  have bn := below_new w2 (.cells #[.int .i64 k2, .int .i64 m2, .slice A2 nb2 cb2, .slice L2 nl2 cl2] 26)
  have b3 : Below w2.heap.size w2 w3 := bn.trans (hb3.mono (by simp))
  have hx1 := H2.out.2.2.2.below b3 H2.out.2.2.2.lt
  have hx2 := (Blk.new w2 26 [.int .i64 k2, .int .i64 m2, .slice A2 nb2 cb2, .slice L2 nl2 cl2]).below hb3 (by simp)
  have b3w := H2.out.2.2.1.trans (b3.mono H2.out.2.2.1.size)
  have H3 := Lib.hid (And.intro (H2.out.1.below b3) (And.intro (H2.out.2.1.below b3) (And.intro b3w (And.intro hx1 (And.intro hx2 htold)))))
  have HQ3 := Lib.hid (HQ.out.below hb3)
  clear e0 e1 e2 e3
  have e0 := hx1.cell 0
  have e1 := hx1.cell 1
  have e2 := hx1.cell 2
  have e3 := hx1.cell 3
  simp only [List.getElem?_cons_succ, List.getElem?_cons_zero] at e0 e1 e2 e3
  have hlt1 := hx1.lt
  clear bn b3 hb3 hx1 hx2 b3w htold
  go_wp2_with fail
  go_loopw [16, 17] (fun th i wr => PWalk (w3.alloc (.cells #[.int .i64 k3, .int .i64 m3, .slice A3 nb3 cb3, .slice L3 nl3 cl3] 26)) (builtT ts) qs (w3.heap.size + 1) th i wr) (fun _ i _ => m - (intOf i).toNat)
  case atStart =>
    refine ⟨0, true, .int .i64 k1, .int .i64 m1, .slice A1 nb1 cb1, .slice L1 nl1 cl1, Nat.zero_le _, rfl, rfl, ?_, ?_, fun _ => ⟨_, rfl, HFX.out.1, ?_⟩, fun h => by cases h⟩
    · have := Blk.new (w3.alloc (.cells #[.int .i64 k3, .int .i64 m3, .slice A3 nb3 cb3, .slice L3 nl3 cl3] 26)) 26 [.int .i64 k1, .int .i64 m1, .slice A1 nb1 cb1, .slice L1 nl1 cl1]
      rwa [World.size_alloc] at this
    · exact (Below.refl _ _).alloc (by simp) _
    · exact H3.out.1.keep _ _ fun g hg hl => ⟨by rw [Below.heap_alloc _ _ _ (by simp; omega), Below.heap_alloc _ _ _ hl], by omega⟩
  case round =>
    obtain ⟨k, b, c0, c1, c2, c3, hk, rfl, rfl, hY, hbel, hyes, hno⟩ := hrel
    have hqm := HQ3.out.len
    have y0 := hY.cell 0
    have y1 := hY.cell 1
    have y2 := hY.cell 2
    have y3 := hY.cell 3
    have f0 := hY.frozen 0
    have f1 := hY.frozen 1
    have f2 := hY.frozen 2
    have f3 := hY.frozen 3
    simp only [List.getElem?_cons_succ, List.getElem?_cons_zero] at y0 y1 y2 y3
    by_cases hkm : k < m ∧ b = true
    · obtain ⟨hkm, rfl⟩ := hkm
      obtain ⟨s, hgo, hsok, hins⟩ := hyes rfl
      obtain ⟨sk, sn, sb, sl⟩ := s
      obtain ⟨Aa, nba, cba, La, nla, cla, xsa, hv, _, hl1⟩ := hins.open_
      injection hv with hv
      simp only [Array.mk.injEq, List.cons.injEq, and_true] at hv
      obtain ⟨rfl, rfl, rfl, rfl⟩ := hv
      obtain ⟨g, o, rfl, hg, hc⟩ := HQ3.out.cells (by omega)
      have hpk : qs[k]? = some (qs[k]'(by omega)) := List.getElem?_eq_getElem _
      have hbd := HQ3.out.bound _ (List.getElem_mem (h := (by omega : k < qs.length)))
      generalize (qs[k]'(by omega)) = q at hpk hbd
      have hcp : wr.cell? ⟨g, o + k, none⟩ = some (.int .i64 q) := (hbel.cell (p := ⟨g, o + k, none⟩) (by show g < _; omega)).trans (by rw [World.cell?_alloc_lt w3 _ _ hg]; exact hc k q hpk)
      have hkq : (k : Int) < (m : Int) := by omega
      have hkq0 : (0 : Int) ≤ (k : Int) := by omega
      have HR := Lib.hid (And.intro hgo (And.intro hpk (And.intro hins (And.intro hsok (And.intro hbel (And.intro hY hl1))))))
      have HM := Lib.hid hqm
      clear hgo hpk hins hsok hbel hY hc hl1 hyes hno hqm
      by_cases k2 : sk = 2
      · subst k2
        rcases Int.lt_or_le q 0 with hp0 | hp0
        · have hd0 : decide ((0 : Int) ≤ q) = false := by simp; omega
          go_wp2_with fail
          go_quiet (fail)
          go_wp2_with fail
          go_roundw
          case rel => exact pw_stop HR.out.1 HR.out.2.1 (by rw [T.sub, if_neg (by omega)]) HR.out.2.2.2.2.2.1 HR.out.2.2.2.2.1 rfl
          case measure => simp [intOf]; omega
        · rcases Int.lt_or_le q nla with hp1 | hp1
          · obtain ⟨r, rfl⟩ : ∃ r : Nat, q = (r : Int) := ⟨q.toNat, by omega⟩
            obtain ⟨g1, o1, rfl, hQ1, _⟩ := HR.out.2.2.2.2.2.2.cells (by omega)
            have hqn : r < sl.length := by have := HR.out.2.2.2.2.2.2.len; omega
            have hqk : sl[r]? = some (sl[r]'hqn) := List.getElem?_eq_getElem _
            generalize (sl[r]'hqn) = s2 at hqk
            obtain ⟨d0, d1, d2, d3, h0, h1, h2, h3, hin2⟩ := HR.out.2.2.2.2.2.2.get r _ hqk
            obtain ⟨sk2, sn2, sb2, sl2⟩ := s2
            obtain ⟨A4, nb4, cb4, L4, nl4, cl4, xs4, hv, _, _⟩ := hin2.open_
            injection hv with hv
            simp only [Array.mk.injEq, List.cons.injEq, and_true] at hv
            obtain ⟨rfl, rfl, rfl, rfl⟩ := hv
            have hsub : T.sub (.mk 2 sn sb sl) (r : Int) = some (.mk sk2 sn2 sb2 sl2) := by rw [T.sub, if_pos ⟨rfl, by omega, by omega⟩]; simpa using hqk
            have H4 := Lib.hid (And.intro hsub hin2)
            have hqi : (r : Int) < (nla : Int) := hp1
            clear hqk hin2 hsub hQ1
            go_wp2_with fail
            go_quiet (fail)
            go_wp2_with fail
            go_region
            all_goals
              go_wp2_with fail
              go_roundw
              case rel => exact pw_step HR.out.1 HR.out.2.1 H4.out.1 HR.out.2.2.2.1 HR.out.2.2.2.2.2.1 H4.out.2 HR.out.2.2.2.2.1 rfl
              case measure => simp [intOf]; omega
          · have hd1 : decide (q < (nla : Int)) = false := by simp; omega
            go_wp2_with fail
            go_quiet (fail)
            go_wp2_with fail
            go_roundw
            case rel => exact pw_stop HR.out.1 HR.out.2.1 (by rw [T.sub, if_neg (by have := HR.out.2.2.2.2.2.2.len; omega)]) HR.out.2.2.2.2.2.1 HR.out.2.2.2.2.1 rfl
            case measure => simp [intOf]; omega
      · have b2 : (sk == 2) = false := by simp [k2]
        go_wp2_with fail
        go_quiet (fail)
        go_wp2_with fail
        go_roundw
        case rel => exact pw_stop HR.out.1 HR.out.2.1 (by rw [T.sub, if_neg (by omega)]) HR.out.2.2.2.2.2.1 HR.out.2.2.2.2.1 rfl
        case measure => simp [intOf]; omega
    · have hz1 := (H3.out.2.2.2.1.alloc (.cells #[.int .i64 k3, .int .i64 m3, .slice A3 nb3 cb3, .slice L3 nl3 cl3] 26)).below hbel (by have := H3.out.2.2.2.1.lt; omega)
      have hz2 := (H3.out.2.2.2.2.1.alloc (.cells #[.int .i64 k3, .int .i64 m3, .slice A3 nb3 cb3, .slice L3 nl3 cl3] 26)).below hbel (by have := H3.out.2.2.2.2.1.lt; omega)
      have hz3 := (Blk.new w3 26 [.int .i64 k3, .int .i64 m3, .slice A3 nb3 cb3, .slice L3 nl3 cl3]).below hbel (Nat.lt_succ_self _)
      have bw : Below w3.heap.size w3 wr := (below_new _ _).trans (hbel.mono (Nat.le_succ _))
      have hkp : Kept w wr (builtT ts) (builtT ts') w1.heap.size w2.heap.size k1 m1 A1 L1 nb1 cb1 nl1 cl1 k2 m2 A2 L2 nb2 cb2 nl2 cl2 := ⟨(H3.out.1.below bw).mono fun _ _ _ => trivial, (H3.out.2.1.below bw).mono fun _ _ _ => trivial, H3.out.2.2.1.trans (bw.mono H3.out.2.2.1.size), hz1, hz2⟩
      clear e0 e1 e2 e3
      obtain ⟨⟨e0, e1, e2, e3⟩, v0, v1, v2, v3⟩ := hkp.cells
      have hlz1 := hz1.lt
      have hlz2 := hz2.lt
      rcases Bool.eq_false_or_eq_true b with rfl | rfl
      · obtain rfl : k = m := by
          have : ¬ k < m := fun h => hkm ⟨h, rfl⟩
          omega
        obtain ⟨s, hgo, hsok, hins⟩ := hyes rfl
        rw [List.take_of_length_le (by omega)] at hgo
        rcases H3.out.2.2.2.2.2 with ⟨rfl, s', hgo', hsok', hinx⟩ | ⟨rfl, hgo'⟩
        · obtain rfl : s = s' := by rw [hgo] at hgo'; injection hgo'
          have hinx := hinx.below bw
          have x0 := hz3.cell 0
          have x1 := hz3.cell 1
          have x2 := hz3.cell 2
          have x3 := hz3.cell 3
          simp only [List.getElem?_cons_succ, List.getElem?_cons_zero] at x0 x1 x2 x3
          have hlz3 := hz3.lt
          have HE := Lib.hid hkp
          have HS := Lib.hid (And.intro hsok (And.intro hinx hins))
          clear hkp hz1 hz2 hz3 hY hins hinx hsok hsok' hgo hgo' hyes hno hkm bw hbel
          have HDX : Hid (((builtN ts 60).right = !(builtT ts).anyB) ∧ (builtN ts 60).deep = (builtT ts).dep) := ⟨HFX.out.2.2.1, HFX.out.2.2.2⟩
          have HDY : Hid (((builtN ts' 60).right = !(builtT ts').anyB) ∧ (builtN ts' 60).deep = (builtT ts').dep) := ⟨HFY.out.2.2.1, HFY.out.2.2.2⟩
          generalize (builtN ts 60).right = R1 at HDX ⊢
          generalize (builtN ts' 60).right = R2 at HDY ⊢
          generalize (builtN ts 60).deep = D1 at HDX ⊢
          generalize (builtN ts' 60).deep = D2 at HDY ⊢
          cases R1
          · go_wp2_with fail
            refine (known_walk B _ (Tab.at_ HT.out HE.out.bel).1 (Tab.at_ HT.out HE.out.bel).2).mono ?_
            rintro e w4 ⟨rfl, hb4⟩
            have H4 := Lib.hid hb4
            clear hb4
            go_wp2_with fail
            go_ret
            exact ⟨rfl, (HE.out.on H4.out).bel⟩
          · cases R2
            · go_wp2_with fail
              refine (known_walk B _ (Tab.at_ HT.out HE.out.bel).1 (Tab.at_ HT.out HE.out.bel).2).mono ?_
              rintro e w4 ⟨rfl, hb4⟩
              have H4 := Lib.hid hb4
              clear hb4
              go_wp2_with fail
              go_ret
              exact ⟨rfl, (HE.out.on H4.out).bel⟩
            · rcases Nat.lt_or_ge 8 D1 with hd1 | hd1
              · have hdi : (8 : Int) < (D1 : Int) := by omega
                go_wp2_with fail
                refine (known_walk B _ (Tab.at_ HT.out HE.out.bel).1 (Tab.at_ HT.out HE.out.bel).2).mono ?_
                rintro e w4 ⟨rfl, hb4⟩
                have H4 := Lib.hid hb4
                clear hb4
                go_wp2_with fail
                go_ret
                exact ⟨rfl, (HE.out.on H4.out).bel⟩
              · have hdi : ¬ (8 : Int) < (D1 : Int) := by omega
                rcases Nat.lt_or_ge 8 D2 with hd2 | hd2
                · have hdj : (8 : Int) < (D2 : Int) := by omega
                  go_wp2_with fail
                  refine (known_walk B _ (Tab.at_ HT.out HE.out.bel).1 (Tab.at_ HT.out HE.out.bel).2).mono ?_
                  rintro e w4 ⟨rfl, hb4⟩
                  have H4 := Lib.hid hb4
                  clear hb4
                  go_wp2_with fail
                  go_ret
                  exact ⟨rfl, (HE.out.on H4.out).bel⟩
                · have hdj : ¬ (8 : Int) < (D2 : Int) := by omega
                  have HXA : Hid ((builtT ts).anyB = false ∧ (builtT ts).dep ≤ 8) := ⟨by have := HDX.1; simpa using this, by have := HDX.2; omega⟩
                  have HYA : Hid ((builtT ts').anyB = false ∧ (builtT ts').dep ≤ 8) := ⟨by have := HDY.1; simpa using this, by have := HDY.2; omega⟩
                  go_wp2_with fail
                  refine (same_any _ s (Nat.lt_succ_self _) HS.out.1 s wr _ _ _ _ HS.out.1 HS.out.2.1 HS.out.2.2).mono ?_
                  rw [(T.sameB_iff s s).2 rfl]
                  rintro e w4 ⟨rfl, hb4⟩
                  have HE4 := Lib.hid (HE.out.on hb4)
                  clear e0 e1 e2 e3 v0 v1 v2 v3 hb4
                  obtain ⟨⟨e0, e1, e2, e3⟩, v0, v1, v2, v3⟩ := HE4.out.cells
                  go_wp2_with fail
                  refine (encode_right _ HFX.out.1 HFX.out.2.1 HXA.out.1 HXA.out.2 B _ _ _ (Tab.at_ HT.out HE4.out.bel).1 (Tab.at_ HT.out HE4.out.bel).2 HE4.out.i1).mono ?_
                  rintro e w5 ⟨Ae, ce, rfl, ho5, hb5⟩
                  have HE5 := Lib.hid (HE4.out.on hb5)
                  have HO5 := Lib.hid ho5
                  clear e0 e1 e2 e3 v0 v1 v2 v3 hb5 ho5
                  obtain ⟨⟨e0, e1, e2, e3⟩, v0, v1, v2, v3⟩ := HE5.out.cells
                  go_wp2_with fail
                  refine (encode_right _ HFY.out.1 HFY.out.2.1 HYA.out.1 HYA.out.2 B _ _ _ (Tab.at_ HT.out HE5.out.bel).1 (Tab.at_ HT.out HE5.out.bel).2 HE5.out.i2).mono ?_
                  rintro e w6 ⟨Af, cf, rfl, ho6, hb6⟩
                  have HE6 := Lib.hid (HE5.out.on hb6)
                  have HO6 := Lib.hid (And.intro (HO5.out.below hb6) ho6)
                  clear e0 e1 e2 e3 v0 v1 v2 v3 hb6 ho6
                  go_wp2_with fail
                  refine (known_walk B _ (Tab.at_ HT.out HE6.out.bel).1 (Tab.at_ HT.out HE6.out.bel).2).mono ?_
                  rintro e w7 ⟨rfl, hb7⟩
                  have HE7 := Lib.hid (HE6.out.on hb7)
                  have HO7 := Lib.hid (And.intro (HO6.out.1.below hb7) (HO6.out.2.below hb7))
                  clear hb7
                  obtain ⟨⟨e0, e1, e2, e3⟩, v0, v1, v2, v3⟩ := HE7.out.cells
                  obtain ⟨D, hD⟩ : ∃ D, (builtT ts).sameB (builtT ts') = D := ⟨_, rfl⟩
                  have hD2 : decide ((builtT ts).enc = (builtT ts').enc) = D := by
                    rw [← hD, Bool.eq_iff_iff, decide_eq_true_eq, T.sameB_iff, enc_same HFX.out.1 HFY.out.1 HXA.out.1 HYA.out.1]
                  have HD := Lib.hid (And.intro hD hD2)
                  clear hD hD2
                  cases D
                  all_goals
                    go_wp2_with fail
                    refine (same_any _ _ (Nat.lt_succ_self _) HFX.out.1 _ _ _ _ _ _ HFY.out.1 HE7.out.i1 HE7.out.i2).mono ?_
                    rw [HD.out.1]
                    rintro e w8 ⟨rfl, hb8⟩
                    have HE8 := Lib.hid (HE7.out.on hb8)
                    have HO8 := Lib.hid (And.intro (HO7.out.1.below hb8) (HO7.out.2.below hb8))
                    clear hb8
                    go_wp2_with fail
                    refine (ref_same _ _ _ _ _ _ _ _ _ _ _ HO8.out.1 HO8.out.2).mono ?_
                    rw [HD.out.2]
                    rintro e w9 ⟨rfl, hb9⟩
                    have HE9 := Lib.hid (HE8.out.on hb9)
                    clear hb9
                    go_wp2_with fail
                    go_ret
                    exact ⟨rfl, HE9.out.bel⟩
        · rw [hgo] at hgo'
          cases hgo'
      · have hgo := hno rfl
        rcases H3.out.2.2.2.2.2 with ⟨rfl, s', hgo', _⟩ | ⟨rfl, _⟩
        · rw [hgo] at hgo'
          cases hgo'
        · have HE := Lib.hid hkp
          clear hkp hz1 hz2 hz3 hY hgo hyes hno hkm bw hbel
          by_cases hlm : (k : Int) < (m : Int)
          all_goals
            have HDX : Hid (((builtN ts 60).right = !(builtT ts).anyB) ∧ (builtN ts 60).deep = (builtT ts).dep) := ⟨HFX.out.2.2.1, HFX.out.2.2.2⟩
            have HDY : Hid (((builtN ts' 60).right = !(builtT ts').anyB) ∧ (builtN ts' 60).deep = (builtT ts').dep) := ⟨HFY.out.2.2.1, HFY.out.2.2.2⟩
            generalize (builtN ts 60).right = R1 at HDX ⊢
            generalize (builtN ts' 60).right = R2 at HDY ⊢
            generalize (builtN ts 60).deep = D1 at HDX ⊢
            generalize (builtN ts' 60).deep = D2 at HDY ⊢
            cases R1
            · go_wp2_with fail
              refine (known_walk B _ (Tab.at_ HT.out HE.out.bel).1 (Tab.at_ HT.out HE.out.bel).2).mono ?_
              rintro e w4 ⟨rfl, hb4⟩
              have H4 := Lib.hid hb4
              clear hb4
              go_wp2_with fail
              go_ret
              exact ⟨rfl, (HE.out.on H4.out).bel⟩
            · cases R2
              · go_wp2_with fail
                refine (known_walk B _ (Tab.at_ HT.out HE.out.bel).1 (Tab.at_ HT.out HE.out.bel).2).mono ?_
                rintro e w4 ⟨rfl, hb4⟩
                have H4 := Lib.hid hb4
                clear hb4
                go_wp2_with fail
                go_ret
                exact ⟨rfl, (HE.out.on H4.out).bel⟩
              · rcases Nat.lt_or_ge 8 D1 with hd1 | hd1
                · have hdi : (8 : Int) < (D1 : Int) := by omega
                  go_wp2_with fail
                  refine (known_walk B _ (Tab.at_ HT.out HE.out.bel).1 (Tab.at_ HT.out HE.out.bel).2).mono ?_
                  rintro e w4 ⟨rfl, hb4⟩
                  have H4 := Lib.hid hb4
                  clear hb4
                  go_wp2_with fail
                  go_ret
                  exact ⟨rfl, (HE.out.on H4.out).bel⟩
                · have hdi : ¬ (8 : Int) < (D1 : Int) := by omega
                  rcases Nat.lt_or_ge 8 D2 with hd2 | hd2
                  · have hdj : (8 : Int) < (D2 : Int) := by omega
                    go_wp2_with fail
                    refine (known_walk B _ (Tab.at_ HT.out HE.out.bel).1 (Tab.at_ HT.out HE.out.bel).2).mono ?_
                    rintro e w4 ⟨rfl, hb4⟩
                    have H4 := Lib.hid hb4
                    clear hb4
                    go_wp2_with fail
                    go_ret
                    exact ⟨rfl, (HE.out.on H4.out).bel⟩
                  · have hdj : ¬ (8 : Int) < (D2 : Int) := by omega
                    have HXA : Hid ((builtT ts).anyB = false ∧ (builtT ts).dep ≤ 8) := ⟨by have := HDX.1; simpa using this, by have := HDX.2; omega⟩
                    have HYA : Hid ((builtT ts').anyB = false ∧ (builtT ts').dep ≤ 8) := ⟨by have := HDY.1; simpa using this, by have := HDY.2; omega⟩
                    have HE4 := HE
                    go_wp2_with fail
                    refine (encode_right _ HFX.out.1 HFX.out.2.1 HXA.out.1 HXA.out.2 B _ _ _ (Tab.at_ HT.out HE4.out.bel).1 (Tab.at_ HT.out HE4.out.bel).2 HE4.out.i1).mono ?_
                    rintro e w5 ⟨Ae, ce, rfl, ho5, hb5⟩
                    have HE5 := Lib.hid (HE4.out.on hb5)
                    have HO5 := Lib.hid ho5
                    clear e0 e1 e2 e3 v0 v1 v2 v3 hb5 ho5
                    obtain ⟨⟨e0, e1, e2, e3⟩, v0, v1, v2, v3⟩ := HE5.out.cells
                    go_wp2_with fail
                    refine (encode_right _ HFY.out.1 HFY.out.2.1 HYA.out.1 HYA.out.2 B _ _ _ (Tab.at_ HT.out HE5.out.bel).1 (Tab.at_ HT.out HE5.out.bel).2 HE5.out.i2).mono ?_
                    rintro e w6 ⟨Af, cf, rfl, ho6, hb6⟩
                    have HE6 := Lib.hid (HE5.out.on hb6)
                    have HO6 := Lib.hid (And.intro (HO5.out.below hb6) ho6)
                    clear e0 e1 e2 e3 v0 v1 v2 v3 hb6 ho6
                    go_wp2_with fail
                    refine (known_walk B _ (Tab.at_ HT.out HE6.out.bel).1 (Tab.at_ HT.out HE6.out.bel).2).mono ?_
                    rintro e w7 ⟨rfl, hb7⟩
                    have HE7 := Lib.hid (HE6.out.on hb7)
                    have HO7 := Lib.hid (And.intro (HO6.out.1.below hb7) (HO6.out.2.below hb7))
                    clear hb7
                    obtain ⟨⟨e0, e1, e2, e3⟩, v0, v1, v2, v3⟩ := HE7.out.cells
                    obtain ⟨D, hD⟩ : ∃ D, (builtT ts).sameB (builtT ts') = D := ⟨_, rfl⟩
                    have hD2 : decide ((builtT ts).enc = (builtT ts').enc) = D := by
                      rw [← hD, Bool.eq_iff_iff, decide_eq_true_eq, T.sameB_iff, enc_same HFX.out.1 HFY.out.1 HXA.out.1 HYA.out.1]
                    have HD := Lib.hid (And.intro hD hD2)
                    clear hD hD2
                    cases D
                    all_goals
                      go_wp2_with fail
                      refine (same_any _ _ (Nat.lt_succ_self _) HFX.out.1 _ _ _ _ _ _ HFY.out.1 HE7.out.i1 HE7.out.i2).mono ?_
                      rw [HD.out.1]
                      rintro e w8 ⟨rfl, hb8⟩
                      have HE8 := Lib.hid (HE7.out.on hb8)
                      have HO8 := Lib.hid (And.intro (HO7.out.1.below hb8) (HO7.out.2.below hb8))
                      clear hb8
                      go_wp2_with fail
                      refine (ref_same _ _ _ _ _ _ _ _ _ _ _ HO8.out.1 HO8.out.2).mono ?_
                      rw [HD.out.2]
                      rintro e w9 ⟨rfl, hb9⟩
                      have HE9 := Lib.hid (HE8.out.on hb9)
                      clear hb9
                      go_wp2_with fail
                      go_ret
                      exact ⟨rfl, HE9.out.bel⟩

end Go.Proofs.YtodpojbgkeecnaaDoor
