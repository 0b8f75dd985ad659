/-
  Why an entry is refused, as the document tells it, walked. Conditions: the entry and those ahead of it lie in memory.
-/
import Derived.Test.YtdnaiiagblcohaaGreatDoorM26
import Derived.Test.YtdnaiiagblcohaaGreatDoorM16
import Derived.Test.YtdnaiiagblcohaaGreatDoorM8
import Derived.Test.YtdnaiiagblcohaaGreatDoorM17
import Derived.Test.YtdnaiiagblcohaaGreatDoorM6
section
set_option linter.unusedSimpArgs false
set_option linter.unusedVariables false
set_option maxRecDepth 100000
namespace Go.Proofs.YtdnaiiagblcohaaGreatDoor
open Go.RowKit

theorem build_rst (W : World) (k m : Int) : (Instr.build 150 #[(0, .int .i64 k), (1, .int .i64 m)]).run Tryz.prog W = .ok (stv k m 0 0) W := by kernel_rfl
set_option maxHeartbeats 8000000 in
theorem refused_any (w : World) (x : Ev) (e : En) (hx : EvOk w x e) (A : Option Addr) (n c : Nat) (xs : List Ev) (es : List En) (h : EIn w A n c xs es) :
    Calls Tryz.prog 42 #[evV x, .slice A n c] w fun en w' => en = .returned (.int .i64 (refE e es false)) ∧ Below w.heap.size w w' := by
  have hb := pnew w (.cells (evC x).toArray 90)
  have HK := Lib.hid (Blk.new w 90 (evC x))
  have HX := Lib.hid (And.intro (hx.below hb) (And.intro (h.below hb) hb))
  have hsm := hx.small
  have hpl := hx.path.len
  have hdl := hx.data.len
  have hkd := hx.kind
  have hmd := hx.mode
  clear hx h hb
  obtain ⟨PA, pn, pc, k, m, DA, dn, dc⟩ := x
  have hpcap : pn ≤ pc := HX.out.1.path.cap
  have hpbig : pc ≤ 9223372036854775807 := HX.out.1.path.big
  have hdcap : dn ≤ dc := HX.out.1.data.cap
  have hdbig : dc ≤ 9223372036854775807 := HX.out.1.data.big
  have HQ := Lib.hid (And.intro hsm (And.intro hpl (And.intro hdl (And.intro hkd hmd))))
  have hncap : n ≤ c := HX.out.2.1.cap
  have hnbig : c ≤ 9223372036854775807 := HX.out.2.1.big
  clear hsm hpl hdl hkd hmd
  obtain ⟨y0, y1, y2, y3⟩ := four_ev HK.out
  go_enter Tryz.func42, Tryz.ntmps42
  go_wp2_with fail
  obtain ⟨w1, hw1⟩ : ∃ w1, w1 = w.alloc (.cells (evC ⟨PA, pn, pc, k, m, DA, dn, dc⟩).toArray 90) := ⟨_, rfl⟩
  rw [← hw1] at HK HX y0 y1 y2 y3
  have HW1 := Lib.hid hw1
  clear hw1
  rw [show w.alloc (.cells #[.slice PA pn pc, .int .i64 k, .int .i64 m, .slice DA dn dc] 90) = w1 from HW1.out.symm]
  refine (rright_any w1 PA pn pc e.path HX.out.1.path).mono ?_
  rintro en w2 ⟨rfl, h2⟩
  have H2 := Lib.hid (And.intro (HK.out.below h2 HK.out.lt) h2)
  obtain ⟨y0, y1, y2, y3⟩ := four_ev H2.out.1
  clear h2
  have HP := Lib.hid (pathless_is e.path)
  cases hr : rightB e.path with
  | false =>
    have HR : Hid (refE e es false = errE 0) := Lib.hid (ref_found (by omega) (fun j hj => by
      match j, hj with
      | j + 0, hj => omega) (by show pathlessE e.path = true; rw [HP.out, hr]; rfl))
    clear hr
    go_wp2_with fail
    go_ret
    exact ⟨pret_num (by rw [HR.out]; rfl), HX.out.2.2.trans (H2.out.2.mono HX.out.2.2.size)⟩
  | true =>
    by_cases h0 : pn = 0
    · have HR : Hid (refE e es false = errE 0) := Lib.hid (ref_found (by omega) (fun j hj => by
        match j, hj with
        | j + 0, hj => omega) (by show pathlessE e.path = true; rw [HP.out, hr, HQ.out.2.1, h0]; rfl))
      subst h0
      clear hr
      go_wp2_with fail
      go_ret
      exact ⟨pret_num (by rw [HR.out]; rfl), HX.out.2.2.trans (H2.out.2.mono HX.out.2.2.size)⟩
    · obtain ⟨q, rfl⟩ : ∃ q, pn = q + 1 := ⟨pn - 1, by omega⟩
      have b0 : ¬ ((q + 1 : Nat) : Int) = 0 := by omega
      have b1 : (0 : Int) ≤ (q : Int) := by omega
      have b2 : (q : Int) ≤ ((q + 1 : Nat) : Int) := by omega
      have b3 : (q : Int) ≤ (pc : Int) := by omega
      go_wp2_with fail
      refine (rptext_any w2 PA (q + 1) pc e.path (HX.out.1.path.below H2.out.2) HQ.out.1.text).mono ?_
      rintro en w3 ⟨rfl, h3⟩
      have hb3 := H2.out.2.trans (h3.mono H2.out.2.size)
      have H3 := Lib.hid (And.intro (HK.out.below hb3 HK.out.lt) hb3)
      obtain ⟨y0, y1, y2, y3⟩ := four_ev H3.out.1
      clear h3 hb3
      obtain ⟨T, hT⟩ : ∃ T, T = textP e.path := ⟨_, rfl⟩
      rw [← hT]
      rw [← hT] at HP
      clear hT
      by_cases hs : 160 < T.size
      · have HR : Hid (refE e es false = errE 0) := Lib.hid (ref_found (by omega) (fun j hj => by
          match j, hj with
          | j + 0, hj => omega) (by show pathlessE e.path = true; rw [HP.out, hr, decide_eq_true hs]; simp))
        clear hr
        have hs' : (160 : Int) < (T.size : Int) := by omega
        have hs2 : decide ((160 : Int) < (T.size : Int)) = true := decide_eq_true (by omega)
        go_wp2_with fail
        go_ret
        exact ⟨pret_num (by rw [HR.out]; rfl), HX.out.2.2.trans (H3.out.2.mono HX.out.2.2.size)⟩
      · have F0 : Hid (failE e es false 0 = false) := Lib.hid (by
          show pathlessE e.path = false
          rw [HP.out, hr, decide_eq_false (by rw [HQ.out.2.1]; exact h0), decide_eq_false hs]
          rfl)
        have hs' : ((160 : Int) < (T.size : Int)) = False := eq_false (by omega)
        have hs2 : decide ((160 : Int) < (T.size : Int)) = false := decide_eq_false (by omega)
        have HRT := Lib.hid hr
        clear hr
        by_cases hk : k < 0 ∨ 2 < k
        · have HR : Hid (refE e es false = errE 1) := Lib.hid (ref_found (by omega) (fun j hj => by
            match j, hj with
            | 0, _ => exact F0.out
            | j + 1, hj => omega) (by
              show kindlessE e.kind = true
              unfold kindlessE
              rw [HQ.out.2.2.2.1]
              show (!(decide (k = 0) || decide (k = 1) || decide (k = 2))) = true
              rw [decide_eq_false (by omega), decide_eq_false (by omega), decide_eq_false (by omega)]
              rfl))
          rcases hk with hk | hk
          · have hk4 : decide (k < 0) = true := decide_eq_true hk
            go_wp2_with fail
            go_ret
            exact ⟨pret_num (by rw [HR.out]; rfl), HX.out.2.2.trans (H3.out.2.mono HX.out.2.2.size)⟩
          · have hk0 : (k < 0) = False := eq_false (by omega)
            have hk3 : decide (k < 0) = false := decide_eq_false (by omega)
            have hk4 : decide (2 < k) = true := decide_eq_true hk
            go_wp2_with fail
            go_ret
            exact ⟨pret_num (by rw [HR.out]; rfl), HX.out.2.2.trans (H3.out.2.mono HX.out.2.2.size)⟩
        · have F1 : Hid (failE e es false 1 = false) := Lib.hid (by
            show kindlessE e.kind = false
            unfold kindlessE
            rw [HQ.out.2.2.2.1]
            show (!(decide (k = 0) || decide (k = 1) || decide (k = 2))) = false
            have : k = 0 ∨ k = 1 ∨ k = 2 := by omega
            rcases this with h | h | h <;> simp [h])
          have hk1 : (k < 0) = False := eq_false (by omega)
          have hk2 : (2 < k) = False := eq_false (by omega)
          have hk3 : decide (k < 0) = false := decide_eq_false (by omega)
          have hk4 : decide (2 < k) = false := decide_eq_false (by omega)
          have hbs := build_rst
          clear hk
          go_wp2_with fail
          refine (rrefusal_any w3 k m 0 0).mono ?_
          rintro en w4 ⟨rfl, h4⟩
          have hb4 := H3.out.2.trans (h4.mono H3.out.2.size)
          have H4 := Lib.hid (And.intro (HK.out.below hb4 HK.out.lt) hb4)
          obtain ⟨y0, y1, y2, y3⟩ := four_ev H4.out.1
          clear h4 hb4 hbs
          have hmo : riskyE e.kind e.mode = !(decide (refuse k m 0 0 = 0)) := by
            unfold riskyE
            rw [HQ.out.2.2.2.1, HQ.out.2.2.2.2]
          obtain ⟨rf, hrf⟩ : ∃ rf, rf = refuse k m 0 0 := ⟨_, rfl⟩
          rw [← hrf] at hmo ⊢
          have HMO := Lib.hid hmo
          clear hmo hrf
          by_cases hm0 : rf = 0
          · have F2 : Hid (failE e es false 2 = false) := Lib.hid (by
              show riskyE e.kind e.mode = false
              rw [HMO.out, decide_eq_true hm0]
              rfl)
            subst hm0
            have h3 : k = 0 ∨ k = 1 ∨ k = 2 := by
              have e1 : ¬ k < 0 := by rw [hk1]; exact id
              have e2 : ¬ 2 < k := by rw [hk2]; exact id
              omega
            clear hk1 hk2 hk3 hk4
            rcases h3 with rfl | rfl | rfl
            · have F3 : Hid (failE e es false 3 = false) := Lib.hid (by show filledE e.kind e.data = false; unfold filledE; rw [HQ.out.2.2.2.1]; rfl)
              have F5 : Hid (failE e es false 5 = false) := Lib.hid (by show leadsE e.path e.kind e.data = false; unfold leadsE; rw [HQ.out.2.2.2.1]; rfl)
              by_cases hlg : 512 < dn
              · have HR : Hid (refE e es false = errE 4) := Lib.hid (ref_found (by omega) (fun j hj => by
                  match j, hj with
                  | 0, _ => exact F0.out
                  | 1, _ => exact F1.out
                  | 2, _ => exact F2.out
                  | 3, _ => exact F3.out
                  | j + 4, hj => omega) (by show decide (512 < e.data.length) = true; rw [HQ.out.2.2.1]; exact decide_eq_true hlg))
                have d1 : (512 : Int) < (dn : Int) := by omega
                have d2 : decide ((512 : Int) < (dn : Int)) = true := decide_eq_true d1
                go_wp2_with fail
                go_ret
                exact ⟨pret_num (by rw [HR.out]; rfl), HX.out.2.2.trans (H4.out.2.mono HX.out.2.2.size)⟩
              · have F4 : Hid (failE e es false 4 = false) := Lib.hid (by show decide (512 < e.data.length) = false; rw [HQ.out.2.2.1]; exact decide_eq_false hlg)
                have d1 : ((512 : Int) < (dn : Int)) = False := eq_false (by omega)
                have d2 : decide ((512 : Int) < (dn : Int)) = false := decide_eq_false (by omega)
                go_wp2_with fail
                refine (rfind12_any w4 A n c xs es (HX.out.2.1.below H4.out.2) PA (q + 1) pc e.path (HX.out.1.path.below H4.out.2)).mono ?_
                rintro en w7 ⟨rfl, h7⟩
                have hb7 := H4.out.2.trans (h7.mono H4.out.2.size)
                have H7 := Lib.hid (And.intro (HK.out.below hb7 HK.out.lt) hb7)
                obtain ⟨y0, y1, y2, y3⟩ := four_ev H7.out.1
                clear h7 hb7
                have HA := Lib.hid (show twiceE es e.path = (atE es e.path).isSome from rfl)
                cases ha : atE es e.path with
                | some ii =>
                  have HR : Hid (refE e es false = errE 6) := Lib.hid (ref_found (by omega) (fun j hj => by
                    match j, hj with
                    | 0, _ => exact F0.out
                    | 1, _ => exact F1.out
                    | 2, _ => exact F2.out
                    | 3, _ => exact F3.out
                    | 4, _ => exact F4.out
                    | 5, _ => exact F5.out
                    | j + 6, hj => omega) (by show twiceE es e.path = true; rw [HA.out, ha]; rfl))
                  have c0 : (0 : Int) ≤ (ii : Int) := by omega
                  clear ha
                  unfold plN
                  go_wp2_with fail
                  go_ret
                  exact ⟨pret_num (by rw [HR.out]; rfl), HX.out.2.2.trans (H7.out.2.mono HX.out.2.2.size)⟩
                | none =>
                  have F6 : Hid (failE e es false 6 = false) := Lib.hid (by show twiceE es e.path = false; rw [HA.out, ha]; rfl)
                  clear ha
                  unfold plN
                  have HH : Hid (homeP e.path = e.path.take q) := Lib.hid (by
                    unfold homeP
                    rw [if_neg (by rw [HRT.out, HQ.out.2.1]; simp), HQ.out.2.1]
                    rfl)
                  have HHL : Hid ((homeP e.path).length = q) := Lib.hid (by rw [HH.out, List.length_take, HQ.out.2.1]; omega)
                  by_cases hq0 : q = 0
                  · have F7 : Hid (failE e es false 7 = false) := Lib.hid (by
                      show nowhereE es e.path = false
                      unfold nowhereE
                      rw [if_pos (by rw [HHL.out]; exact hq0)])
                    subst hq0
                    have HR : Hid (refE e es false = 0) := Lib.hid (ref_none (fun j hj => by
                      match j, hj with
                      | 0, _ => exact F0.out
                      | 1, _ => exact F1.out
                      | 2, _ => exact F2.out
                      | 3, _ => exact F3.out
                      | 4, _ => exact F4.out
                      | 5, _ => exact F5.out
                      | 6, _ => exact F6.out
                      | 7, _ => exact F7.out
                      | 8, _ => rfl
                      | j + 9, hj => omega))
                    go_wp2_with fail
                    go_ret
                    exact ⟨pret_num (by rw [HR.out]), HX.out.2.2.trans (H7.out.2.mono HX.out.2.2.size)⟩
                  · have c1 : (0 : Int) < (q : Int) := by omega
                    have HS := Lib.hid (HX.out.1.path.take (k := q) (c' := pc) (show q ≤ q + 1 by omega) (show q ≤ pc by omega) (Nat.le_refl _))
                    rw [← HH.out] at HS
                    go_wp2_with fail
                    refine (rfind12_any w7 A n c xs es (HX.out.2.1.below H7.out.2) PA q pc (homeP e.path) (HS.out.below H7.out.2)).mono ?_
                    rintro en w8 ⟨rfl, h8⟩
                    have hb8 := H7.out.2.trans (h8.mono H7.out.2.size)
                    have H8 := Lib.hid (And.intro (HK.out.below hb8 HK.out.lt) hb8)
                    obtain ⟨y0, y1, y2, y3⟩ := four_ev H8.out.1
                    clear h8 hb8
                    have HN : Hid (nowhereE es e.path = nowAt es (atE es (homeP e.path))) := Lib.hid (by
                      unfold nowhereE
                      rw [if_neg (by rw [HHL.out]; exact hq0)])
                    cases hh : atE es (homeP e.path) with
                    | none =>
                      have HR : Hid (refE e es false = errE 7) := Lib.hid (ref_found (by omega) (fun j hj => by
                        match j, hj with
                        | 0, _ => exact F0.out
                        | 1, _ => exact F1.out
                        | 2, _ => exact F2.out
                        | 3, _ => exact F3.out
                        | 4, _ => exact F4.out
                        | 5, _ => exact F5.out
                        | 6, _ => exact F6.out
                        | j + 7, hj => omega) (by show nowhereE es e.path = true; rw [HN.out, hh]; rfl))
                      clear hh
                      unfold plN
                      go_wp2_with fail
                      go_ret
                      exact ⟨pret_num (by rw [HR.out]; rfl), HX.out.2.2.trans (H8.out.2.mono HX.out.2.2.size)⟩
                    | some ii =>
                      obtain ⟨en, hen, _⟩ := ate_lt es _ ii hh
                      have hii : ii < n := by rw [← HX.out.2.1.elen]; exact (List.getElem?_eq_some_iff.1 hen).1
                      have hfx := rfind12_any w8 A n c xs es (HX.out.2.1.below H8.out.2) PA q pc (homeP e.path) (HS.out.below H8.out.2)
                      rw [hh] at hfx
                      have HFX := Lib.hid hfx
                      have HNI : Hid (nowhereE es e.path = !(decide (en.kind = 1))) := Lib.hid (by rw [HN.out, hh]; exact nowAt_some hen)
                      clear hh hfx
                      have c2 : ¬ (ii : Int) < 0 := by omega
                      have c3 : ((ii : Int) < 0) = False := eq_false (by omega)
                      have c4 : (0 : Int) ≤ (ii : Int) := by omega
                      have c5 : (ii : Int) < (n : Int) := by omega
                      unfold plN
                      go_wp2_with fail
                      refine HFX.out.mono ?_
                      rintro en9 w9 ⟨rfl, h9⟩
                      have hb9 := H8.out.2.trans (h9.mono H8.out.2.size)
                      have H9 := Lib.hid (And.intro (HK.out.below hb9 HK.out.lt) hb9)
                      obtain ⟨g, o, xi, ei, rfl, hg, hxi, hei, hoi, hcl⟩ := (HX.out.2.1.below hb9).row hii
                      have z1 : w9.cell? ⟨g, o + ii * 4 + 1, none⟩ = some (.int .i64 xi.k) := hcl 1 _ rfl
                      have HEI : Hid (en.kind = xi.k) := Lib.hid (by
                        rw [hei] at hen
                        cases hen
                        exact hoi.kind)
                      clear h9 hb9 hg hxi hei hoi hcl hen HFX
                      unfold plN
                      by_cases hk1 : xi.k = 1
                      · have F7 : Hid (failE e es false 7 = false) := Lib.hid (by show nowhereE es e.path = false; rw [HNI.out, HEI.out, hk1]; rfl)
                        rw [hk1] at z1
                        have HR : Hid (refE e es false = 0) := Lib.hid (ref_none (fun j hj => by
                          match j, hj with
                          | 0, _ => exact F0.out
                          | 1, _ => exact F1.out
                          | 2, _ => exact F2.out
                          | 3, _ => exact F3.out
                          | 4, _ => exact F4.out
                          | 5, _ => exact F5.out
                          | 6, _ => exact F6.out
                          | 7, _ => exact F7.out
                          | 8, _ => rfl
                          | j + 9, hj => omega))
                        go_wp2_with fail
                        go_ret
                        exact ⟨pret_num (by rw [HR.out]), HX.out.2.2.trans (H9.out.2.mono HX.out.2.2.size)⟩
                      · have HR : Hid (refE e es false = errE 7) := Lib.hid (ref_found (by omega) (fun j hj => by
                          match j, hj with
                          | 0, _ => exact F0.out
                          | 1, _ => exact F1.out
                          | 2, _ => exact F2.out
                          | 3, _ => exact F3.out
                          | 4, _ => exact F4.out
                          | 5, _ => exact F5.out
                          | 6, _ => exact F6.out
                          | j + 7, hj => omega) (by show nowhereE es e.path = true; rw [HNI.out, HEI.out, decide_eq_false hk1]; rfl))
                        have c6 : (xi.k == 1) = false := by simpa using hk1
                        go_wp2_with fail
                        go_ret
                        exact ⟨pret_num (by rw [HR.out]; rfl), HX.out.2.2.trans (H9.out.2.mono HX.out.2.2.size)⟩
            · by_cases hdz : dn = 0
              · have F3 : Hid (failE e es false 3 = false) := Lib.hid (by show filledE e.kind e.data = false; unfold filledE; rw [HQ.out.2.2.1, hdz]; simp)
                have F4 : Hid (failE e es false 4 = false) := Lib.hid (by show decide (512 < e.data.length) = false; rw [HQ.out.2.2.1, hdz]; rfl)
                have F5 : Hid (failE e es false 5 = false) := Lib.hid (by show leadsE e.path e.kind e.data = false; unfold leadsE; rw [HQ.out.2.2.2.1]; rfl)
                subst hdz
                go_wp2_with fail
                refine (rfind12_any w4 A n c xs es (HX.out.2.1.below H4.out.2) PA (q + 1) pc e.path (HX.out.1.path.below H4.out.2)).mono ?_
                rintro en w7 ⟨rfl, h7⟩
                have hb7 := H4.out.2.trans (h7.mono H4.out.2.size)
                have H7 := Lib.hid (And.intro (HK.out.below hb7 HK.out.lt) hb7)
                obtain ⟨y0, y1, y2, y3⟩ := four_ev H7.out.1
                clear h7 hb7
                have HA := Lib.hid (show twiceE es e.path = (atE es e.path).isSome from rfl)
                cases ha : atE es e.path with
                | some ii =>
                  have HR : Hid (refE e es false = errE 6) := Lib.hid (ref_found (by omega) (fun j hj => by
                    match j, hj with
                    | 0, _ => exact F0.out
                    | 1, _ => exact F1.out
                    | 2, _ => exact F2.out
                    | 3, _ => exact F3.out
                    | 4, _ => exact F4.out
                    | 5, _ => exact F5.out
                    | j + 6, hj => omega) (by show twiceE es e.path = true; rw [HA.out, ha]; rfl))
                  have c0 : (0 : Int) ≤ (ii : Int) := by omega
                  clear ha
                  unfold plN
                  go_wp2_with fail
                  go_ret
                  exact ⟨pret_num (by rw [HR.out]; rfl), HX.out.2.2.trans (H7.out.2.mono HX.out.2.2.size)⟩
                | none =>
                  have F6 : Hid (failE e es false 6 = false) := Lib.hid (by show twiceE es e.path = false; rw [HA.out, ha]; rfl)
                  clear ha
                  unfold plN
                  have HH : Hid (homeP e.path = e.path.take q) := Lib.hid (by
                    unfold homeP
                    rw [if_neg (by rw [HRT.out, HQ.out.2.1]; simp), HQ.out.2.1]
                    rfl)
                  have HHL : Hid ((homeP e.path).length = q) := Lib.hid (by rw [HH.out, List.length_take, HQ.out.2.1]; omega)
                  by_cases hq0 : q = 0
                  · have F7 : Hid (failE e es false 7 = false) := Lib.hid (by
                      show nowhereE es e.path = false
                      unfold nowhereE
                      rw [if_pos (by rw [HHL.out]; exact hq0)])
                    subst hq0
                    have HR : Hid (refE e es false = 0) := Lib.hid (ref_none (fun j hj => by
                      match j, hj with
                      | 0, _ => exact F0.out
                      | 1, _ => exact F1.out
                      | 2, _ => exact F2.out
                      | 3, _ => exact F3.out
                      | 4, _ => exact F4.out
                      | 5, _ => exact F5.out
                      | 6, _ => exact F6.out
                      | 7, _ => exact F7.out
                      | 8, _ => rfl
                      | j + 9, hj => omega))
                    go_wp2_with fail
                    go_ret
                    exact ⟨pret_num (by rw [HR.out]), HX.out.2.2.trans (H7.out.2.mono HX.out.2.2.size)⟩
                  · have c1 : (0 : Int) < (q : Int) := by omega
                    have HS := Lib.hid (HX.out.1.path.take (k := q) (c' := pc) (show q ≤ q + 1 by omega) (show q ≤ pc by omega) (Nat.le_refl _))
                    rw [← HH.out] at HS
                    go_wp2_with fail
                    refine (rfind12_any w7 A n c xs es (HX.out.2.1.below H7.out.2) PA q pc (homeP e.path) (HS.out.below H7.out.2)).mono ?_
                    rintro en w8 ⟨rfl, h8⟩
                    have hb8 := H7.out.2.trans (h8.mono H7.out.2.size)
                    have H8 := Lib.hid (And.intro (HK.out.below hb8 HK.out.lt) hb8)
                    obtain ⟨y0, y1, y2, y3⟩ := four_ev H8.out.1
                    clear h8 hb8
                    have HN : Hid (nowhereE es e.path = nowAt es (atE es (homeP e.path))) := Lib.hid (by
                      unfold nowhereE
                      rw [if_neg (by rw [HHL.out]; exact hq0)])
                    cases hh : atE es (homeP e.path) with
                    | none =>
                      have HR : Hid (refE e es false = errE 7) := Lib.hid (ref_found (by omega) (fun j hj => by
                        match j, hj with
                        | 0, _ => exact F0.out
                        | 1, _ => exact F1.out
                        | 2, _ => exact F2.out
                        | 3, _ => exact F3.out
                        | 4, _ => exact F4.out
                        | 5, _ => exact F5.out
                        | 6, _ => exact F6.out
                        | j + 7, hj => omega) (by show nowhereE es e.path = true; rw [HN.out, hh]; rfl))
                      clear hh
                      unfold plN
                      go_wp2_with fail
                      go_ret
                      exact ⟨pret_num (by rw [HR.out]; rfl), HX.out.2.2.trans (H8.out.2.mono HX.out.2.2.size)⟩
                    | some ii =>
                      obtain ⟨en, hen, _⟩ := ate_lt es _ ii hh
                      have hii : ii < n := by rw [← HX.out.2.1.elen]; exact (List.getElem?_eq_some_iff.1 hen).1
                      have hfx := rfind12_any w8 A n c xs es (HX.out.2.1.below H8.out.2) PA q pc (homeP e.path) (HS.out.below H8.out.2)
                      rw [hh] at hfx
                      have HFX := Lib.hid hfx
                      have HNI : Hid (nowhereE es e.path = !(decide (en.kind = 1))) := Lib.hid (by rw [HN.out, hh]; exact nowAt_some hen)
                      clear hh hfx
                      have c2 : ¬ (ii : Int) < 0 := by omega
                      have c3 : ((ii : Int) < 0) = False := eq_false (by omega)
                      have c4 : (0 : Int) ≤ (ii : Int) := by omega
                      have c5 : (ii : Int) < (n : Int) := by omega
                      unfold plN
                      go_wp2_with fail
                      refine HFX.out.mono ?_
                      rintro en9 w9 ⟨rfl, h9⟩
                      have hb9 := H8.out.2.trans (h9.mono H8.out.2.size)
                      have H9 := Lib.hid (And.intro (HK.out.below hb9 HK.out.lt) hb9)
                      obtain ⟨g, o, xi, ei, rfl, hg, hxi, hei, hoi, hcl⟩ := (HX.out.2.1.below hb9).row hii
                      have z1 : w9.cell? ⟨g, o + ii * 4 + 1, none⟩ = some (.int .i64 xi.k) := hcl 1 _ rfl
                      have HEI : Hid (en.kind = xi.k) := Lib.hid (by
                        rw [hei] at hen
                        cases hen
                        exact hoi.kind)
                      clear h9 hb9 hg hxi hei hoi hcl hen HFX
                      unfold plN
                      by_cases hk1 : xi.k = 1
                      · have F7 : Hid (failE e es false 7 = false) := Lib.hid (by show nowhereE es e.path = false; rw [HNI.out, HEI.out, hk1]; rfl)
                        rw [hk1] at z1
                        have HR : Hid (refE e es false = 0) := Lib.hid (ref_none (fun j hj => by
                          match j, hj with
                          | 0, _ => exact F0.out
                          | 1, _ => exact F1.out
                          | 2, _ => exact F2.out
                          | 3, _ => exact F3.out
                          | 4, _ => exact F4.out
                          | 5, _ => exact F5.out
                          | 6, _ => exact F6.out
                          | 7, _ => exact F7.out
                          | 8, _ => rfl
                          | j + 9, hj => omega))
                        go_wp2_with fail
                        go_ret
                        exact ⟨pret_num (by rw [HR.out]), HX.out.2.2.trans (H9.out.2.mono HX.out.2.2.size)⟩
                      · have HR : Hid (refE e es false = errE 7) := Lib.hid (ref_found (by omega) (fun j hj => by
                          match j, hj with
                          | 0, _ => exact F0.out
                          | 1, _ => exact F1.out
                          | 2, _ => exact F2.out
                          | 3, _ => exact F3.out
                          | 4, _ => exact F4.out
                          | 5, _ => exact F5.out
                          | 6, _ => exact F6.out
                          | j + 7, hj => omega) (by show nowhereE es e.path = true; rw [HNI.out, HEI.out, decide_eq_false hk1]; rfl))
                        have c6 : (xi.k == 1) = false := by simpa using hk1
                        go_wp2_with fail
                        go_ret
                        exact ⟨pret_num (by rw [HR.out]; rfl), HX.out.2.2.trans (H9.out.2.mono HX.out.2.2.size)⟩
              · have HR : Hid (refE e es false = errE 3) := Lib.hid (ref_found (by omega) (fun j hj => by
                  match j, hj with
                  | 0, _ => exact F0.out
                  | 1, _ => exact F1.out
                  | 2, _ => exact F2.out
                  | j + 3, hj => omega) (by show filledE e.kind e.data = true; unfold filledE; rw [HQ.out.2.2.2.1, HQ.out.2.2.1, decide_eq_true (show 0 < dn by omega)]; rfl))
                have d3 : (0 : Int) < (dn : Int) := by omega
                have d4 : decide ((0 : Int) < (dn : Int)) = true := decide_eq_true d3
                go_wp2_with fail
                go_ret
                exact ⟨pret_num (by rw [HR.out]; rfl), HX.out.2.2.trans (H4.out.2.mono HX.out.2.2.size)⟩
            · have F3 : Hid (failE e es false 3 = false) := Lib.hid (by show filledE e.kind e.data = false; unfold filledE; rw [HQ.out.2.2.2.1]; rfl)
              by_cases hlg : 512 < dn
              · have HR : Hid (refE e es false = errE 4) := Lib.hid (ref_found (by omega) (fun j hj => by
                  match j, hj with
                  | 0, _ => exact F0.out
                  | 1, _ => exact F1.out
                  | 2, _ => exact F2.out
                  | 3, _ => exact F3.out
                  | j + 4, hj => omega) (by show decide (512 < e.data.length) = true; rw [HQ.out.2.2.1]; exact decide_eq_true hlg))
                have d1 : (512 : Int) < (dn : Int) := by omega
                have d2 : decide ((512 : Int) < (dn : Int)) = true := decide_eq_true d1
                go_wp2_with fail
                go_ret
                exact ⟨pret_num (by rw [HR.out]; rfl), HX.out.2.2.trans (H4.out.2.mono HX.out.2.2.size)⟩
              · have F4 : Hid (failE e es false 4 = false) := Lib.hid (by show decide (512 < e.data.length) = false; rw [HQ.out.2.2.1]; exact decide_eq_false hlg)
                have d1 : ((512 : Int) < (dn : Int)) = False := eq_false (by omega)
                have d2 : decide ((512 : Int) < (dn : Int)) = false := decide_eq_false (by omega)
                have HH5 : Hid (homeP e.path = e.path.take q) := Lib.hid (by
                  unfold homeP
                  rw [if_neg (by rw [HRT.out, HQ.out.2.1]; simp), HQ.out.2.1]
                  rfl)
                have HS5 := Lib.hid (HX.out.1.path.take (k := q) (c' := pc) (show q ≤ q + 1 by omega) (show q ≤ pc by omega) (Nat.le_refl _))
                rw [← HH5.out] at HS5
                have hcv := conv_txt (HX.out.1.data.below H4.out.2)
                go_wp2_with fail
                refine (rlead_any w4 PA q pc (homeP e.path) (HS5.out.below H4.out.2) (txtB e.data)).mono ?_
                rintro en w5 ⟨LA, l1, l2, rfl, h5⟩
                have hb5 := H4.out.2.trans (h5.mono H4.out.2.size)
                have H5 := Lib.hid (And.intro (HK.out.below hb5 HK.out.lt) hb5)
                obtain ⟨y0, y1, y2, y3⟩ := four_ev H5.out.1
                clear h5 hb5 hcv
                have HLD : Hid (failE e es false 5 = (!(decide ((leadB (homeP e.path) (txtB e.data)).2 = 0)) || decide (e.data[0]? = some 47#8))) := Lib.hid (by
                  show leadsE e.path e.kind e.data = _
                  unfold leadsE
                  rw [HQ.out.2.2.2.1, pre_slash]
                  rfl)
                have HLE : Hid (dn = 0 → (leadB (homeP e.path) (txtB e.data)).2 = 10) := Lib.hid (fun hz => by
                  have : e.data = [] := List.eq_nil_of_length_eq_zero (by rw [HQ.out.2.2.1]; exact hz)
                  rw [this]
                  exact lead_empty (by rw [HH5.out]; exact right_take HRT.out q))
                obtain ⟨bad, hbad⟩ : ∃ bad, bad = (leadB (homeP e.path) (txtB e.data)).2 := ⟨_, rfl⟩
                rw [← hbad] at HLD HLE ⊢
                clear hbad
                by_cases hb0 : bad = 0
                · have hdn : 0 < dn := by
                    rcases Nat.eq_zero_or_pos dn with hz | hz
                    · have := HLE.out hz
                      omega
                    · exact hz
                  have hd5 := HX.out.1.data.below H5.out.2
                  obtain ⟨dg, dof, rfl, _, hdc⟩ := hd5.cells hdn
                  obtain ⟨d0, hd0⟩ : ∃ d0, e.data[0]? = some d0 := ⟨_, List.getElem?_eq_getElem (by rw [HQ.out.2.2.1]; exact hdn)⟩
                  have z5 : w5.cell? ⟨dg, dof, none⟩ = some (.int .u8 (nb d0)) := hdc 0 _ (by rw [Vb_get, hd0]; rfl)
                  have d3 : (0 : Int) < (dn : Int) := by omega
                  have HD0 := Lib.hid hd0
                  clear hd5 hdc hd0
                  subst hb0
                  by_cases h47 : d0 = 47#8
                  · have HR : Hid (refE e es false = errE 5) := Lib.hid (ref_found (by omega) (fun j hj => by
                      match j, hj with
                      | 0, _ => exact F0.out
                      | 1, _ => exact F1.out
                      | 2, _ => exact F2.out
                      | 3, _ => exact F3.out
                      | 4, _ => exact F4.out
                      | j + 5, hj => omega) (by rw [HLD.out, HD0.out, h47]; rfl))
                    have hn47 : nb d0 = 47 := by rw [h47]; exact nb47
                    rw [hn47] at z5
                    go_wp2_with fail
                    go_ret
                    exact ⟨pret_num (by rw [HR.out]; rfl), HX.out.2.2.trans (H5.out.2.mono HX.out.2.2.size)⟩
                  · have F5 : Hid (failE e es false 5 = false) := Lib.hid (by rw [HLD.out, HD0.out, decide_eq_false (show ¬ (some d0 = some 47#8) from fun h => h47 (by injection h))]; rfl)
                    have hn47 : ¬ nb d0 = 47 := by
                      intro h
                      apply h47
                      apply BitVec.eq_of_toNat_eq
                      unfold nb at h
                      show d0.toNat = 47
                      omega
                    have hn48 : (nb d0 == 47) = false := by simpa using hn47
                    go_wp2_with fail
                    refine (rfind12_any w5 A n c xs es (HX.out.2.1.below H5.out.2) PA (q + 1) pc e.path (HX.out.1.path.below H5.out.2)).mono ?_
                    rintro en w7 ⟨rfl, h7⟩
                    have hb7 := H5.out.2.trans (h7.mono H5.out.2.size)
                    have H7 := Lib.hid (And.intro (HK.out.below hb7 HK.out.lt) hb7)
                    obtain ⟨y0, y1, y2, y3⟩ := four_ev H7.out.1
                    clear h7 hb7
                    have HA := Lib.hid (show twiceE es e.path = (atE es e.path).isSome from rfl)
                    cases ha : atE es e.path with
                    | some ii =>
                      have HR : Hid (refE e es false = errE 6) := Lib.hid (ref_found (by omega) (fun j hj => by
                        match j, hj with
                        | 0, _ => exact F0.out
                        | 1, _ => exact F1.out
                        | 2, _ => exact F2.out
                        | 3, _ => exact F3.out
                        | 4, _ => exact F4.out
                        | 5, _ => exact F5.out
                        | j + 6, hj => omega) (by show twiceE es e.path = true; rw [HA.out, ha]; rfl))
                      have c0 : (0 : Int) ≤ (ii : Int) := by omega
                      clear ha
                      unfold plN
                      go_wp2_with fail
                      go_ret
                      exact ⟨pret_num (by rw [HR.out]; rfl), HX.out.2.2.trans (H7.out.2.mono HX.out.2.2.size)⟩
                    | none =>
                      have F6 : Hid (failE e es false 6 = false) := Lib.hid (by show twiceE es e.path = false; rw [HA.out, ha]; rfl)
                      clear ha
                      unfold plN
                      have HH : Hid (homeP e.path = e.path.take q) := Lib.hid (by
                        unfold homeP
                        rw [if_neg (by rw [HRT.out, HQ.out.2.1]; simp), HQ.out.2.1]
                        rfl)
                      have HHL : Hid ((homeP e.path).length = q) := Lib.hid (by rw [HH.out, List.length_take, HQ.out.2.1]; omega)
                      by_cases hq0 : q = 0
                      · have F7 : Hid (failE e es false 7 = false) := Lib.hid (by
                          show nowhereE es e.path = false
                          unfold nowhereE
                          rw [if_pos (by rw [HHL.out]; exact hq0)])
                        subst hq0
                        have HR : Hid (refE e es false = 0) := Lib.hid (ref_none (fun j hj => by
                          match j, hj with
                          | 0, _ => exact F0.out
                          | 1, _ => exact F1.out
                          | 2, _ => exact F2.out
                          | 3, _ => exact F3.out
                          | 4, _ => exact F4.out
                          | 5, _ => exact F5.out
                          | 6, _ => exact F6.out
                          | 7, _ => exact F7.out
                          | 8, _ => rfl
                          | j + 9, hj => omega))
                        go_wp2_with fail
                        go_ret
                        exact ⟨pret_num (by rw [HR.out]), HX.out.2.2.trans (H7.out.2.mono HX.out.2.2.size)⟩
                      · have c1 : (0 : Int) < (q : Int) := by omega
                        have HS := Lib.hid (HX.out.1.path.take (k := q) (c' := pc) (show q ≤ q + 1 by omega) (show q ≤ pc by omega) (Nat.le_refl _))
                        rw [← HH.out] at HS
                        go_wp2_with fail
                        refine (rfind12_any w7 A n c xs es (HX.out.2.1.below H7.out.2) PA q pc (homeP e.path) (HS.out.below H7.out.2)).mono ?_
                        rintro en w8 ⟨rfl, h8⟩
                        have hb8 := H7.out.2.trans (h8.mono H7.out.2.size)
                        have H8 := Lib.hid (And.intro (HK.out.below hb8 HK.out.lt) hb8)
                        obtain ⟨y0, y1, y2, y3⟩ := four_ev H8.out.1
                        clear h8 hb8
                        have HN : Hid (nowhereE es e.path = nowAt es (atE es (homeP e.path))) := Lib.hid (by
                          unfold nowhereE
                          rw [if_neg (by rw [HHL.out]; exact hq0)])
                        cases hh : atE es (homeP e.path) with
                        | none =>
                          have HR : Hid (refE e es false = errE 7) := Lib.hid (ref_found (by omega) (fun j hj => by
                            match j, hj with
                            | 0, _ => exact F0.out
                            | 1, _ => exact F1.out
                            | 2, _ => exact F2.out
                            | 3, _ => exact F3.out
                            | 4, _ => exact F4.out
                            | 5, _ => exact F5.out
                            | 6, _ => exact F6.out
                            | j + 7, hj => omega) (by show nowhereE es e.path = true; rw [HN.out, hh]; rfl))
                          clear hh
                          unfold plN
                          go_wp2_with fail
                          go_ret
                          exact ⟨pret_num (by rw [HR.out]; rfl), HX.out.2.2.trans (H8.out.2.mono HX.out.2.2.size)⟩
                        | some ii =>
                          obtain ⟨en, hen, _⟩ := ate_lt es _ ii hh
                          have hii : ii < n := by rw [← HX.out.2.1.elen]; exact (List.getElem?_eq_some_iff.1 hen).1
                          have hfx := rfind12_any w8 A n c xs es (HX.out.2.1.below H8.out.2) PA q pc (homeP e.path) (HS.out.below H8.out.2)
                          rw [hh] at hfx
                          have HFX := Lib.hid hfx
                          have HNI : Hid (nowhereE es e.path = !(decide (en.kind = 1))) := Lib.hid (by rw [HN.out, hh]; exact nowAt_some hen)
                          clear hh hfx
                          have c2 : ¬ (ii : Int) < 0 := by omega
                          have c3 : ((ii : Int) < 0) = False := eq_false (by omega)
                          have c4 : (0 : Int) ≤ (ii : Int) := by omega
                          have c5 : (ii : Int) < (n : Int) := by omega
                          unfold plN
                          go_wp2_with fail
                          refine HFX.out.mono ?_
                          rintro en9 w9 ⟨rfl, h9⟩
                          have hb9 := H8.out.2.trans (h9.mono H8.out.2.size)
                          have H9 := Lib.hid (And.intro (HK.out.below hb9 HK.out.lt) hb9)
                          obtain ⟨g, o, xi, ei, rfl, hg, hxi, hei, hoi, hcl⟩ := (HX.out.2.1.below hb9).row hii
                          have z1 : w9.cell? ⟨g, o + ii * 4 + 1, none⟩ = some (.int .i64 xi.k) := hcl 1 _ rfl
                          have HEI : Hid (en.kind = xi.k) := Lib.hid (by
                            rw [hei] at hen
                            cases hen
                            exact hoi.kind)
                          clear h9 hb9 hg hxi hei hoi hcl hen HFX
                          unfold plN
                          by_cases hk1 : xi.k = 1
                          · have F7 : Hid (failE e es false 7 = false) := Lib.hid (by show nowhereE es e.path = false; rw [HNI.out, HEI.out, hk1]; rfl)
                            rw [hk1] at z1
                            have HR : Hid (refE e es false = 0) := Lib.hid (ref_none (fun j hj => by
                              match j, hj with
                              | 0, _ => exact F0.out
                              | 1, _ => exact F1.out
                              | 2, _ => exact F2.out
                              | 3, _ => exact F3.out
                              | 4, _ => exact F4.out
                              | 5, _ => exact F5.out
                              | 6, _ => exact F6.out
                              | 7, _ => exact F7.out
                              | 8, _ => rfl
                              | j + 9, hj => omega))
                            go_wp2_with fail
                            go_ret
                            exact ⟨pret_num (by rw [HR.out]), HX.out.2.2.trans (H9.out.2.mono HX.out.2.2.size)⟩
                          · have HR : Hid (refE e es false = errE 7) := Lib.hid (ref_found (by omega) (fun j hj => by
                              match j, hj with
                              | 0, _ => exact F0.out
                              | 1, _ => exact F1.out
                              | 2, _ => exact F2.out
                              | 3, _ => exact F3.out
                              | 4, _ => exact F4.out
                              | 5, _ => exact F5.out
                              | 6, _ => exact F6.out
                              | j + 7, hj => omega) (by show nowhereE es e.path = true; rw [HNI.out, HEI.out, decide_eq_false hk1]; rfl))
                            have c6 : (xi.k == 1) = false := by simpa using hk1
                            go_wp2_with fail
                            go_ret
                            exact ⟨pret_num (by rw [HR.out]; rfl), HX.out.2.2.trans (H9.out.2.mono HX.out.2.2.size)⟩
                · have HR : Hid (refE e es false = errE 5) := Lib.hid (ref_found (by omega) (fun j hj => by
                    match j, hj with
                    | 0, _ => exact F0.out
                    | 1, _ => exact F1.out
                    | 2, _ => exact F2.out
                    | 3, _ => exact F3.out
                    | 4, _ => exact F4.out
                    | j + 5, hj => omega) (by rw [HLD.out, decide_eq_false hb0]; rfl))
                  have hb1 : (bad == 0) = false := by simpa using hb0
                  go_wp2_with fail
                  go_ret
                  exact ⟨pret_num (by rw [HR.out]; rfl), HX.out.2.2.trans (H5.out.2.mono HX.out.2.2.size)⟩
          · have HR : Hid (refE e es false = errE 2) := Lib.hid (ref_found (by omega) (fun j hj => by
              match j, hj with
              | 0, _ => exact F0.out
              | 1, _ => exact F1.out
              | j + 2, hj => omega) (by show riskyE e.kind e.mode = true; rw [HMO.out, decide_eq_false hm0]; rfl))
            have hm1 : (rf == 0) = false := by simpa using hm0
            go_wp2_with fail
            go_ret
            exact ⟨pret_num (by rw [HR.out]; rfl), HX.out.2.2.trans (H4.out.2.mono HX.out.2.2.size)⟩
end Go.Proofs.YtdnaiiagblcohaaGreatDoor
end

/-
  The document's Check, walked. Condition: the entries lie in memory.
-/

section
set_option linter.unusedSimpArgs false
set_option linter.unusedVariables false
set_option maxRecDepth 100000
namespace Go.Proofs.YtdnaiiagblcohaaGreatDoor
open Go.RowKit

set_option maxHeartbeats 4000000 in
theorem rcheck_any (w : World) (A : Option Addr) (n c : Nat) (xs : List Ev) (es : List En) (h : EIn w A n c xs es) :
    Calls Tryz.prog 12 #[.slice A n c] w fun e w' => e = .returned (.tuple #[.int .i64 ((chkE es).1 : Int), .int .i64 (chkE es).2]) ∧ Below w.heap.size w w' := by
  have hbig : n ≤ 9223372036854775807 := by have := h.cap; have := h.big; omega
  have hcap := h.cap
  by_cases h40 : 40 < n
  · have HF : Hid (chkE es = (40, 2)) := Lib.hid (by unfold chkE; rw [if_pos (by rw [h.elen]; exact h40)])
    clear h
    go_enter Tryz.func12, Tryz.ntmps12
    go_wp2_with fail
    go_ret2
    rw [HF.out]
    exact ⟨rfl, Below.refl _ _⟩
  · have HF : Hid (chkE es = chkFrom [] es) := Lib.hid (by unfold chkE; rw [if_neg (by rw [h.elen]; exact h40)])
    have H := Lib.hid h
    clear h
    go_enter Tryz.func12, Tryz.ntmps12
    go_wp2_with fail
    go_loopw [4] (fun iv wr => ∃ i : Nat, i ≤ n ∧ iv = .int .i64 i ∧ Hid (∀ (j : Nat) (y : En), j < i → es[j]? = some y → refE y (es.take j) false = 0) ∧ Hid (Below w.heap.size w wr)) (fun iv _ => n - (intOf iv).toNat)
    case atStart => exact ⟨0, by omega, rfl, Lib.hid (fun j y h => absurd h (by omega)), Lib.hid (Below.refl _ _)⟩
    case round =>
      obtain ⟨i, hi, rfl, HK, HW⟩ := hrel
      by_cases hlt : i < n
      · have hE := H.out.below HW.out
        obtain ⟨g, o, x, e, rfl, hg, hx, he, hok, hcl⟩ := hE.row hlt
        have HE := Lib.hid (And.intro he (And.intro hok (And.intro (hE.take (k := i) (c' := c) (by omega) (by omega) (Nat.le_refl _)) hcl)))
        clear hE hx he hok hcl
        go_wp2_with fail
        refine wp_hideQ ?_
        intro QQ hQQ
        refine wp_region_quick [some 15, some 16, some 17, some 18, some 19, some 20, some 21, some 22, some 5] [isV (.slice (some ⟨g, o, none⟩) n c), isV (.int .i64 (i : Int)), isV (.pointer (some ⟨g, o + i * 4, none⟩)), isV (evV x), isV (.slice (some ⟨g, o, none⟩) n c), isV (.int .i64 (i : Int)), isV (.slice (some ⟨g, o, none⟩) i c), isV (.int .i64 (refE e (es.take i) false)), isV (.int .i64 (refE e (es.take i) false))] 9 (by kernel_rfl) rfl rfl rfl (by kernel_rfl) (by simp [isV.st]) ?_ ?_
        · intro hq rz hz
          match rz, hz with
          | 0, _ =>
            refine StepL.val rfl [] (by decide +kernel) ?_
            intro v wx hR hd
            exact ⟨wanted_plain rfl _, _, _, x_move rfl (fill_off rfl rfl), hR, Below.refl _ _, rfl⟩
          | 1, _ =>
            refine StepL.val rfl [] (by decide +kernel) ?_
            intro v wx hR hd
            exact ⟨wanted_plain rfl _, _, _, x_move rfl (fill_off rfl rfl), hR, Below.refl _ _, rfl⟩
          | 2, _ =>
            refine StepL.val rfl [0, 1] (by decide +kernel) ?_
            intro v wx hR hd
            have h0 : v 0 = _ := hd 0 (by simp)
            have h1 : v 1 = _ := hd 1 (by simp)
            exact ⟨wanted_plain rfl _, _, _, x_index rfl (hq.at_ rfl h0) (hq.at_ rfl h1) (r_index (e := 90) (size := 4) (by kernel_rfl) (by kernel_rfl) (by omega) (by omega) (by simp)), hR, Below.refl _ _, rfl⟩
          | 3, _ =>
            refine StepL.val rfl [2] (by decide +kernel) ?_
            intro v wx hR hd
            have h2 : v 2 = _ := hd 2 (by simp)
            exact ⟨wanted_plain rfl _, _, _, x_load rfl (hq.at_ rfl h2) (r_loadR (cs := evC x) (by kernel_rfl) (range_ev HE.out.2.2.2 hR)), hR, Below.refl _ _, rfl⟩
          | 4, _ =>
            refine StepL.val rfl [] (by decide +kernel) ?_
            intro v wx hR hd
            exact ⟨wanted_plain rfl _, _, _, x_move rfl (fill_off rfl rfl), hR, Below.refl _ _, rfl⟩
          | 5, _ =>
            refine StepL.val rfl [] (by decide +kernel) ?_
            intro v wx hR hd
            exact ⟨wanted_plain rfl _, _, _, x_move rfl (fill_off rfl rfl), hR, Below.refl _ _, rfl⟩
          | 6, _ =>
            refine StepL.val rfl [4, 5] (by decide +kernel) ?_
            intro v wx hR hd
            have h4 : v 4 = _ := hd 4 (by simp)
            have h5 : v 5 = _ := hd 5 (by simp)
            exact ⟨wanted_plain rfl _, _, _, x_sub_h rfl (by kernel_rfl) (hq.at_ rfl h4) (hq.at_ rfl h5) (by omega) (by omega), hR, Below.refl _ _, rfl⟩
          | 7, _ =>
            refine StepL.call rfl [3, 6] (by decide +kernel) ?_
            intro v wx hR hd
            have h3 : v 3 = _ := hd 3 (by simp)
            have h6 : v 6 = _ := hd 6 (by simp)
            refine ⟨wanted_plain rfl _, 42, _, _, x_call rfl rfl (args_2 (hq.at_ rfl h3) (hq.at_ rfl h6)) (by kernel_rfl) rfl, ?_⟩
            refine (refused_any wx x e (HE.out.2.1.below hR) (some ⟨g, o, none⟩) i c (xs.take i) (es.take i) (HE.out.2.2.1.below hR)).mono ?_
            rintro en w7 ⟨rfl, h7⟩
            exact ⟨_, rfl, hR.trans (h7.mono hR.size), h7, rfl⟩
          | 8, _ =>
            refine StepL.val rfl [7] (by decide +kernel) ?_
            intro v wx hR hd
            have h7 : v 7 = _ := hd 7 (by simp)
            exact ⟨wanted_plain rfl _, _, _, x_assign rfl (hq.at_ rfl h7), hR, Below.refl _ _, rfl⟩
          | rz + 9, h => omega
        · intro v wx hR hV
          have h8 : v 8 = _ := hV 8 (by omega)
          simp only [fillR, Act.put, List.setIfInBounds_toArray, List.set_cons_zero, List.set_cons_succ, h8]
          have HX := Lib.hid (HW.out.trans (hR.mono HW.out.size))
          clear hV hR
          by_cases hz : refE e (es.take i) false = 0
          · have HQ := Lib.hid hz
            rw [hz]
            clear hz
            go_wp2_with fail
            exact ⟨⟨i + 1, by omega, by go_num, Lib.hid (fun j y hj hy => by
              by_cases hji : j < i
              · exact HK.out j y hji hy
              · obtain rfl : j = i := by omega
                rw [HE.out.1] at hy
                cases hy
                exact HQ.out), HX⟩, by simp [intOf]; omega⟩
          · have HQ : Hid (chkE es = (i, refE e (es.take i) false)) := Lib.hid (by
              rw [HF.out, chk_stop es [] i e HE.out.1 (fun j y hj hy => by rw [List.nil_append]; exact HK.out j y hj hy) (by rw [List.nil_append]; exact hz)]
              simp)
            have hz' : (refE e (es.take i) false == 0) = false := by simpa using hz
            go_wp2_with fail
            (try rw [Exit.noGoto_ret])
            go_ret2
            rw [HQ.out]
            exact ⟨rfl, HX.out⟩
      · obtain rfl : i = n := by omega
        have HQ : Hid (chkE es = (es.length, 0)) := Lib.hid (by
          rw [HF.out, chk_all es [] (fun j y hy => by rw [List.nil_append]; exact HK.out j y (by have := (List.getElem?_eq_some_iff.1 hy).1; have := H.out.elen; omega) hy)]
          simp)
        have HL := Lib.hid H.out.elen
        go_wp2_with fail
        go_ret2
        rw [HQ.out, HL.out]
        exact ⟨rfl, HW.out⟩
end Go.Proofs.YtdnaiiagblcohaaGreatDoor
end
