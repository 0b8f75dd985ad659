/-
  Why an entry is refused, as the document tells it, walked. Conditions: the entry and those ahead of it lie in memory.
-/
import Derived.Test.YtlpljedacohngaaGreatDoorM23
import Derived.Test.YtlpljedacohngaaGreatDoorM15
import Derived.Test.YtlpljedacohngaaGreatDoorM11
import Derived.Test.YtlpljedacohngaaGreatDoorM16
import Derived.Test.YtlpljedacohngaaGreatDoorM19
section
set_option linter.unusedSimpArgs false
set_option linter.unusedVariables false
set_option maxRecDepth 100000
namespace Go.Proofs.YtlpljedacohngaaGreatDoor
open Go.RowKit

theorem build_rst (W : World) (k m : Int) : (Instr.build 72 #[(0, .int .i64 k), (1, .int .i64 m)]).run Tryz.prog W = .ok (stv k m 0 0) W := by kernel_rfl
set_option maxHeartbeats 8000000 in
theorem refused_any (w : World) (x : Ev) (e : En) (hx : EvOk w x e) (A : Option Addr) (n c : Nat) (xs : List Ev) (es : List En) (h : EIn w A n c xs es) :
    Calls Tryz.prog 16 #[evV x, .slice A n c] w fun en w' => en = .returned (.int .i64 (refE e es false)) ∧ Below w.heap.size w w' := by
  have hb := pnew w (.cells (evC x).toArray 54)
  have HK := Lib.hid (Blk.new w 54 (evC x))
  have HX := Lib.hid (And.intro (hx.below hb) (And.intro (h.below hb) hb))
  have hsm := hx.small
  have hpl := hx.path.len
  have hdl := hx.data.len
  have hkd := hx.kind
  have hmd := hx.mode
  clear hx h hb
  obtain ⟨PA, pn, pc, k, m, DA, dn, dc⟩ := x
  have hpcap : pn ≤ pc := HX.out.1.path.cap
  have hpbig : pc ≤ 9223372036854775807 := HX.out.1.path.big
  have hdcap : dn ≤ dc := HX.out.1.data.cap
  have hdbig : dc ≤ 9223372036854775807 := HX.out.1.data.big
  have HQ := Lib.hid (And.intro hsm (And.intro hpl (And.intro hdl (And.intro hkd hmd))))
  have hncap : n ≤ c := HX.out.2.1.cap
  have hnbig : c ≤ 9223372036854775807 := HX.out.2.1.big
  clear hsm hpl hdl hkd hmd
  obtain ⟨y0, y1, y2, y3⟩ := four_ev HK.out
  go_enter Tryz.func16, Tryz.ntmps16
  go_wp2_with fail
  obtain ⟨w1, hw1⟩ : ∃ w1, w1 = w.alloc (.cells (evC ⟨PA, pn, pc, k, m, DA, dn, dc⟩).toArray 54) := ⟨_, rfl⟩
  rw [← hw1] at HK HX y0 y1 y2 y3
  have HW1 := Lib.hid hw1
  clear hw1
  rw [show w.alloc (.cells #[.slice PA pn pc, .int .i64 k, .int .i64 m, .slice DA dn dc] 54) = w1 from HW1.out.symm]
  refine (rright_any w1 PA pn pc e.path HX.out.1.path).mono ?_
  rintro en w2 ⟨rfl, h2⟩
  have H2 := Lib.hid (And.intro (HK.out.below h2 HK.out.lt) h2)
  obtain ⟨y0, y1, y2, y3⟩ := four_ev H2.out.1
  clear h2
  have HP := Lib.hid (pathless_is e.path)
  cases hr : rightB e.path with
  | false =>
    have HR : Hid (refE e es false = errE 0) := Lib.hid (ref_found (by omega) (fun j hj => by
      match j, hj with
      | j + 0, hj => omega) (by show pathlessE e.path = true; rw [HP.out, hr]; rfl))
    clear hr
    go_wp2_with fail
    go_ret
    exact ⟨pret_num (by rw [HR.out]; rfl), HX.out.2.2.trans (H2.out.2.mono HX.out.2.2.size)⟩
  | true =>
    by_cases h0 : pn = 0
    · have HR : Hid (refE e es false = errE 0) := Lib.hid (ref_found (by omega) (fun j hj => by
        match j, hj with
        | j + 0, hj => omega) (by show pathlessE e.path = true; rw [HP.out, hr, HQ.out.2.1, h0]; rfl))
      subst h0
      clear hr
      go_wp2_with fail
      go_ret
      exact ⟨pret_num (by rw [HR.out]; rfl), HX.out.2.2.trans (H2.out.2.mono HX.out.2.2.size)⟩
    · obtain ⟨q, rfl⟩ : ∃ q, pn = q + 1 := ⟨pn - 1, by omega⟩
      have b0 : ¬ ((q + 1 : Nat) : Int) = 0 := by omega
      have b1 : (0 : Int) ≤ (q : Int) := by omega
      have b2 : (q : Int) ≤ ((q + 1 : Nat) : Int) := by omega
      have b3 : (q : Int) ≤ (pc : Int) := by omega
      go_wp2_with fail
      refine (rptext_any w2 PA (q + 1) pc e.path (HX.out.1.path.below H2.out.2) HQ.out.1.text).mono ?_
      rintro en w3 ⟨rfl, h3⟩
      have hb3 := H2.out.2.trans (h3.mono H2.out.2.size)
      have H3 := Lib.hid (And.intro (HK.out.below hb3 HK.out.lt) hb3)
      obtain ⟨y0, y1, y2, y3⟩ := four_ev H3.out.1
      clear h3 hb3
      obtain ⟨T, hT⟩ : ∃ T, T = textP e.path := ⟨_, rfl⟩
      rw [← hT]
      rw [← hT] at HP
      clear hT
      by_cases hs : 160 < T.size
      · have HR : Hid (refE e es false = errE 0) := Lib.hid (ref_found (by omega) (fun j hj => by
          match j, hj with
          | j + 0, hj => omega) (by show pathlessE e.path = true; rw [HP.out, hr, decide_eq_true hs]; simp))
        clear hr
        have hs' : (160 : Int) < (T.size : Int) := by omega
        have hs2 : decide ((160 : Int) < (T.size : Int)) = true := decide_eq_true (by omega)
        go_wp2_with fail
        go_ret
        exact ⟨pret_num (by rw [HR.out]; rfl), HX.out.2.2.trans (H3.out.2.mono HX.out.2.2.size)⟩
      · have F0 : Hid (failE e es false 0 = false) := Lib.hid (by
          show pathlessE e.path = false
          rw [HP.out, hr, decide_eq_false (by rw [HQ.out.2.1]; exact h0), decide_eq_false hs]
          rfl)
        have hs' : ((160 : Int) < (T.size : Int)) = False := eq_false (by omega)
        have hs2 : decide ((160 : Int) < (T.size : Int)) = false := decide_eq_false (by omega)
        have HRT := Lib.hid hr
        clear hr
        by_cases hk : k < 0 ∨ 2 < k
        · have HR : Hid (refE e es false = errE 1) := Lib.hid (ref_found (by omega) (fun j hj => by
            match j, hj with
            | 0, _ => exact F0.out
            | j + 1, hj => omega) (by
              show kindlessE e.kind = true
              unfold kindlessE
              rw [HQ.out.2.2.2.1]
              show (!(decide (k = 0) || decide (k = 1) || decide (k = 2))) = true
              rw [decide_eq_false (by omega), decide_eq_false (by omega), decide_eq_false (by omega)]
              rfl))
          rcases hk with hk | hk
          · have hk4 : decide (k < 0) = true := decide_eq_true hk
            go_wp2_with fail
            go_ret
            exact ⟨pret_num (by rw [HR.out]; rfl), HX.out.2.2.trans (H3.out.2.mono HX.out.2.2.size)⟩
          · have hk0 : (k < 0) = False := eq_false (by omega)
            have hk3 : decide (k < 0) = false := decide_eq_false (by omega)
            have hk4 : decide (2 < k) = true := decide_eq_true hk
            go_wp2_with fail
            go_ret
            exact ⟨pret_num (by rw [HR.out]; rfl), HX.out.2.2.trans (H3.out.2.mono HX.out.2.2.size)⟩
        · have F1 : Hid (failE e es false 1 = false) := Lib.hid (by
            show kindlessE e.kind = false
            unfold kindlessE
            rw [HQ.out.2.2.2.1]
            show (!(decide (k = 0) || decide (k = 1) || decide (k = 2))) = false
            have : k = 0 ∨ k = 1 ∨ k = 2 := by omega
            rcases this with h | h | h <;> simp [h])
          have hk1 : (k < 0) = False := eq_false (by omega)
          have hk2 : (2 < k) = False := eq_false (by omega)
          have hk3 : decide (k < 0) = false := decide_eq_false (by omega)
          have hk4 : decide (2 < k) = false := decide_eq_false (by omega)
          have hbs := build_rst
          clear hk
          go_wp2_with fail
          refine (rrefusal_any w3 k m 0 0).mono ?_
          rintro en w4 ⟨rfl, h4⟩
          have hb4 := H3.out.2.trans (h4.mono H3.out.2.size)
          have H4 := Lib.hid (And.intro (HK.out.below hb4 HK.out.lt) hb4)
          obtain ⟨y0, y1, y2, y3⟩ := four_ev H4.out.1
          clear h4 hb4 hbs
          have hmo : riskyE e.kind e.mode = !(decide (refuse k m 0 0 = 0)) := by
            unfold riskyE
            rw [HQ.out.2.2.2.1, HQ.out.2.2.2.2]
          obtain ⟨rf, hrf⟩ : ∃ rf, rf = refuse k m 0 0 := ⟨_, rfl⟩
          rw [← hrf] at hmo ⊢
          have HMO := Lib.hid hmo
          clear hmo hrf
          by_cases hm0 : rf = 0
          · have F2 : Hid (failE e es false 2 = false) := Lib.hid (by
              show riskyE e.kind e.mode = false
              rw [HMO.out, decide_eq_true hm0]
              rfl)
            subst hm0
            have h3 : k = 0 ∨ k = 1 ∨ k = 2 := by
              have e1 : ¬ k < 0 := by rw [hk1]; exact id
              have e2 : ¬ 2 < k := by rw [hk2]; exact id
              omega
            clear hk1 hk2 hk3 hk4
            rcases h3 with rfl | rfl | rfl
            · have F3 : Hid (failE e es false 3 = false) := Lib.hid (by show filledE e.kind e.data = false; unfold filledE; rw [HQ.out.2.2.2.1]; rfl)
              have F5 : Hid (failE e es false 5 = false) := Lib.hid (by show leadsE e.path e.kind e.data = false; unfold leadsE; rw [HQ.out.2.2.2.1]; rfl)
              by_cases hlg : 512 < dn
              · have HR : Hid (refE e es false = errE 4) := Lib.hid (ref_found (by omega) (fun j hj => by
                  match j, hj with
                  | 0, _ => exact F0.out
                  | 1, _ => exact F1.out
                  | 2, _ => exact F2.out
                  | 3, _ => exact F3.out
                  | j + 4, hj => omega) (by show decide (512 < e.data.length) = true; rw [HQ.out.2.2.1]; exact decide_eq_true hlg))
                have d1 : (512 : Int) < (dn : Int) := by omega
                have d2 : decide ((512 : Int) < (dn : Int)) = true := decide_eq_true d1
                go_wp2_with fail
                go_ret
                exact ⟨pret_num (by rw [HR.out]; rfl), HX.out.2.2.trans (H4.out.2.mono HX.out.2.2.size)⟩
              · have F4 : Hid (failE e es false 4 = false) := Lib.hid (by show decide (512 < e.data.length) = false; rw [HQ.out.2.2.1]; exact decide_eq_false hlg)
                have d1 : ((512 : Int) < (dn : Int)) = False := eq_false (by omega)
                have d2 : decide ((512 : Int) < (dn : Int)) = false := decide_eq_false (by omega)
                go_wp2_with fail
                refine (rfind12_any w4 A n c xs es (HX.out.2.1.below H4.out.2) PA (q + 1) pc e.path (HX.out.1.path.below H4.out.2)).mono ?_
                rintro en w7 ⟨rfl, h7⟩
                have hb7 := H4.out.2.trans (h7.mono H4.out.2.size)
                have H7 := Lib.hid (And.intro (HK.out.below hb7 HK.out.lt) hb7)
                obtain ⟨y0, y1, y2, y3⟩ := four_ev H7.out.1
                clear h7 hb7
                have HA := Lib.hid (show twiceE es e.path = (atE es e.path).isSome from rfl)
                cases ha : atE es e.path with
                | some ii =>
                  have HR : Hid (refE e es false = errE 6) := Lib.hid (ref_found (by omega) (fun j hj => by
                    match j, hj with
                    | 0, _ => exact F0.out
                    | 1, _ => exact F1.out
                    | 2, _ => exact F2.out
                    | 3, _ => exact F3.out
                    | 4, _ => exact F4.out
                    | 5, _ => exact F5.out
                    | j + 6, hj => omega) (by show twiceE es e.path = true; rw [HA.out, ha]; rfl))
                  have c0 : (0 : Int) ≤ (ii : Int) := by omega
                  clear ha
                  unfold plN
                  go_wp2_with fail
                  go_ret
                  exact ⟨pret_num (by rw [HR.out]; rfl), HX.out.2.2.trans (H7.out.2.mono HX.out.2.2.size)⟩
                | none =>
                  have F6 : Hid (failE e es false 6 = false) := Lib.hid (by show twiceE es e.path = false; rw [HA.out, ha]; rfl)
                  clear ha
                  unfold plN
                  have HH : Hid (homeP e.path = e.path.take q) := Lib.hid (by
                    unfold homeP
                    rw [if_neg (by rw [HRT.out, HQ.out.2.1]; simp), HQ.out.2.1]
                    rfl)
                  have HHL : Hid ((homeP e.path).length = q) := Lib.hid (by rw [HH.out, List.length_take, HQ.out.2.1]; omega)
                  by_cases hq0 : q = 0
                  · have F7 : Hid (failE e es false 7 = false) := Lib.hid (by
                      show nowhereE es e.path = false
                      unfold nowhereE
                      rw [if_pos (by rw [HHL.out]; exact hq0)])
                    subst hq0
                    have HR : Hid (refE e es false = 0) := Lib.hid (ref_none (fun j hj => by
                      match j, hj with
                      | 0, _ => exact F0.out
                      | 1, _ => exact F1.out
                      | 2, _ => exact F2.out
                      | 3, _ => exact F3.out
                      | 4, _ => exact F4.out
                      | 5, _ => exact F5.out
                      | 6, _ => exact F6.out
                      | 7, _ => exact F7.out
                      | 8, _ => rfl
                      | j + 9, hj => omega))
                    go_wp2_with fail
                    go_ret
                    exact ⟨pret_num (by rw [HR.out]), HX.out.2.2.trans (H7.out.2.mono HX.out.2.2.size)⟩
                  · have c1 : (0 : Int) < (q : Int) := by omega
                    have HS := Lib.hid (HX.out.1.path.take (k := q) (c' := pc) (show q ≤ q + 1 by omega) (show q ≤ pc by omega) (Nat.le_refl _))
                    rw [← HH.out] at HS
                    go_wp2_with fail
                    refine (rfind12_any w7 A n c xs es (HX.out.2.1.below H7.out.2) PA q pc (homeP e.path) (HS.out.below H7.out.2)).mono ?_
                    rintro en w8 ⟨rfl, h8⟩
                    have hb8 := H7.out.2.trans (h8.mono H7.out.2.size)
                    have H8 := Lib.hid (And.intro (HK.out.below hb8 HK.out.lt) hb8)
                    obtain ⟨y0, y1, y2, y3⟩ := four_ev H8.out.1
                    clear h8 hb8
                    have HN : Hid (nowhereE es e.path = nowAt es (atE es (homeP e.path))) := Lib.hid (by
                      unfold nowhereE
                      rw [if_neg (by rw [HHL.out]; exact hq0)])
                    cases hh : atE es (homeP e.path) with
                    | none =>
                      have HR : Hid (refE e es false = errE 7) := Lib.hid (ref_found (by omega) (fun j hj => by
                        match j, hj with
                        | 0, _ => exact F0.out
                        | 1, _ => exact F1.out
                        | 2, _ => exact F2.out
                        | 3, _ => exact F3.out
                        | 4, _ => exact F4.out
                        | 5, _ => exact F5.out
                        | 6, _ => exact F6.out
                        | j + 7, hj => omega) (by show nowhereE es e.path = true; rw [HN.out, hh]; rfl))
                      clear hh
                      unfold plN
                      go_wp2_with fail
                      go_ret
                      exact ⟨pret_num (by rw [HR.out]; rfl), HX.out.2.2.trans (H8.out.2.mono HX.out.2.2.size)⟩
                    | some ii =>
                      obtain ⟨en, hen, _⟩ := ate_lt es _ ii hh
                      have hii : ii < n := by rw [← HX.out.2.1.elen]; exact (List.getElem?_eq_some_iff.1 hen).1
                      have hfx := rfind12_any w8 A n c xs es (HX.out.2.1.below H8.out.2) PA q pc (homeP e.path) (HS.out.below H8.out.2)
                      rw [hh] at hfx
                      have HFX := Lib.hid hfx
                      have HNI : Hid (nowhereE es e.path = !(decide (en.kind = 1))) := Lib.hid (by rw [HN.out, hh]; exact nowAt_some hen)
                      clear hh hfx
                      have c2 : ¬ (ii : Int) < 0 := by omega
                      have c3 : ((ii : Int) < 0) = False := eq_false (by omega)
                      have c4 : (0 : Int) ≤ (ii : Int) := by omega
                      have c5 : (ii : Int) < (n : Int) := by omega
                      unfold plN
                      go_wp2_with fail
                      refine HFX.out.mono ?_
                      rintro en9 w9 ⟨rfl, h9⟩
                      have hb9 := H8.out.2.trans (h9.mono H8.out.2.size)
                      have H9 := Lib.hid (And.intro (HK.out.below hb9 HK.out.lt) hb9)
                      obtain ⟨g, o, xi, ei, rfl, hg, hxi, hei, hoi, hcl⟩ := (HX.out.2.1.below hb9).row hii
                      have z1 : w9.cell? ⟨g, o + ii * 4 + 1, none⟩ = some (.int .i64 xi.k) := hcl 1 _ rfl
                      have HEI : Hid (en.kind = xi.k) := Lib.hid (by
                        rw [hei] at hen
                        cases hen
                        exact hoi.kind)
                      clear h9 hb9 hg hxi hei hoi hcl hen HFX
                      unfold plN
                      by_cases hk1 : xi.k = 1
                      · have F7 : Hid (failE e es false 7 = false) := Lib.hid (by show nowhereE es e.path = false; rw [HNI.out, HEI.out, hk1]; rfl)
                        rw [hk1] at z1
                        have HR : Hid (refE e es false = 0) := Lib.hid (ref_none (fun j hj => by
                          match j, hj with
                          | 0, _ => exact F0.out
                          | 1, _ => exact F1.out
                          | 2, _ => exact F2.out
                          | 3, _ => exact F3.out
                          | 4, _ => exact F4.out
                          | 5, _ => exact F5.out
                          | 6, _ => exact F6.out
                          | 7, _ => exact F7.out
                          | 8, _ => rfl
                          | j + 9, hj => omega))
                        go_wp2_with fail
                        go_ret
                        exact ⟨pret_num (by rw [HR.out]), HX.out.2.2.trans (H9.out.2.mono HX.out.2.2.size)⟩
                      · have HR : Hid (refE e es false = errE 7) := Lib.hid (ref_found (by omega) (fun j hj => by
                          match j, hj with
                          | 0, _ => exact F0.out
                          | 1, _ => exact F1.out
                          | 2, _ => exact F2.out
                          | 3, _ => exact F3.out
                          | 4, _ => exact F4.out
                          | 5, _ => exact F5.out
                          | 6, _ => exact F6.out
                          | j + 7, hj => omega) (by show nowhereE es e.path = true; rw [HNI.out, HEI.out, decide_eq_false hk1]; rfl))
                        have c6 : (xi.k == 1) = false := by simpa using hk1
                        go_wp2_with fail
                        go_ret
                        exact ⟨pret_num (by rw [HR.out]; rfl), HX.out.2.2.trans (H9.out.2.mono HX.out.2.2.size)⟩
            · by_cases hdz : dn = 0
              · have F3 : Hid (failE e es false 3 = false) := Lib.hid (by show filledE e.kind e.data = false; unfold filledE; rw [HQ.out.2.2.1, hdz]; simp)
                have F4 : Hid (failE e es false 4 = false) := Lib.hid (by show decide (512 < e.data.length) = false; rw [HQ.out.2.2.1, hdz]; rfl)
                have F5 : Hid (failE e es false 5 = false) := Lib.hid (by show leadsE e.path e.kind e.data = false; unfold leadsE; rw [HQ.out.2.2.2.1]; rfl)
                subst hdz
                go_wp2_with fail
                refine (rfind12_any w4 A n c xs es (HX.out.2.1.below H4.out.2) PA (q + 1) pc e.path (HX.out.1.path.below H4.out.2)).mono ?_
                rintro en w7 ⟨rfl, h7⟩
                have hb7 := H4.out.2.trans (h7.mono H4.out.2.size)
                have H7 := Lib.hid (And.intro (HK.out.below hb7 HK.out.lt) hb7)
                obtain ⟨y0, y1, y2, y3⟩ := four_ev H7.out.1
                clear h7 hb7
                have HA := Lib.hid (show twiceE es e.path = (atE es e.path).isSome from rfl)
                cases ha : atE es e.path with
                | some ii =>
                  have HR : Hid (refE e es false = errE 6) := Lib.hid (ref_found (by omega) (fun j hj => by
                    match j, hj with
                    | 0, _ => exact F0.out
                    | 1, _ => exact F1.out
                    | 2, _ => exact F2.out
                    | 3, _ => exact F3.out
                    | 4, _ => exact F4.out
                    | 5, _ => exact F5.out
                    | j + 6, hj => omega) (by show twiceE es e.path = true; rw [HA.out, ha]; rfl))
                  have c0 : (0 : Int) ≤ (ii : Int) := by omega
                  clear ha
                  unfold plN
                  go_wp2_with fail
                  go_ret
                  exact ⟨pret_num (by rw [HR.out]; rfl), HX.out.2.2.trans (H7.out.2.mono HX.out.2.2.size)⟩
                | none =>
                  have F6 : Hid (failE e es false 6 = false) := Lib.hid (by show twiceE es e.path = false; rw [HA.out, ha]; rfl)
                  clear ha
                  unfold plN
                  have HH : Hid (homeP e.path = e.path.take q) := Lib.hid (by
                    unfold homeP
                    rw [if_neg (by rw [HRT.out, HQ.out.2.1]; simp), HQ.out.2.1]
                    rfl)
                  have HHL : Hid ((homeP e.path).length = q) := Lib.hid (by rw [HH.out, List.length_take, HQ.out.2.1]; omega)
                  by_cases hq0 : q = 0
                  · have F7 : Hid (failE e es false 7 = false) := Lib.hid (by
                      show nowhereE es e.path = false
                      unfold nowhereE
                      rw [if_pos (by rw [HHL.out]; exact hq0)])
                    subst hq0
                    have HR : Hid (refE e es false = 0) := Lib.hid (ref_none (fun j hj => by
                      match j, hj with
                      | 0, _ => exact F0.out
                      | 1, _ => exact F1.out
                      | 2, _ => exact F2.out
                      | 3, _ => exact F3.out
                      | 4, _ => exact F4.out
                      | 5, _ => exact F5.out
                      | 6, _ => exact F6.out
                      | 7, _ => exact F7.out
                      | 8, _ => rfl
                      | j + 9, hj => omega))
                    go_wp2_with fail
                    go_ret
                    exact ⟨pret_num (by rw [HR.out]), HX.out.2.2.trans (H7.out.2.mono HX.out.2.2.size)⟩
                  · have c1 : (0 : Int) < (q : Int) := by omega
                    have HS := Lib.hid (HX.out.1.path.take (k := q) (c' := pc) (show q ≤ q + 1 by omega) (show q ≤ pc by omega) (Nat.le_refl _))
                    rw [← HH.out] at HS
                    go_wp2_with fail
                    refine (rfind12_any w7 A n c xs es (HX.out.2.1.below H7.out.2) PA q pc (homeP e.path) (HS.out.below H7.out.2)).mono ?_
                    rintro en w8 ⟨rfl, h8⟩
                    have hb8 := H7.out.2.trans (h8.mono H7.out.2.size)
                    have H8 := Lib.hid (And.intro (HK.out.below hb8 HK.out.lt) hb8)
                    obtain ⟨y0, y1, y2, y3⟩ := four_ev H8.out.1
                    clear h8 hb8
                    have HN : Hid (nowhereE es e.path = nowAt es (atE es (homeP e.path))) := Lib.hid (by
                      unfold nowhereE
                      rw [if_neg (by rw [HHL.out]; exact hq0)])
                    cases hh : atE es (homeP e.path) with
                    | none =>
                      have HR : Hid (refE e es false = errE 7) := Lib.hid (ref_found (by omega) (fun j hj => by
                        match j, hj with
                        | 0, _ => exact F0.out
                        | 1, _ => exact F1.out
                        | 2, _ => exact F2.out
                        | 3, _ => exact F3.out
                        | 4, _ => exact F4.out
                        | 5, _ => exact F5.out
                        | 6, _ => exact F6.out
                        | j + 7, hj => omega) (by show nowhereE es e.path = true; rw [HN.out, hh]; rfl))
                      clear hh
                      unfold plN
                      go_wp2_with fail
                      go_ret
                      exact ⟨pret_num (by rw [HR.out]; rfl), HX.out.2.2.trans (H8.out.2.mono HX.out.2.2.size)⟩
                    | some ii =>
                      obtain ⟨en, hen, _⟩ := ate_lt es _ ii hh
                      have hii : ii < n := by rw [← HX.out.2.1.elen]; exact (List.getElem?_eq_some_iff.1 hen).1
                      have hfx := rfind12_any w8 A n c xs es (HX.out.2.1.below H8.out.2) PA q pc (homeP e.path) (HS.out.below H8.out.2)
                      rw [hh] at hfx
                      have HFX := Lib.hid hfx
                      have HNI : Hid (nowhereE es e.path = !(decide (en.kind = 1))) := Lib.hid (by rw [HN.out, hh]; exact nowAt_some hen)
                      clear hh hfx
                      have c2 : ¬ (ii : Int) < 0 := by omega
                      have c3 : ((ii : Int) < 0) = False := eq_false (by omega)
                      have c4 : (0 : Int) ≤ (ii : Int) := by omega
                      have c5 : (ii : Int) < (n : Int) := by omega
                      unfold plN
                      go_wp2_with fail
                      refine HFX.out.mono ?_
                      rintro en9 w9 ⟨rfl, h9⟩
                      have hb9 := H8.out.2.trans (h9.mono H8.out.2.size)
                      have H9 := Lib.hid (And.intro (HK.out.below hb9 HK.out.lt) hb9)
                      obtain ⟨g, o, xi, ei, rfl, hg, hxi, hei, hoi, hcl⟩ := (HX.out.2.1.below hb9).row hii
                      have z1 : w9.cell? ⟨g, o + ii * 4 + 1, none⟩ = some (.int .i64 xi.k) := hcl 1 _ rfl
                      have HEI : Hid (en.kind = xi.k) := Lib.hid (by
                        rw [hei] at hen
                        cases hen
                        exact hoi.kind)
                      clear h9 hb9 hg hxi hei hoi hcl hen HFX
                      unfold plN
                      by_cases hk1 : xi.k = 1
                      · have F7 : Hid (failE e es false 7 = false) := Lib.hid (by show nowhereE es e.path = false; rw [HNI.out, HEI.out, hk1]; rfl)
                        rw [hk1] at z1
                        have HR : Hid (refE e es false = 0) := Lib.hid (ref_none (fun j hj => by
                          match j, hj with
                          | 0, _ => exact F0.out
                          | 1, _ => exact F1.out
                          | 2, _ => exact F2.out
                          | 3, _ => exact F3.out
                          | 4, _ => exact F4.out
                          | 5, _ => exact F5.out
                          | 6, _ => exact F6.out
                          | 7, _ => exact F7.out
                          | 8, _ => rfl
                          | j + 9, hj => omega))
                        go_wp2_with fail
                        go_ret
                        exact ⟨pret_num (by rw [HR.out]), HX.out.2.2.trans (H9.out.2.mono HX.out.2.2.size)⟩
                      · have HR : Hid (refE e es false = errE 7) := Lib.hid (ref_found (by omega) (fun j hj => by
                          match j, hj with
                          | 0, _ => exact F0.out
                          | 1, _ => exact F1.out
                          | 2, _ => exact F2.out
                          | 3, _ => exact F3.out
                          | 4, _ => exact F4.out
                          | 5, _ => exact F5.out
                          | 6, _ => exact F6.out
                          | j + 7, hj => omega) (by show nowhereE es e.path = true; rw [HNI.out, HEI.out, decide_eq_false hk1]; rfl))
                        have c6 : (xi.k == 1) = false := by simpa using hk1
                        go_wp2_with fail
                        go_ret
                        exact ⟨pret_num (by rw [HR.out]; rfl), HX.out.2.2.trans (H9.out.2.mono HX.out.2.2.size)⟩
              · have HR : Hid (refE e es false = errE 3) := Lib.hid (ref_found (by omega) (fun j hj => by
                  match j, hj with
                  | 0, _ => exact F0.out
                  | 1, _ => exact F1.out
                  | 2, _ => exact F2.out
                  | j + 3, hj => omega) (by show filledE e.kind e.data = true; unfold filledE; rw [HQ.out.2.2.2.1, HQ.out.2.2.1, decide_eq_true (show 0 < dn by omega)]; rfl))
                have d3 : (0 : Int) < (dn : Int) := by omega
                have d4 : decide ((0 : Int) < (dn : Int)) = true := decide_eq_true d3
                go_wp2_with fail
                go_ret
                exact ⟨pret_num (by rw [HR.out]; rfl), HX.out.2.2.trans (H4.out.2.mono HX.out.2.2.size)⟩
            · have F3 : Hid (failE e es false 3 = false) := Lib.hid (by show filledE e.kind e.data = false; unfold filledE; rw [HQ.out.2.2.2.1]; rfl)
              by_cases hlg : 512 < dn
              · have HR : Hid (refE e es false = errE 4) := Lib.hid (ref_found (by omega) (fun j hj => by
                  match j, hj with
                  | 0, _ => exact F0.out
                  | 1, _ => exact F1.out
                  | 2, _ => exact F2.out
                  | 3, _ => exact F3.out
                  | j + 4, hj => omega) (by show decide (512 < e.data.length) = true; rw [HQ.out.2.2.1]; exact decide_eq_true hlg))
                have d1 : (512 : Int) < (dn : Int) := by omega
                have d2 : decide ((512 : Int) < (dn : Int)) = true := decide_eq_true d1
                go_wp2_with fail
                go_ret
                exact ⟨pret_num (by rw [HR.out]; rfl), HX.out.2.2.trans (H4.out.2.mono HX.out.2.2.size)⟩
              · have F4 : Hid (failE e es false 4 = false) := Lib.hid (by show decide (512 < e.data.length) = false; rw [HQ.out.2.2.1]; exact decide_eq_false hlg)
                have d1 : ((512 : Int) < (dn : Int)) = False := eq_false (by omega)
                have d2 : decide ((512 : Int) < (dn : Int)) = false := decide_eq_false (by omega)
                have HH5 : Hid (homeP e.path = e.path.take q) := Lib.hid (by
                  unfold homeP
                  rw [if_neg (by rw [HRT.out, HQ.out.2.1]; simp), HQ.out.2.1]
                  rfl)
                have HS5 := Lib.hid (HX.out.1.path.take (k := q) (c' := pc) (show q ≤ q + 1 by omega) (show q ≤ pc by omega) (Nat.le_refl _))
                rw [← HH5.out] at HS5
                have hcv := conv_txt (HX.out.1.data.below H4.out.2)
                go_wp2_with fail
                refine (rlead_any w4 PA q pc (homeP e.path) (HS5.out.below H4.out.2) (txtB e.data)).mono ?_
                rintro en w5 ⟨LA, l1, l2, rfl, h5⟩
                have hb5 := H4.out.2.trans (h5.mono H4.out.2.size)
                have H5 := Lib.hid (And.intro (HK.out.below hb5 HK.out.lt) hb5)
                obtain ⟨y0, y1, y2, y3⟩ := four_ev H5.out.1
                clear h5 hb5 hcv
                have HLD : Hid (failE e es false 5 = (!(decide ((leadB (homeP e.path) (txtB e.data)).2 = 0)) || decide (e.data[0]? = some 47#8))) := Lib.hid (by
                  show leadsE e.path e.kind e.data = _
                  unfold leadsE
                  rw [HQ.out.2.2.2.1, pre_slash]
                  rfl)
                have HLE : Hid (dn = 0 → (leadB (homeP e.path) (txtB e.data)).2 = 10) := Lib.hid (fun hz => by
                  have : e.data = [] := List.eq_nil_of_length_eq_zero (by rw [HQ.out.2.2.1]; exact hz)
                  rw [this]
                  exact lead_empty (by rw [HH5.out]; exact right_take HRT.out q))
                obtain ⟨bad, hbad⟩ : ∃ bad, bad = (leadB (homeP e.path) (txtB e.data)).2 := ⟨_, rfl⟩
                rw [← hbad] at HLD HLE ⊢
                clear hbad
                by_cases hb0 : bad = 0
                · have hdn : 0 < dn := by
                    rcases Nat.eq_zero_or_pos dn with hz | hz
                    · have := HLE.out hz
                      omega
                    · exact hz
                  have hd5 := HX.out.1.data.below H5.out.2
                  obtain ⟨dg, dof, rfl, _, hdc⟩ := hd5.cells hdn
                  obtain ⟨d0, hd0⟩ : ∃ d0, e.data[0]? = some d0 := ⟨_, List.getElem?_eq_getElem (by rw [HQ.out.2.2.1]; exact hdn)⟩
                  have z5 : w5.cell? ⟨dg, dof, none⟩ = some (.int .u8 (nb d0)) := hdc 0 _ (by rw [Vb_get, hd0]; rfl)
                  have d3 : (0 : Int) < (dn : Int) := by omega
                  have HD0 := Lib.hid hd0
                  clear hd5 hdc hd0
                  subst hb0
                  by_cases h47 : d0 = 47#8
                  · have HR : Hid (refE e es false = errE 5) := Lib.hid (ref_found (by omega) (fun j hj => by
                      match j, hj with
                      | 0, _ => exact F0.out
                      | 1, _ => exact F1.out
                      | 2, _ => exact F2.out
                      | 3, _ => exact F3.out
                      | 4, _ => exact F4.out
                      | j + 5, hj => omega) (by rw [HLD.out, HD0.out, h47]; rfl))
                    have hn47 : nb d0 = 47 := by rw [h47]; exact nb47
                    rw [hn47] at z5
                    go_wp2_with fail
                    go_ret
                    exact ⟨pret_num (by rw [HR.out]; rfl), HX.out.2.2.trans (H5.out.2.mono HX.out.2.2.size)⟩
                  · have F5 : Hid (failE e es false 5 = false) := Lib.hid (by rw [HLD.out, HD0.out, decide_eq_false (show ¬ (some d0 = some 47#8) from fun h => h47 (by injection h))]; rfl)
                    have hn47 : ¬ nb d0 = 47 := by
                      intro h
                      apply h47
                      apply BitVec.eq_of_toNat_eq
                      unfold nb at h
                      show d0.toNat = 47
                      omega
                    have hn48 : (nb d0 == 47) = false := by simpa using hn47
                    go_wp2_with fail
                    refine (rfind12_any w5 A n c xs es (HX.out.2.1.below H5.out.2) PA (q + 1) pc e.path (HX.out.1.path.below H5.out.2)).mono ?_
                    rintro en w7 ⟨rfl, h7⟩
                    have hb7 := H5.out.2.trans (h7.mono H5.out.2.size)
                    have H7 := Lib.hid (And.intro (HK.out.below hb7 HK.out.lt) hb7)
                    obtain ⟨y0, y1, y2, y3⟩ := four_ev H7.out.1
                    clear h7 hb7
                    have HA := Lib.hid (show twiceE es e.path = (atE es e.path).isSome from rfl)
                    cases ha : atE es e.path with
                    | some ii =>
                      have HR : Hid (refE e es false = errE 6) := Lib.hid (ref_found (by omega) (fun j hj => by
                        match j, hj with
                        | 0, _ => exact F0.out
                        | 1, _ => exact F1.out
                        | 2, _ => exact F2.out
                        | 3, _ => exact F3.out
                        | 4, _ => exact F4.out
                        | 5, _ => exact F5.out
                        | j + 6, hj => omega) (by show twiceE es e.path = true; rw [HA.out, ha]; rfl))
                      have c0 : (0 : Int) ≤ (ii : Int) := by omega
                      clear ha
                      unfold plN
                      go_wp2_with fail
                      go_ret
                      exact ⟨pret_num (by rw [HR.out]; rfl), HX.out.2.2.trans (H7.out.2.mono HX.out.2.2.size)⟩
                    | none =>
                      have F6 : Hid (failE e es false 6 = false) := Lib.hid (by show twiceE es e.path = false; rw [HA.out, ha]; rfl)
                      clear ha
                      unfold plN
                      have HH : Hid (homeP e.path = e.path.take q) := Lib.hid (by
                        unfold homeP
                        rw [if_neg (by rw [HRT.out, HQ.out.2.1]; simp), HQ.out.2.1]
                        rfl)
                      have HHL : Hid ((homeP e.path).length = q) := Lib.hid (by rw [HH.out, List.length_take, HQ.out.2.1]; omega)
                      by_cases hq0 : q = 0
                      · have F7 : Hid (failE e es false 7 = false) := Lib.hid (by
                          show nowhereE es e.path = false
                          unfold nowhereE
                          rw [if_pos (by rw [HHL.out]; exact hq0)])
                        subst hq0
                        have HR : Hid (refE e es false = 0) := Lib.hid (ref_none (fun j hj => by
                          match j, hj with
                          | 0, _ => exact F0.out
                          | 1, _ => exact F1.out
                          | 2, _ => exact F2.out
                          | 3, _ => exact F3.out
                          | 4, _ => exact F4.out
                          | 5, _ => exact F5.out
                          | 6, _ => exact F6.out
                          | 7, _ => exact F7.out
                          | 8, _ => rfl
                          | j + 9, hj => omega))
                        go_wp2_with fail
                        go_ret
                        exact ⟨pret_num (by rw [HR.out]), HX.out.2.2.trans (H7.out.2.mono HX.out.2.2.size)⟩
                      · have c1 : (0 : Int) < (q : Int) := by omega
                        have HS := Lib.hid (HX.out.1.path.take (k := q) (c' := pc) (show q ≤ q + 1 by omega) (show q ≤ pc by omega) (Nat.le_refl _))
                        rw [← HH.out] at HS
                        go_wp2_with fail
                        refine (rfind12_any w7 A n c xs es (HX.out.2.1.below H7.out.2) PA q pc (homeP e.path) (HS.out.below H7.out.2)).mono ?_
                        rintro en w8 ⟨rfl, h8⟩
                        have hb8 := H7.out.2.trans (h8.mono H7.out.2.size)
                        have H8 := Lib.hid (And.intro (HK.out.below hb8 HK.out.lt) hb8)
                        obtain ⟨y0, y1, y2, y3⟩ := four_ev H8.out.1
                        clear h8 hb8
                        have HN : Hid (nowhereE es e.path = nowAt es (atE es (homeP e.path))) := Lib.hid (by
                          unfold nowhereE
                          rw [if_neg (by rw [HHL.out]; exact hq0)])
                        cases hh : atE es (homeP e.path) with
                        | none =>
                          have HR : Hid (refE e es false = errE 7) := Lib.hid (ref_found (by omega) (fun j hj => by
                            match j, hj with
                            | 0, _ => exact F0.out
                            | 1, _ => exact F1.out
                            | 2, _ => exact F2.out
                            | 3, _ => exact F3.out
                            | 4, _ => exact F4.out
                            | 5, _ => exact F5.out
                            | 6, _ => exact F6.out
                            | j + 7, hj => omega) (by show nowhereE es e.path = true; rw [HN.out, hh]; rfl))
                          clear hh
                          unfold plN
                          go_wp2_with fail
                          go_ret
                          exact ⟨pret_num (by rw [HR.out]; rfl), HX.out.2.2.trans (H8.out.2.mono HX.out.2.2.size)⟩
                        | some ii =>
                          obtain ⟨en, hen, _⟩ := ate_lt es _ ii hh
                          have hii : ii < n := by rw [← HX.out.2.1.elen]; exact (List.getElem?_eq_some_iff.1 hen).1
                          have hfx := rfind12_any w8 A n c xs es (HX.out.2.1.below H8.out.2) PA q pc (homeP e.path) (HS.out.below H8.out.2)
                          rw [hh] at hfx
                          have HFX := Lib.hid hfx
                          have HNI : Hid (nowhereE es e.path = !(decide (en.kind = 1))) := Lib.hid (by rw [HN.out, hh]; exact nowAt_some hen)
                          clear hh hfx
                          have c2 : ¬ (ii : Int) < 0 := by omega
                          have c3 : ((ii : Int) < 0) = False := eq_false (by omega)
                          have c4 : (0 : Int) ≤ (ii : Int) := by omega
                          have c5 : (ii : Int) < (n : Int) := by omega
                          unfold plN
                          go_wp2_with fail
                          refine HFX.out.mono ?_
                          rintro en9 w9 ⟨rfl, h9⟩
                          have hb9 := H8.out.2.trans (h9.mono H8.out.2.size)
                          have H9 := Lib.hid (And.intro (HK.out.below hb9 HK.out.lt) hb9)
                          obtain ⟨g, o, xi, ei, rfl, hg, hxi, hei, hoi, hcl⟩ := (HX.out.2.1.below hb9).row hii
                          have z1 : w9.cell? ⟨g, o + ii * 4 + 1, none⟩ = some (.int .i64 xi.k) := hcl 1 _ rfl
                          have HEI : Hid (en.kind = xi.k) := Lib.hid (by
                            rw [hei] at hen
                            cases hen
                            exact hoi.kind)
                          clear h9 hb9 hg hxi hei hoi hcl hen HFX
                          unfold plN
                          by_cases hk1 : xi.k = 1
                          · have F7 : Hid (failE e es false 7 = false) := Lib.hid (by show nowhereE es e.path = false; rw [HNI.out, HEI.out, hk1]; rfl)
                            rw [hk1] at z1
                            have HR : Hid (refE e es false = 0) := Lib.hid (ref_none (fun j hj => by
                              match j, hj with
                              | 0, _ => exact F0.out
                              | 1, _ => exact F1.out
                              | 2, _ => exact F2.out
                              | 3, _ => exact F3.out
                              | 4, _ => exact F4.out
                              | 5, _ => exact F5.out
                              | 6, _ => exact F6.out
                              | 7, _ => exact F7.out
                              | 8, _ => rfl
                              | j + 9, hj => omega))
                            go_wp2_with fail
                            go_ret
                            exact ⟨pret_num (by rw [HR.out]), HX.out.2.2.trans (H9.out.2.mono HX.out.2.2.size)⟩
                          · have HR : Hid (refE e es false = errE 7) := Lib.hid (ref_found (by omega) (fun j hj => by
                              match j, hj with
                              | 0, _ => exact F0.out
                              | 1, _ => exact F1.out
                              | 2, _ => exact F2.out
                              | 3, _ => exact F3.out
                              | 4, _ => exact F4.out
                              | 5, _ => exact F5.out
                              | 6, _ => exact F6.out
                              | j + 7, hj => omega) (by show nowhereE es e.path = true; rw [HNI.out, HEI.out, decide_eq_false hk1]; rfl))
                            have c6 : (xi.k == 1) = false := by simpa using hk1
                            go_wp2_with fail
                            go_ret
                            exact ⟨pret_num (by rw [HR.out]; rfl), HX.out.2.2.trans (H9.out.2.mono HX.out.2.2.size)⟩
                · have HR : Hid (refE e es false = errE 5) := Lib.hid (ref_found (by omega) (fun j hj => by
                    match j, hj with
                    | 0, _ => exact F0.out
                    | 1, _ => exact F1.out
                    | 2, _ => exact F2.out
                    | 3, _ => exact F3.out
                    | 4, _ => exact F4.out
                    | j + 5, hj => omega) (by rw [HLD.out, decide_eq_false hb0]; rfl))
                  have hb1 : (bad == 0) = false := by simpa using hb0
                  go_wp2_with fail
                  go_ret
                  exact ⟨pret_num (by rw [HR.out]; rfl), HX.out.2.2.trans (H5.out.2.mono HX.out.2.2.size)⟩
          · have HR : Hid (refE e es false = errE 2) := Lib.hid (ref_found (by omega) (fun j hj => by
              match j, hj with
              | 0, _ => exact F0.out
              | 1, _ => exact F1.out
              | j + 2, hj => omega) (by show riskyE e.kind e.mode = true; rw [HMO.out, decide_eq_false hm0]; rfl))
            have hm1 : (rf == 0) = false := by simpa using hm0
            go_wp2_with fail
            go_ret
            exact ⟨pret_num (by rw [HR.out]; rfl), HX.out.2.2.trans (H4.out.2.mono HX.out.2.2.size)⟩
end Go.Proofs.YtlpljedacohngaaGreatDoor
end

/-
  Reading: numbers. Conditions: what is left lies in memory, and not in the reader.
-/

section
set_option linter.unusedSimpArgs false
set_option linter.unusedVariables false
set_option maxRecDepth 100000
namespace Go.Proofs.YtlpljedacohngaaGreatDoor
open Go.RowKit

theorem List_take_snoc {α : Type} {ws : List α} {i : Nat} {p : α} (h : ws[i]? = some p) : ws.take (i + 1) = ws.take i ++ [p] := by
  obtain ⟨hi, rfl⟩ := List.getElem?_eq_some_iff.1 h
  exact List.take_succ_eq_append_getElem hi
set_option maxHeartbeats 1000000 in
theorem snum_din (w : World) (A : Option Addr) (m c : Nat) (xs : List B8) (hx : DIn w A m c xs) (hm : m ≤ 8) :
    Calls Tryz.prog 40 #[.slice A m c] w fun e w' => e = .returned (.int .u64 (fromB xs)) ∧ w' = w := by
  have hlen := hx.len
  have H := Lib.hid (And.intro hx hlen)
  clear hx hlen
  go_enter Tryz.func40, Tryz.ntmps40
  go_wp2_with fail
  go_loop [3, 8] (fun v iv => ∃ i : Nat, i ≤ m ∧ iv = .int .i64 i ∧ v = .int .u64 (fromB (xs.take i))) (fun _ iv => m - (intOf iv).toNat)
  case atStart => exact ⟨0, Nat.zero_le _, rfl, rfl⟩
  case round =>
    obtain ⟨i, hi, rfl, rfl⟩ := hrel
    by_cases hlt : i < m
    · obtain ⟨g, o, rfl, _, hc⟩ := H.out.1.cells (by omega)
      have hxi : i < xs.length := by have := H.out.2; omega
      have hci := hc i (.int .u8 (nb xs[i])) (by rw [Vb_get, List.getElem?_eq_getElem hxi]; rfl)
      clear hc
      have hb := nb_bound xs[i]
      have hlt2 := fromB_lt (xs.take i)
      obtain ⟨a, ha⟩ : ∃ a, fromB (xs.take i) = a := ⟨_, rfl⟩
      rw [ha] at hlt2 ⊢
      have ha56 : a < 2 ^ 56 := by
        have : (xs.take i).length ≤ 7 := by rw [List.length_take]; omega
        have : 256 ^ (xs.take i).length ≤ 256 ^ 7 := Nat.pow_le_pow_right (by omega) this
        omega
      go_wp2_with fail
      go_round
      case rel =>
        refine ⟨i + 1, by omega, by go_num, ?_⟩
        rw [List_take_snoc (List.getElem?_eq_getElem hxi), fromB_snoc, ha]
        unfold nb
        rw [or_u64n a _ ha56 xs[i].isLt]
      case measure => simp [intOf]; omega
    · obtain rfl : i = m := by omega
      rw [List.take_of_length_le (by have := H.out.2; omega)]
      go_wp2_with fail
      go_ret
      exact ⟨rfl, rfl⟩
/-- Where reading stands, in memory; what is left lies below M. -/
def RdAt (M : Nat) (w : World) (g : Nat) (s : Rs) (lv : Value) : Prop := ∃ L n c, Blk w g 52 [.slice L n c, .bool s.ms, lv] ∧ LIn (fun b => b < M) w L n c s.left
theorem RdAt.below {M : Nat} {w w' : World} {g : Nat} {s : Rs} {lv : Value} (h : RdAt M w g s lv) (hb : Below w.heap.size w w') : RdAt M w' g s lv := by
  obtain ⟨L, n, c, h1, h2⟩ := h
  exact ⟨L, n, c, h1.below hb h1.lt, h2.din.below hb, h2.far⟩
theorem RdAt.lt {M : Nat} {w : World} {g : Nat} {s : Rs} {lv : Value} (h : RdAt M w g s lv) : g < w.heap.size := by
  obtain ⟨L, n, c, h1, h2⟩ := h
  exact h1.lt
theorem DIn.only {w w' : World} {L : Option Addr} {n c : Nat} {bs : List B8} {S : List Nat} (h : DIn w L n c bs) (ho : Only S w w') (hf : ∀ a, L = some a → a.block ∉ S) : DIn w' L n c bs := by
  refine ⟨h.len, h.cap, h.big, h.nil, fun hn => ?_⟩
  obtain ⟨b, o, hA, hb, hc⟩ := h.cells hn
  exact ⟨b, o, hA, Nat.lt_of_lt_of_le hb ho.size, fun j u hu => only_cell ho (hc j u hu) (hf _ hA)⟩
/-- Other memory turns. -/
theorem RdAt.only {M : Nat} {w w' : World} {g : Nat} {s : Rs} {lv : Value} {S : List Nat} (h : RdAt M w g s lv) (ho : Only S w w') (hg : g ∉ S) (hS : ∀ k ∈ S, M ≤ k) : RdAt M w' g s lv := by
  obtain ⟨L, n, c, h1, h2⟩ := h
  exact ⟨L, n, c, h1.only ho hg, h2.din.only ho (fun a ha hm => by have := hS _ hm; have := h2.far a ha; omega), h2.far⟩
/-- What was taken lies below M. -/
def TkV (M : Nat) (w : World) (xs : List B8) (u : Value) : Prop := ∃ A c, u = .slice A xs.length c ∧ DIn w A xs.length c xs ∧ ∀ a, A = some a → a.block < M
theorem TkV.only {M : Nat} {w w' : World} {xs : List B8} {u : Value} {S : List Nat} (h : TkV M w xs u) (ho : Only S w w') (hS : ∀ k ∈ S, M ≤ k) : TkV M w' xs u := by
  obtain ⟨A, c, rfl, h1, h2⟩ := h
  exact ⟨A, c, rfl, h1.only ho (fun a ha hm => by have := hS _ hm; have := h2 a ha; omega), h2⟩
theorem take12_at (M : Nat) (w : World) (g k : Nat) (hg : M ≤ g) (s : Rs) (lv : Value) (h : RdAt M w g s lv) (hk : k ≤ 9223372036854775807) :
    Calls Tryz.prog 41 #[.pointer (some ⟨g, 0, none⟩), .int .i64 k] w fun e w' => Only [g] w w' ∧ (∃ u, e = .returned u ∧ TkV M w' (takeR k s).1 u) ∧ RdAt M w' g (takeR k s).2 lv := by
  obtain ⟨L, n, c, h1, h2⟩ := h
  refine (take_any (fun b => b < M) w g k (by omega) L n c s.left s.ms lv h1 h2 hk).mono ?_
  rintro e w' ⟨hO, h⟩
  have hl := h2.din.len
  have hf : ∀ a, L = some a → a.block ∉ [g] := fun a ha hm => by have := h2.far a ha; simp at hm; omega
  refine ⟨hO, ?_⟩
  rcases h with ⟨hlt, rfl, hB⟩ | ⟨hle, rfl, L', hB, hL⟩
  · have e1 : takeR k s = ([], ⟨s.left, true⟩) := by unfold takeR; rw [if_pos (by omega)]
    rw [e1]
    exact ⟨⟨_, rfl, none, 0, rfl, DIn.none _, fun a ha => by cases ha⟩, L, n, c, hB, h2.din.only hO hf, h2.far⟩
  · have e1 : takeR k s = (s.left.take k, ⟨s.left.drop k, s.ms⟩) := by unfold takeR; rw [if_neg (by omega)]
    rw [e1]
    have hlt : (s.left.take k).length = k := by rw [List.length_take]; omega
    have hcap := h2.din.cap
    exact ⟨⟨_, rfl, L, c, by rw [hlt], by rw [hlt]; exact (h2.din.only hO hf).take (by omega) (by omega) (Nat.le_refl _), h2.far⟩, L', n - k, c - k, hB, hL⟩
theorem take_len {k : Nat} {s : Rs} : (takeR k s).1.length ≤ k := by
  unfold takeR
  split
  · simp
  · rw [List.length_take]; omega
set_option maxHeartbeats 1000000 in
theorem number12_any (M : Nat) (w : World) (g k : Nat) (hg : M ≤ g) (s : Rs) (lv : Value) (h : RdAt M w g s lv) (hk : k ≤ 2) :
    Calls Tryz.prog 26 #[.pointer (some ⟨g, 0, none⟩), .int .i64 k] w fun e w' => Only [g] w w' ∧ e = .returned (.int .i64 ((numR k s).1 : Nat)) ∧ RdAt M w' g (numR k s).2 lv := by
  have HT := Lib.hid (take12_at M w g k hg s lv h (by omega))
  have hl := take_len (k := k) (s := s)
  have hf := fromB_lt (takeR k s).1
  have hq : 256 ^ (takeR k s).1.length ≤ 256 ^ 2 := Nat.pow_le_pow_right (by omega) (by omega)
  obtain ⟨z, hz⟩ : ∃ z, fromB (takeR k s).1 = z := ⟨_, rfl⟩
  have hzb : z < 65536 := by omega
  have HL := Lib.hid (And.intro hl hz)
  clear h hl hf hq hz
  go_enter Tryz.func26, Tryz.ntmps26
  go_wp2_with fail
  refine HT.out.mono ?_
  rintro e w1 ⟨hO, ⟨u, rfl, A, c, rfl, hd, hA⟩, hR⟩
  have H1 := Lib.hid (And.intro hO (And.intro hd hR))
  clear hO hd hA hR
  go_wp2_with fail
  refine (snum_din w1 A _ c (takeR k s).1 H1.out.2.1 (by have := HL.out.1; omega)).mono ?_
  rintro e w2 ⟨rfl, rfl⟩
  rw [HL.out.2]
  go_wp2_with fail
  go_ret
  refine ⟨H1.out.1, ?_, H1.out.2.2⟩
  show Ending.returned (Value.int .i64 (z : Int)) = Ending.returned (Value.int .i64 ((fromB (takeR k s).1 : Nat) : Int))
  rw [HL.out.2]
end Go.Proofs.YtlpljedacohngaaGreatDoor
end
