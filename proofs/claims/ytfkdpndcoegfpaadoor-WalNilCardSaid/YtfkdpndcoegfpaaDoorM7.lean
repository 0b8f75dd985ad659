/-
  Commit: all writes, as one transaction; or why not. Conditions: the disk has power that never goes; the writes are to unlike sectors that are there, bytes of a sector.
-/
import Derived.Test.YtfkdpndcoegfpaaDoorM6
import Derived.Test.YtfkdpndcoegfpaaDoorM2
section
set_option maxRecDepth 100000
set_option linter.unusedSimpArgs false
set_option linter.unusedVariables false
namespace Go.Proofs.YtfkdpndcoegfpaaDoor
open Go.RowKit

/-- Writes to unlike data sectors, each of a sector's bytes. -/
structure Right (data : Nat) (ws : List (Int × List B8)) : Prop where
  each : ∀ p ∈ ws, 0 ≤ p.1 ∧ p.1 < data ∧ p.2.length = 64
  nodup : (secs ws).Nodup
theorem check_right (w : World) (A : Nat → Prop) (P : Option Addr) (m c data : Nat) (ws : List (Int × List B8)) (hw : Wrs A w (.slice P m c) ws) (hr : Right data ws) (hd : data ≤ 4096) :
    Calls Tryd.prog 33 #[.slice P m c] w fun e w' => e = .returned (.int .i64 0) ∧ Below w.heap.size w w' := by
  refine (check_any w A P m c ws hw (fun p hp => by obtain ⟨h1, h2, h3⟩ := hr.each p hp; exact ⟨h1, by omega, h3⟩)).mono fun e w' ⟨h, hb⟩ => ⟨?_, hb⟩
  rcases h with ⟨h, _⟩ | ⟨_, h⟩
  · exact h
  · exact absurd hr.nodup h

section
variable {B D L G n j : Nat} {S : Nat → List B8} {cw cf : Nat} {w : World} {A : Nat → Prop} {P : Option Addr} {m c done : Nat} {x : Int × Int} {red : Bool} {ws : List (Int × List B8)}
theorem refused_ok (hd : Idle B D L n S cw cf w) (hG : Blk w G 49 (logCells D j x done red)) (hw : Wrs A w (.slice P m c) ws) (hr : Right (n - j - 1) ws) (hj : j + 1 < n) (hm : m ≤ j / 2) (hdn : done < 1152921504606846976) :
    Calls Tryd.prog 20 #[.pointer (some ⟨G, 0, none⟩), .slice P m c] w fun e w' => e = .returned (.int .i64 0) ∧ Below w.heap.size w w' := by
  have hnb := hd.bound
  obtain ⟨g0, g1, g5, g6⟩ := log_cells hG
  have H := Lib.hid (And.intro hd (And.intro hG (And.intro hw hr)))
  have h1 : decide ((j : Int) / 2 < (m : Int)) = false := by simp; omega
  have h2 : decide ((1152921504606846976 : Int) ≤ (done : Int)) = false := by simp; omega
  clear hd hG hw hr hdn
  go_enter Tryd.func20, Tryd.ntmps20
  go_wp2_with (first
    | (go_at_call 12; refine (on_idle H.out.1.calm).mono ?_; rintro e w' ⟨rfl, rfl⟩)
    | (go_at_call 33; refine (check_right _ A P m c (n - j - 1) ws H.out.2.2.1 H.out.2.2.2 (by omega)).mono ?_; rintro e w1 ⟨rfl, hb⟩; have ⟨g0, g1, g5, g6⟩ := log_cells (H.out.2.1.below hb H.out.2.1.lt); have H1 := Lib.hid hb; clear hb)
    | (go_at_call 34; refine (hasAll_yes B D L n j S cw cf _ A P m c ws (H.out.1.below H1.out).calm hj hnb.2 (H.out.2.2.1.below H1.out) (fun p hp => ⟨(H.out.2.2.2.each p hp).1, (H.out.2.2.2.each p hp).2.1⟩)).mono ?_; rintro e w2 ⟨rfl, hb⟩; have ⟨g0, g1, g5, g6⟩ := log_cells (H.out.2.1.below (below_of H1.out hb) H.out.2.1.lt); have H2 := Lib.hid (below_of H1.out hb); clear hb)
    | (go_at_call 25; refine (jmost_any (D := D) (j := j) (by omega)).mono ?_; rintro e w3 ⟨rfl, hb⟩; have ⟨g0, g1, g5, g6⟩ := log_cells (H.out.2.1.below (below_of H2.out hb) H.out.2.1.lt); have H3 := Lib.hid (below_of H2.out hb); clear hb))
  go_ret
  exact ⟨rfl, H3.out⟩
theorem refused_full (hd : Idle B D L n S cw cf w) (hG : Blk w G 49 (logCells D j x done red)) (hw : Wrs A w (.slice P m c) ws) (hr : Right (n - j - 1) ws) (hj : j + 1 < n) (hm : j / 2 < m) :
    Calls Tryd.prog 20 #[.pointer (some ⟨G, 0, none⟩), .slice P m c] w fun e w' => e = .returned (.int .i64 6) ∧ Below w.heap.size w w' := by
  have hnb := hd.bound
  obtain ⟨g0, g1, g5, g6⟩ := log_cells hG
  have H := Lib.hid (And.intro hd (And.intro hG (And.intro hw hr)))
  have h1 : ((j / 2 : Nat) : Int) < (m : Int) := by omega
  have h1' : decide (j / 2 < m) = true := by simpa using hm
  clear hd hG hw hr
  go_enter Tryd.func20, Tryd.ntmps20
  go_wp2_with (first
    | (go_at_call 12; refine (on_idle H.out.1.calm).mono ?_; rintro e w' ⟨rfl, rfl⟩)
    | (go_at_call 33; refine (check_right _ A P m c (n - j - 1) ws H.out.2.2.1 H.out.2.2.2 (by omega)).mono ?_; rintro e w1 ⟨rfl, hb⟩; have ⟨g0, g1, g5, g6⟩ := log_cells (H.out.2.1.below hb H.out.2.1.lt); have H1 := Lib.hid hb; clear hb)
    | (go_at_call 34; refine (hasAll_yes B D L n j S cw cf _ A P m c ws (H.out.1.below H1.out).calm hj hnb.2 (H.out.2.2.1.below H1.out) (fun p hp => ⟨(H.out.2.2.2.each p hp).1, (H.out.2.2.2.each p hp).2.1⟩)).mono ?_; rintro e w2 ⟨rfl, hb⟩; have ⟨g0, g1, g5, g6⟩ := log_cells (H.out.2.1.below (below_of H1.out hb) H.out.2.1.lt); have H2 := Lib.hid (below_of H1.out hb); clear hb)
    | (go_at_call 25; refine (jmost_any (D := D) (j := j) (by omega)).mono ?_; rintro e w3 ⟨rfl, hb⟩; have H3 := Lib.hid (below_of H2.out hb); clear hb))
  go_ret
  exact ⟨rfl, H3.out⟩
theorem commit_nil (w : World) (P : Option Addr) (m c : Nat) : Calls Tryd.prog 7 #[.pointer none, .slice P m c] w fun e w' => e = .returned (.int .i64 16) ∧ w = w' := by
  go_enter Tryd.func7, Tryd.ntmps7
  go_wp2_with fail
  go_ret
  exact ⟨rfl, rfl⟩
theorem commit_full (hd : Idle B D L n S cw cf w) (hG : Blk w G 49 (logCells D j x done red)) (hw : Wrs A w (.slice P m c) ws) (hr : Right (n - j - 1) ws) (hj : j + 1 < n) (hm : j / 2 < m) :
    Calls Tryd.prog 7 #[.pointer (some ⟨G, 0, none⟩), .slice P m c] w fun e w' => e = .returned (.int .i64 6) ∧ Below w.heap.size w w' := by
  have HC := Lib.hid (refused_full hd hG hw hr hj hm)
  clear hd hG hw hr hj hm
  go_enter Tryd.func7, Tryd.ntmps7
  go_wp2_with (go_at_call 20; refine HC.out.mono ?_; rintro e w' ⟨rfl, hb⟩; have HB := Lib.hid hb; clear hb)
  go_ret
  exact ⟨rfl, HB.out⟩
theorem commit_none (hd : Idle B D L n S cw cf w) (hG : Blk w G 49 (logCells D j x done red)) (hw : Wrs A w (.slice P 0 c) []) (hj : j + 1 < n) (hdn : done < 1152921504606846976) :
    Calls Tryd.prog 7 #[.pointer (some ⟨G, 0, none⟩), .slice P 0 c] w fun e w' => e = .returned (.int .i64 0) ∧ Below w.heap.size w w' := by
  have HC := Lib.hid (refused_ok hd hG hw ⟨fun p hp => by simp at hp, List.nodup_nil⟩ hj (Nat.zero_le _) hdn)
  clear hd hG hw hj hdn
  go_enter Tryd.func7, Tryd.ntmps7
  go_wp2_with (go_at_call 20; refine HC.out.mono ?_; rintro e w' ⟨rfl, hb⟩; have HB := Lib.hid hb; clear hb)
  go_ret
  exact ⟨rfl, HB.out⟩

theorem jrnOf_mem {num m : Nat} {d : List B8} {ws : List (Int × List B8)} {p : Int × List B8} (h : p ∈ jrnOf num m d ws) : ∃ (i : Nat) (q : Int × List B8), ws[i]? = some q ∧ (p = (((1 + 2 * i : Nat) : Int), noteB num i m q.1.toNat d) ∨ p = (((1 + 2 * i + 1 : Nat) : Int), q.2)) := by
  unfold jrnOf at h
  obtain ⟨l, hl, hp⟩ := List.mem_flatten.1 h
  obtain ⟨i, hi, rfl⟩ := List.mem_mapIdx.1 hl
  refine ⟨i, ws[i], List.getElem?_eq_getElem hi, ?_⟩
  simpa using hp
theorem jrnOf_ok {num m n j : Nat} {d : List B8} {ws : List (Int × List B8)} (hd : d.length = 32) (hlen : ws.length = m) (hm : m ≤ j / 2) (hj : j + 1 < n) (hok : ∀ p ∈ ws, p.2.length = 64) : ∀ p ∈ jrnOf num m d ws, 0 ≤ p.1 ∧ p.1 < n ∧ p.2.length = 64 := by
  intro p hp
  obtain ⟨i, q, hq, rfl | rfl⟩ := jrnOf_mem hp
  · have hi := (List.getElem?_eq_some_iff.1 hq).1
    exact ⟨by show (0 : Int) ≤ ((1 + 2 * i : Nat) : Int); omega, by show ((1 + 2 * i : Nat) : Int) < n; omega, noteB_length _ _ _ _ hd⟩
  · have hi := (List.getElem?_eq_some_iff.1 hq).1
    exact ⟨by show (0 : Int) ≤ ((1 + 2 * i + 1 : Nat) : Int); omega, by show ((1 + 2 * i + 1 : Nat) : Int) < n; omega, hok q (List.mem_of_getElem? hq)⟩
/-- The sectors behind a commit. -/
def behind (ks : List B32) (j num m : Nat) (S : Nat → List B8) (ws : List (Int × List B8)) : Nat → List B8 := upd (layS (layS S (jrnOf num m (digOf ks num ws) ws)) (dataOf j ws)) 0 (headB ks num)

set_option maxHeartbeats 2000000 in
theorem commit_ok (ks : List B32) (hd : Idle B D L n S cw cf w) (hB : B ≤ w.heap.size) (hK : Roots ks w) (hKB : 1 < B) (hBG : B ≤ G) (hG : Blk w G 49 (logCells D j x done red)) (hw : Wrs A w (.slice P m c) ws) (hA : ∀ g, A g → g ∉ [D, L, G]) (hr : Right (n - j - 1) ws) (hj : j + 1 < n) (hm0 : 0 < m) (hm : m ≤ j / 2) (hm15 : m ≤ 15) (hdn : done < 1000000) (hcw : cw + 3 * m + 1 < 1000000) (hcf : cf + 3 < 1000000) :
    Calls Tryd.prog 7 #[.pointer (some ⟨G, 0, none⟩), .slice P m c] w fun e w' => e = .returned (.int .i64 0) ∧
      Idle B D L n (behind ks j (done + 1) m S ws) (cw + 3 * m + 1) (cf + 3) w' ∧ Blk w' G 49 (logCells D j x (done + 1) red) ∧ Stp B [D, L, G] w w' := by
  have hnb := hd.bound
  have hlen := hw.len
  have hdl := hd.lt
  have hGl := hG.lt
  have hDG : D ≠ G := by
    rintro rfl
    obtain ⟨s, hs, _⟩ := hd
    exact absurd (hG.same hs.disk).1 (by decide)
  have hLG : L ≠ G := by
    rintro rfl
    obtain ⟨s, hs, _⟩ := hd
    exact absurd (hG.same hs.laid).1 (by decide)
  have HC := Lib.hid (refused_ok hd hG hw hr hj hm (by omega))
  have H0 := Lib.hid (And.intro hd (And.intro hK (And.intro hG (And.intro hw (And.intro hA (And.intro hr (And.intro hDG (And.intro hLG hlen))))))))
  have hme : ((m : Int) == 0) = false := by rw [beq_eq_false_iff_ne]; omega
  clear hd hK hG hw hA hr hDG hLG hlen
  go_enter Tryd.func7, Tryd.ntmps7
  go_wp2_with (go_at_call 20; refine HC.out.mono ?_; rintro e w1 ⟨rfl, hb⟩; have ⟨g0, g1, g5, g6⟩ := log_cells (H0.out.2.2.1.below hb H0.out.2.2.1.lt); have HB := Lib.hid hb; have hs1 := hb.size; clear hb)
  have hnw := new_below w1 (.cells #[.int .i64 ((done : Int) + 1), .slice P m c] 60)
  have ⟨t0, t1⟩ := blk_pair (Blk.new w1 60 [.int .i64 ((done : Int) + 1), .slice P m c])
  have hG2 := H0.out.2.2.1.below (below_of HB.out hnw) H0.out.2.2.1.lt
  have ⟨x0, x1, _, _⟩ := log_cells hG2
  have H2 := Lib.hid (And.intro (below_of HB.out hnw) (And.intro hG2 (And.intro (Blk.new w1 60 [.int .i64 ((done : Int) + 1), .slice P m c]) hnw)))
  clear hnw hG2 g0 g1 g5 g6
  go_region_held3 (fun w' => w'.cell? ⟨w1.heap.size, 0, none⟩ = some (.int .i64 ((done : Int) + 1)) ∧ w'.cell? ⟨w1.heap.size, 1, none⟩ = some (.slice P m c) ∧ w'.cell? ⟨G, 0, none⟩ = some (.pointer (some ⟨D, 0, none⟩)) ∧ w'.cell? ⟨G, 1, none⟩ = some (.int .i64 (j : Int)))
    (first | exact ⟨f0, f1, f3, f4⟩ | exact ⟨e0, e1, e3, e4⟩ | exact ⟨t0, t1, x0, x1⟩)
    (first
      | (go_at_call 22; refine (inJournal_any ks _ A D j (done + 1) m P c ws (H0.out.2.1.below (H2.out.1.trans ((drew_below _).mono H2.out.1.size)) (by omega)) (H0.out.2.2.2.1.below (H2.out.1.trans ((drew_below _).mono H2.out.1.size))) (by omega) hm15 (by omega) (fun p hp => by have := H0.out.2.2.2.2.2.1.each p hp; omega)).mono ?_; rintro e w3 ⟨v, rfl, hO, hW⟩; obtain ⟨Pv, cv, rfl⟩ := hO.form; have e0 := cell_drew t0 hW; have e1 := cell_drew t1 hW; have e3 := cell_drew x0 hW; have e4 := cell_drew x1 hW; have H3 := Lib.hid (And.intro (idle_drew (H0.out.1.below H2.out.1) hW) (And.intro hO.toWrs (And.intro (below_drew H2.out.1 hW) (And.intro (blk_drew H2.out.2.2.1 hW) (blk_drew H2.out.2.1 hW))))); clear hO hW)
      | (go_at_call 21; refine (jlay_any B _ D L n j S cw cf _ Pv (2 * m) cv (jrnOf (done + 1) m (digOf ks (done + 1) ws) ws) H3.out.1 (Nat.le_trans hB H3.out.2.2.1.size) H3.out.2.1 (fun g hg => by rcases hg with (hg | hg) | hg; exact (fun h => H0.out.2.2.2.2.1 g hg (by simp at h ⊢; rcases h with h | h <;> simp [h])); exact (fun h => by have h2 := hg; simp only [World.size_drew, World.size_alloc] at h2; simp at h; omega); exact (fun h => by have h2 := hg; simp only [World.size_drew, World.size_alloc] at h2; simp at h; omega)) (jrnOf_ok (digOf_length _ _ _) H0.out.2.2.2.2.2.2.2.2 hm hj (fun p hp => (H0.out.2.2.2.2.2.1.each p hp).2.2)) (by omega) (by omega)).mono ?_; rintro e w4 ⟨rfl, h1, h2⟩; have hk4 := h2.keep _ _ _ (by decide) (by simp; omega) H3.out.2.2.2.1; have hG4 := h2.keep _ _ _ (by decide) (by have h1 := H0.out.2.2.2.2.2.2.1; have h2 := H0.out.2.2.2.2.2.2.2.1; simp; omega) H3.out.2.2.2.2; have ⟨f0, f1⟩ := blk_pair hk4; have ⟨f3, f4, _, _⟩ := log_cells hG4; have hst := (Stp.of_below (X := [D, L]) hB H3.out.2.2.1).trans h2; have H4 := Lib.hid (And.intro h1 (And.intro hk4 (And.intro hG4 (And.intro hst (H0.out.2.2.2.1.stp hst (fun g hg h => H0.out.2.2.2.2.1 g hg (by simp at h ⊢; rcases h with h | h <;> simp [h]))))))); clear h1 h2 hk4 hG4 hst))
  clear t0 t1 x0 x1 e0 e1 e3 e4
  go_wp2_with fail
  refine (finish_any ks B w4 D L G n j _ (cw + 2 * m) (cf + 1) A P m c (done + 1) done x red ws H4.out.1 (Nat.le_trans hB H4.out.2.2.2.1.size) (H0.out.2.1.below H4.out.2.2.2.1.below hKB) H4.out.2.2.1 hKB hBG H4.out.2.2.2.2 H0.out.2.2.2.2.1 hj H0.out.2.2.2.2.2.1.each (by omega) (by omega) (by omega) (by omega)).mono ?_
  rintro e w5 ⟨rfl, h1, h2, h3⟩
  have H5 := Lib.hid (And.intro h1 (And.intro h2 ((H4.out.2.2.2.1.mono (Y := [D, L, G]) (by intro k hk _; simp at hk ⊢; rcases hk with h | h <;> simp [h])).trans h3)))
  clear h1 h2 h3 f0 f1 f3 f4
  go_wp2_with fail
  go_ret
  refine ⟨rfl, ?_, H5.out.2.1, H5.out.2.2⟩
  have h := H5.out.1
  rw [show cw + 2 * m + m + 1 = cw + 3 * m + 1 by omega, show cf + 1 + 2 = cf + 3 by omega] at h
  exact h
end
end Go.Proofs.YtfkdpndcoegfpaaDoor
end

/-
  Read, Sectors, Most, Done, Redone. Conditions: the disk has power that never goes; the sector is there.
-/

section
set_option maxRecDepth 100000
set_option linter.unusedSimpArgs false
set_option linter.unusedVariables false
namespace Go.Proofs.YtfkdpndcoegfpaaDoor
open Go.RowKit

theorem jread_nil (w : World) (no : Int) : Calls Tryd.prog 4 #[.pointer none, .int .i64 no] w fun e w' => e = .returned (.tuple #[.slice none 0 0, .int .i64 16]) ∧ w = w' := by
  go_enter Tryd.func4, Tryd.ntmps4
  go_wp2_with fail
  go_ret2
  exact ⟨rfl, rfl⟩
theorem jsectors_nil (w : World) : Calls Tryd.prog 8 #[.pointer none] w fun e w' => e = .returned (.int .i64 0) ∧ w = w' := by
  go_enter Tryd.func8, Tryd.ntmps8
  go_wp2_with fail
  go_ret
  exact ⟨rfl, rfl⟩
theorem jmostm_nil (w : World) : Calls Tryd.prog 9 #[.pointer none] w fun e w' => e = .returned (.int .i64 0) ∧ w = w' := by
  go_enter Tryd.func9, Tryd.ntmps9
  go_wp2_with fail
  go_ret
  exact ⟨rfl, rfl⟩
theorem done_nil (w : World) : Calls Tryd.prog 10 #[.pointer none] w fun e w' => e = .returned (.int .i64 0) ∧ w = w' := by
  go_enter Tryd.func10, Tryd.ntmps10
  go_wp2_with fail
  go_ret
  exact ⟨rfl, rfl⟩
theorem redone_nil (w : World) : Calls Tryd.prog 11 #[.pointer none] w fun e w' => e = .returned (.bool false) ∧ w = w' := by
  go_enter Tryd.func11, Tryd.ntmps11
  go_wp2_with fail
  go_ret
  exact ⟨rfl, rfl⟩

section
variable {B D L G n j : Nat} {S : Nat → List B8} {cw cf : Nat} {w : World} {done : Nat} {x : Int × Int} {red : Bool}
theorem done_any (hG : Blk w G 49 (logCells D j x done red)) : Calls Tryd.prog 10 #[.pointer (some ⟨G, 0, none⟩)] w fun e w' => e = .returned (.int .i64 done) ∧ w = w' := by
  obtain ⟨g0, g1, g5, g6⟩ := log_cells hG
  clear hG
  go_enter Tryd.func10, Tryd.ntmps10
  go_wp2_with fail
  go_ret
  exact ⟨rfl, rfl⟩
theorem redone_any (hG : Blk w G 49 (logCells D j x done red)) : Calls Tryd.prog 11 #[.pointer (some ⟨G, 0, none⟩)] w fun e w' => e = .returned (.bool red) ∧ w = w' := by
  obtain ⟨g0, g1, g5, g6⟩ := log_cells hG
  clear hG
  go_enter Tryd.func11, Tryd.ntmps11
  go_wp2_with fail
  go_ret
  exact ⟨rfl, rfl⟩
theorem jsectors_any (hd : Idle B D L n S cw cf w) (hG : Blk w G 49 (logCells D j x done red)) (hj : j + 1 < n) :
    Calls Tryd.prog 8 #[.pointer (some ⟨G, 0, none⟩)] w fun e w' => e = .returned (.int .i64 ((n - j - 1 : Nat) : Int)) ∧ Below w.heap.size w w' := by
  have hnb := hd.bound
  obtain ⟨g0, g1, g5, g6⟩ := log_cells hG
  have HD := Lib.hid hd
  clear hG hd
  go_enter Tryd.func8, Tryd.ntmps8
  go_wp2_with (go_at_call 24; refine (data_any HD.out.calm hj hnb.2).mono ?_; rintro e w' ⟨rfl, hb⟩; have HB := Lib.hid hb; clear hb)
  go_ret
  exact ⟨rfl, HB.out⟩
set_option maxHeartbeats 1000000 in
theorem jread_any (hd : Idle B D L n S cw cf w) (hG : Blk w G 49 (logCells D j x done red)) (hj : j + 1 < n) (k : Nat) (hk : k < n - j - 1) :
    Calls Tryd.prog 4 #[.pointer (some ⟨G, 0, none⟩), .int .i64 k] w fun e w' => ∃ v, e = .returned (.tuple #[v, .int .i64 0]) ∧ Bts (fun g => w.heap.size ≤ g) w' v (S (1 + j + k)) ∧ Below w.heap.size w w' := by
  have hnb := hd.bound
  obtain ⟨g0, g1, g5, g6⟩ := log_cells hG
  have H := Lib.hid (And.intro hd hG)
  have hk1 : 1 + j + k < n := by omega
  clear hG hd
  go_enter Tryd.func4, Tryd.ntmps4
  go_wp2_with (first
    | (go_at_call 12; refine (on_idle H.out.1.calm).mono ?_; rintro e w' ⟨rfl, rfl⟩)
    | (go_at_call 13; refine (has_yes H.out.1.calm hj hnb.2 k (by omega) (by omega)).mono ?_; rintro e w1 ⟨rfl, hb⟩; have ⟨g0, g1, g5, g6⟩ := log_cells (H.out.2.below hb H.out.2.lt); have H1 := Lib.hid hb; clear hb))
  go_region_held3 (fun w' => w'.cell? ⟨G, 0, none⟩ = some (.pointer (some ⟨D, 0, none⟩)) ∧ w'.cell? ⟨G, 1, none⟩ = some (.int .i64 (j : Int)))
    (first | exact ⟨f0, f1⟩ | exact ⟨e0, e1⟩ | exact ⟨g0, g1⟩)
    (first
      | (go_at_call 15; refine (dataAt_any (D := D) (j := j) k (by omega) (by omega)).mono ?_; rintro e w2 ⟨rfl, hW⟩; have e0 := cell_drew g0 hW; have e1 := cell_drew g1 hW; have H2 := Lib.hid (below_drew H1.out hW); clear hW)
      | (go_at_call 14; refine (read_calm (H.out.1.below H2.out).calm hk1).mono ?_; rintro e w3 ⟨v, rfl, hv, hW⟩; have f0 := cell_below e0 hW; have f1 := cell_below e1 hW; have H3 := Lib.hid (And.intro (hv.mono (A' := fun g => w.heap.size ≤ g) (fun g hg _ => Nat.le_trans H2.out.size hg)) (below_of H2.out hW)); clear hW hv))
  go_wp2_with fail
  go_ret2
  exact ⟨_, rfl, H3.out.1, H3.out.2⟩
end
end Go.Proofs.YtfkdpndcoegfpaaDoor
end

/-
  The law's own example of a log: it holds, and leaves what was there as it was. Condition: the constants lie in their variable.
-/

section
set_option maxRecDepth 100000
set_option linter.unusedSimpArgs false
set_option linter.unusedVariables false
namespace Go.Proofs.YtfkdpndcoegfpaaDoor
open Go.RowKit

theorem Bts.bytesAt {A : Nat → Prop} {w : World} {P : Option Addr} {n c : Nat} {xs : List B8} (h : Bts A w (.slice P n c) xs) : BytesAt w P (xs.map nb) := by
  intro hn
  rw [List.length_map] at hn
  obtain ⟨hl, hc⟩ := h.cells
  obtain ⟨g, o, rfl, _, _, hcell⟩ := hc (by omega)
  refine ⟨_, rfl, fun j x hx => ?_⟩
  rw [add_off]
  refine hcell j _ ?_
  rw [List.getElem?_map] at hx
  unfold Vb
  rw [List.getElem?_map]
  cases hb : xs[j]? with
  | none => rw [hb] at hx; cases hx
  | some b => rw [hb] at hx; cases hx; rfl
/-- Same, of two slices of bytes. -/
theorem same_bts {A A' : Nat → Prop} {w : World} {P Q : Option Addr} {n n' c c' : Nat} {xs ys : List B8} (hx : Bts A w (.slice P n c) xs) (hy : Bts A' w (.slice Q n' c') ys) {b : Bool} (hb : decide (xs = ys) = b) :
    Calls Tryd.prog 19 #[.slice P n c, .slice Q n' c'] w fun e w' => e = .returned (.bool b) ∧ Below w.heap.size w w' := by
  have hxl := hx.cells.1
  have hyl := hy.cells.1
  have hmx : n ≤ 9223372036854775807 := by obtain ⟨P', c', e, h1, h2⟩ := hx.form; cases e; omega
  refine (same_walk w P Q n n' c c' (xs.map nb) (ys.map nb) (by simpa using hxl) (by simpa using hyl) hmx hx.bytesAt hy.bytesAt).mono ?_
  rintro e w' ⟨rfl, q, rfl⟩
  refine ⟨?_, drewN_below _ _⟩
  congr 2
  rw [← hb]
  by_cases h : xs = ys
  · subst h; simp
  · rw [decide_eq_false h, beq_eq_false_iff_ne]
    exact fun e => h (map_nb_inj e)
theorem make64 (w : World) : (Instr.makeSlice 23 (.int .i64 64) (.int .i64 64)).run Tryd.prog w = .ok (.slice (some ⟨w.heap.size, 0, none⟩) 64 64) (w.alloc (.cells (Vb zeros64).toArray 5)) := by
  have h := make_bytes w 64 (by omega) (by omega)
  have e : U (List.replicate (64 : Int).toNat 0) = Vb zeros64 := by simp [U, Vb, nb, zeros64]
  rw [e] at h
  exact h

def seven : List B8 := zeros64.set 5 7
theorem seven_cells : (Vb zeros64).set 5 (.int .u8 7) = Vb seven := by
  unfold seven Vb
  rw [List.map_set, show nb (7 : B8) = 7 by unfold nb; rfl]
theorem zeros_at : (Vb zeros64)[5]? = some (.int .u8 0) := by simp [Vb, zeros64, nb]
theorem seven_length : seven.length = 64 := by rfl
theorem zeros_from (o n : Nat) : fromB (sub (List.replicate 64 (0 : B8)) o n) = 0 := by
  unfold sub fromB
  rw [List.drop_replicate, List.take_replicate]
  generalize min n (64 - o) = k
  induction k with
  | zero => rfl
  | succ k ih => rw [List.replicate_succ, List.foldl_cons]; exact ih
theorem known_at (ks : List B32) : behind ks 2 (0 + 1) 1 (fun _ => List.replicate 64 0) [(2, seven)] (1 + 2 + 2) = seven := by
  rfl

theorem Wrs.two {A : Nat → Prop} {w : World} {g : Nat} {n0 n1 : Int} {Q R : Option Addr} {m k m' k' : Nat} {b b' : List B8} (hb : Blk w g 55 [.int .i64 n0, .slice Q m k, .int .i64 n1, .slice R m' k']) (hA : A g) (hu : Bts A w (.slice Q m k) b) (hu' : Bts A w (.slice R m' k') b') : Wrs A w (.slice (some ⟨g, 0, none⟩) 2 2) [(n0, b), (n1, b')] := by
  refine .inr ⟨g, 2, _, rfl, hA, hb, by simp, by unfold maxLen; omega, fun i p hp => ?_⟩
  match i, hp with
  | 0, hp => simp at hp; subst hp; exact ⟨rfl, _, rfl, hu⟩
  | 1, hp => simp at hp; subst hp; exact ⟨rfl, _, rfl, hu'⟩

set_option maxHeartbeats 4000000 in
theorem jknown_walk (ks : List B32) (w : World) (hK : Roots ks w) : Calls Tryd.prog 6 #[] w fun e w' => e = .returned (.bool true) ∧ Below w.heap.size w w' := by
  have hpos := hK.pos
  have HK := Lib.hid hK
  clear hK
  have hmk := make64
  go_enter Tryd.func6, Tryd.ntmps6
  go_wp2_with (first
    | (go_at_call 18; refine (new_idle w 6 (by omega) (by omega)).mono ?_; rintro e w1 ⟨rfl, hI, hW⟩; have H1 := Lib.hid (And.intro hI hW); clear hI hW)
    | (go_at_call 5; refine (open_none ks w.heap.size _ (w.heap.size + 1) w.heap.size 6 2 (fun _ => List.replicate 64 0) 0 0 0 H1.out.1 H1.out.2.size (HK.out.below H1.out.2 hpos) hpos (by omega) (by omega) (by omega) (by omega) (by unfold doneB zeros64; rw [if_pos rfl]) (by rw [zeros_from]; omega)).mono ?_; rintro e w2 ⟨rfl, hI, hG, hS⟩; have H2 := Lib.hid (And.intro hI (And.intro hG hS)); clear hI hG hS))
  have hb2 := new_below w2 (.cells (Vb zeros64).toArray 5)
  have hz3 := Blk.new w2 5 (Vb zeros64)
  have z5 : (w2.alloc (.cells (Vb zeros64).toArray 5)).cell? ⟨w2.heap.size, 5, none⟩ = some (.int .u8 0) := (hz3.cell 5).trans zeros_at
  have zf := hz3.frozen 5
  clear hz3 hb2
  have hk3 := Blk.new w2 5 ((Vb zeros64).set 5 (.int .u8 7))
  rw [seven_cells] at hk3
  have hb3 := new_below w2 (.cells (Vb seven).toArray 5)
  have hs2 := H2.out.2.2.size
  have hs1 := H1.out.2.size
  have hlt := H1.out.1.lt
  have hb4 := new_below (w2.alloc (.cells (Vb seven).toArray 5)) (.cells #[.int .i64 0, .slice (some ⟨w2.heap.size, 0, none⟩) 64 64, .int .i64 1, .slice (some ⟨w2.heap.size, 0, none⟩) 64 64] 55)
  have hk4 := Blk.new (w2.alloc (.cells (Vb seven).toArray 5)) 55 [.int .i64 0, .slice (some ⟨w2.heap.size, 0, none⟩) 64 64, .int .i64 1, .slice (some ⟨w2.heap.size, 0, none⟩) 64 64]
  have HB := Lib.hid (And.intro hk3 (And.intro hb3 (And.intro hb4 hk4)))
  clear hk3 hb3 hb4 hk4 z5 zf
  go_wp2_with fail
  rw [seven_cells]
  refine (commit_full (A := fun g => w2.heap.size ≤ g) (ws := [(0, seven), (1, seven)]) (H2.out.1.below (below_of HB.out.2.1 HB.out.2.2.1)) (H2.out.2.1.below (below_of HB.out.2.1 HB.out.2.2.1) H2.out.2.1.lt) ?_ ⟨?_, ?_⟩ (by omega) (by omega)).mono ?_
  · have hu : Bts (fun g => w2.heap.size ≤ g) ((w2.alloc (.cells (Vb seven).toArray 5)).alloc (.cells #[.int .i64 0, .slice (some ⟨w2.heap.size, 0, none⟩) 64 64, .int .i64 1, .slice (some ⟨w2.heap.size, 0, none⟩) 64 64] 55)) (.slice (some ⟨w2.heap.size, 0, none⟩) 64 64) seven := Bts.whole (HB.out.1.below HB.out.2.2.1 HB.out.1.lt) (.inl rfl) (Nat.le_refl _) seven_length (by omega)
    have hk := HB.out.2.2.2
    simp only [World.size_alloc] at hk
    exact Wrs.two hk (by simp) hu hu
  · intro p hp
    simp only [List.mem_cons, List.not_mem_nil, or_false] at hp
    rcases hp with rfl | rfl <;> exact ⟨by decide, by decide, seven_length⟩
  · simp [secs]
  rintro e w5 ⟨rfl, hW⟩
  have H5 := Lib.hid (And.intro (H2.out.1.below (below_of (below_of HB.out.2.1 HB.out.2.2.1) hW)) (And.intro (H2.out.2.1.below (below_of (below_of HB.out.2.1 HB.out.2.2.1) hW) H2.out.2.1.lt) (And.intro (HB.out.1.below (HB.out.2.2.1.trans (hW.mono HB.out.2.2.1.size)) HB.out.1.lt) (below_of (below_of HB.out.2.1 HB.out.2.2.1) hW))))
  clear hW
  go_wp2_with fail
  have hb6 := new_below w5 (.cells #[.int .i64 2, .slice (some ⟨w2.heap.size, 0, none⟩) 64 64] 55)
  have hk6 := Blk.new w5 55 [.int .i64 2, .slice (some ⟨w2.heap.size, 0, none⟩) 64 64]
  have hs5 := H5.out.2.2.2.size
  have H6 := Lib.hid (And.intro hb6 hk6)
  have hS5 : Stp w.heap.size [] w w5 := (Stp.of_below (Nat.le_refl _) H1.out.2).trans ((H2.out.2.2.mono (Y := [w.heap.size, w.heap.size + 1]) (by intro k hk _; simp at hk ⊢; omega)).trans (Stp.of_below (by omega) H5.out.2.2.2)) |>.mono (by intro k hk hl; simp at hk; omega)
  have HS := Lib.hid hS5
  clear hb6 hk6 hS5
  refine (commit_ok ks (B := w.heap.size) (A := fun g => w2.heap.size ≤ g) (ws := [(2, seven)]) (H5.out.1.below H6.out.1) (by have := H6.out.1.size; omega) (HK.out.below (HS.out.below.trans (H6.out.1.mono (by omega))) hpos) hpos (by omega) (H5.out.2.1.below H6.out.1 H5.out.2.1.lt) ?_ ?_ ⟨?_, ?_⟩ (by omega) (by omega) (by omega) (by omega) (by omega) (by omega) (by omega)).mono ?_
  · exact Wrs.one H6.out.2 (by omega) (Bts.whole (H5.out.2.2.1.below H6.out.1 H5.out.2.2.1.lt) (.inl rfl) (Nat.le_refl _) seven_length (by omega))
  · have h2 := H2.out.2.1.lt
    intro g hg h
    simp only [List.mem_cons, List.not_mem_nil, or_false] at h
    omega
  · intro p hp
    simp only [List.mem_cons, List.not_mem_nil, or_false] at hp
    subst hp
    exact ⟨by decide, by decide, seven_length⟩
  · simp [secs]
  rintro e w7 ⟨rfl, hI, hG, hS⟩
  have hk7 := hS.keep w2.heap.size _ _ (by decide) (by have h2 := H2.out.2.1.lt; simp; omega) (H5.out.2.2.1.below H6.out.1 H5.out.2.2.1.lt)
  have H7 := Lib.hid (And.intro hI (And.intro hG (And.intro hk7 hS)))
  clear hI hG hS hk7
  go_wp2_with fail
  refine (jread_any H7.out.1 H7.out.2.1 (by omega) 2 (by omega)).mono ?_
  rintro e w8 ⟨v, rfl, hv, hW⟩
  rw [known_at] at hv
  obtain ⟨Q, k8, rfl, h8, h8'⟩ := hv.form
  rw [seven_length] at h8 hv ⊢
  have H8 := Lib.hid (And.intro (H7.out.1.below hW) (And.intro (H7.out.2.1.below hW H7.out.2.1.lt) (And.intro (H7.out.2.2.1.below hW H7.out.2.2.1.lt) (And.intro hv hW))))
  clear hW hv
  go_wp2_with (first
    | (go_at_call 8; refine (jsectors_any H8.out.1 H8.out.2.1 (by omega)).mono ?_; rintro e w9 ⟨rfl, hW⟩; have H9 := Lib.hid hW; clear hW)
    | (go_at_call 19; refine (same_bts (b := true) (H8.out.2.2.2.1.below H9.out) (Bts.whole (A := fun _ => True) (H8.out.2.2.1.below H9.out H8.out.2.2.1.lt) (.inl rfl) trivial seven_length (by omega)) (by simp)).mono ?_; rintro e w10 ⟨rfl, hW⟩; have H10 := Lib.hid (below_of H9.out hW); clear hW)
    | (go_at_call 10; refine (done_any (H8.out.2.1.below H10.out H8.out.2.1.lt)).mono ?_; rintro e w11 ⟨rfl, rfl⟩))
  have a5 := HS.out.below
  have a6 := a5.trans (H6.out.1.mono a5.size)
  have a7 := a6.trans H7.out.2.2.2.below
  have a8 := a7.trans (H8.out.2.2.2.2.mono a7.size)
  have a10 := a8.trans (H10.out.mono a8.size)
  go_ret
  exact ⟨rfl, a10⟩
end Go.Proofs.YtfkdpndcoegfpaaDoor
end

/-
  A nil log does nothing: the law's walk. Condition: the constants lie in their variable.
-/

section
set_option maxRecDepth 100000
set_option linter.unusedSimpArgs false
set_option linter.unusedVariables false
namespace Go.Proofs.YtfkdpndcoegfpaaDoor
open Go.RowKit

/-- No disk has no power. -/
theorem open_nil (w : World) (j : Int) : Calls Tryd.prog 5 #[.pointer none, .int .i64 j] w fun e w' => e = .returned (.tuple #[.pointer none, .int .i64 9]) ∧ Below w.heap.size w w' := by
  have hb := new_below w (.cells #[.pointer none, .int .i64 j, .int .u32 0, .int .i32 0, .int .u32 0, .int .i64 0, .bool false] 49)
  have hk := Blk.new w 49 [.pointer none, .int .i64 j, .int .u32 0, .int .i32 0, .int .u32 0, .int .i64 0, .bool false]
  have g0 := hk.cell 0
  simp only [List.getElem?_cons_zero] at g0
  have HB := Lib.hid hb
  clear hb hk
  go_enter Tryd.func5, Tryd.ntmps5
  go_wp2_with (go_at_call 12; refine (on_nil _).mono ?_; rintro e w' ⟨rfl, rfl⟩)
  go_ret2
  exact ⟨rfl, HB.out⟩

theorem jnil_walk (ks : List B32) (w : World) (no : Int) (hK : Roots ks w) : Calls Tryd.prog 3 #[.int .i64 no] w fun e w' => e = .returned (.bool true) ∧ Below w.heap.size w w' := by
  have hpos := hK.pos
  have HK := Lib.hid hK
  clear hK
  go_enter Tryd.func3, Tryd.ntmps3
  go_wp2_with (first
    | (go_at_call 4; refine (jread_nil _ no).mono ?_; rintro e w' ⟨rfl, rfl⟩)
    | (go_at_call 5; refine (open_nil _ 2).mono ?_; rintro e w1 ⟨rfl, hW⟩; have H1 := Lib.hid hW; clear hW)
    | (go_at_call 6; refine (jknown_walk ks _ (HK.out.below H1.out hpos)).mono ?_; rintro e w2 ⟨rfl, hW⟩; have H2 := Lib.hid (below_of H1.out hW); clear hW)
    | (go_at_call 7; refine (commit_nil _ _ _ _).mono ?_; rintro e w' ⟨rfl, rfl⟩)
    | (go_at_call 8; refine (jsectors_nil _).mono ?_; rintro e w' ⟨rfl, rfl⟩)
    | (go_at_call 9; refine (jmostm_nil _).mono ?_; rintro e w' ⟨rfl, rfl⟩)
    | (go_at_call 10; refine (done_nil _).mono ?_; rintro e w' ⟨rfl, rfl⟩)
    | (go_at_call 11; refine (redone_nil _).mono ?_; rintro e w' ⟨rfl, rfl⟩))
  go_ret
  exact ⟨rfl, H2.out⟩
end Go.Proofs.YtfkdpndcoegfpaaDoor
end

/-
  WalNil: for every input the law returns true, and the arguments read as they read: its card, tied to the program's text. Condition: the listed variable reads as its initialiser lays it.
-/

section
set_option linter.unusedSimpArgs false
set_option linter.unusedVariables false
set_option maxRecDepth 100000
namespace Go.Proofs.YtfkdpndcoegfpaaDoor.walNil
open Go.ChangeShapes Go.WideShapes Go.ChangeAt Go.RowKit

set_option maxRecDepth 100000 in
theorem contract (H : Type) (enc : TypeId × Value → H) (W : World) (base : Nat) (args : Array Value) (ds gs : List (DataW H)) (before : List MemPlace)
    (hval : ∀ (j : Nat) t v, Tryd.f3.params[j]? = some t → args[j]? = some v → Value.okWide Tryd.prog W .any base t v)
    (hW : DataW.Whole enc Tryd.prog Tryd.f3.params.toList Rows.walNilSpec.vars false W args.toList ds gs before) (hL : laidMetH Tryd.prog Rows.walNilRow.laid W) :
    Calls Tryd.prog 3 args W fun e W' => ∃ v, e = .returned v ∧ Rows.walNilSpec.post enc Tryd.prog Tryd.f3 false true false false W args v W' := by
  have hW' := hW
  obtain ⟨p, q, hA0, hV, rfl, hfz, hnd⟩ := hW
  have hA : DataW.TrodAll enc Tryd.prog W 0 (fun _ => true) true Tryd.f3.params.toList args.toList ds p := hA0
  rw [Tryd.params3] at hA hval
  obtain ⟨v0, vs0, d0, ds0, p0, q0, hargs, rfl, rfl, h0, r0⟩ := trodAll_cons hA
  obtain ⟨rfl, rfl, rfl⟩ := trodAll_nil r0
  obtain rfl : args = #[v0] := by cases args; simp_all
  obtain ⟨rfl, rfl⟩ := trodVars_none hV
  have k0 := h0
  have lt0 : ∀ x ∈ p0, x.block < W.heap.size := by obtain ⟨m, hm⟩ := k0; exact DataW.trod_lt m _ _ _ hm
  clear hA0
  obtain ⟨n0, rfl⟩ := okWide_int Tryd.underlying3 (hval 0 3 v0 rfl rfl)
  refine (jnil_walk Ks W n0 (roots_of hL)).mono fun e W' ⟨he, bel⟩ => ?_
  subst he
  exact ⟨_, rfl, _, _, _, [], _, [], hW', trodAll_mk1 (shut_bool Tryd.underlying4 _), (trodAll_cons_mk (Below.trod laidOut (by kernel_rfl) (of_decide_eq_true (by kernel_rfl)) k0 bel lt0) trodAll_mk0), rfl, bel.frame _, fun h => by cases h⟩

theorem laid_met (os : Os) : laidMet Tryd.prog Rows.walNilRow.laid ((laidWorld os).forCall (fun _ _ => 0) ⟨#[], #[.int .i64 0], []⟩).memory :=
  laidMet_of_run' 8 (by kernel_rfl) (by kernel_rfl)
theorem reads (os : Os) {H : Type} (enc : TypeId × Value → H) : ∃ places, DataW.whole enc Tryd.prog ((laidWorld os).forCall (fun _ _ => 0) ⟨#[], #[.int .i64 0], []⟩).memory Tryd.f3.params.toList Rows.walNilSpec.vars false (#[.int .i64 0] : Array Value).toList 8 = some ([.lit (.int .i64 0)], [], places) :=
  ⟨[], by kernel_rfl⟩

set_option maxRecDepth 100000 in
theorem lifted (os : Os) (started : os.Started) (H : Type) (enc : TypeId × Value → H) (F : Stop.Interp) :
    ReturnsInHanded {} Tryd.checked os 3 .any ((OpenSpec.ofChange Rows.walNilSpec).preRow enc Tryd.prog Tryd.f3 Rows.walNilRow.domain false Rows.walNilRow.laid) (((OpenSpec.ofChange Rows.walNilSpec).at F).post enc Tryd.prog Tryd.f3 false true false false) := by
  obtain ⟨places, hx⟩ := reads os enc
  refine returnsInHanded_of_row (C := Tryd.checked) (s := OpenSpec.ofChange Rows.walNilSpec) own started (by kernel_rfl) Tryd.func3
    (witness_row_at (enc := enc) (C := Tryd.checked) false (laidWorld os) #[.int .i64 0] rfl (by kernel_rfl) (by kernel_rfl) (by kernel_rfl)
      (OpenSpec.preRow_of_cond 8 hx (by kernel_rfl) (fun k hk => by cases hk) (by kernel_rfl) (laid_met os))) ?_
  intro W base args ds gs before hval hW _ _ _ hL _ _
  exact contract H enc W base args ds gs before hval hW hL

theorem said : Rows.WalNilSaid :=
  OpenClaim.holds_of_cond 3 Tryd.f3 rfl rfl rfl rfl rfl rfl rfl ⟨rfl, rfl, rfl, rfl, rfl⟩ rfl rfl rfl rfl rfl (by kernel_rfl) Tryd.func3 (by kernel_rfl)
    (of_decide_eq_true (by kernel_rfl)) (by unfold Func.isWrapper; first | (rw [if_pos (by decide +kernel)]; kernel_rfl) | (rw [if_neg (by decide +kernel)]; exact ⟨rfl, rfl⟩))
    (fun os started H enc _ F => by rw [OpenClaim.pre_eq_preRow]; exact lifted os started H enc F)

theorem plain (f : FuncId) (fn : Func) (hf : Tryd.pinned.checked.prog.funcNamed "creel/creellaw04.WalNil" = some f) (hfn : Tryd.pinned.checked.prog.funcs[f]? = some fn) :
    false = Tryd.pinned.checked.prog.looks [] ∧ ∀ (j : Nat) t, fn.params[j]? = some t → Tryd.pinned.checked.prog.wantsStandIn t = false := by
  obtain rfl : f = 3 := Option.some.inj ((show Tryd.prog.funcNamed "creel/creellaw04.WalNil" = some 3 by kernel_rfl).symm.trans hf) |>.symm
  obtain rfl : fn = Tryd.f3 := (Option.some.inj (Tryd.func3.symm.trans hfn)).symm
  refine ⟨by kernel_rfl, fun j t ht => ?_⟩
  rw [Tryd.params3] at ht
  have hm : t ∈ [3] := by simpa using Array.mem_of_getElem? ht
  have hall : ([3].all fun u => !Tryd.prog.wantsStandIn u) = true := by kernel_rfl
  exact (show Tryd.prog.wantsStandIn t = false by simpa using List.all_eq_true.1 hall t hm)

end Go.Proofs.YtfkdpndcoegfpaaDoor.walNil
namespace Go.Proofs.YtfkdpndcoegfpaaDoor
theorem WalNil_holds : Rows.WalNilCardSaid :=
  Claim7.holds_tied_plain_at .later [] _ _ _ _ walNil.said (fun _ h => by cases h) (by kernel_rfl) (fun _ h => by cases h) walNil_row_tie rfl ⟨rfl, rfl⟩ (by kernel_rfl) rfl walNil.plain (by kernel_rfl)
end Go.Proofs.YtfkdpndcoegfpaaDoor
end
