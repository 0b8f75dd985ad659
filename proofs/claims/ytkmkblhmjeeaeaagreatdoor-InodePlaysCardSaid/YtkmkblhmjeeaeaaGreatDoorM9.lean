/-
  Commit: all writes, as one transaction; or why not. Conditions: the disk has power that never goes; the writes are to unlike sectors that are there, bytes of a sector.
-/
import Derived.Test.YtkmkblhmjeeaeaaGreatDoorM8
import Derived.Test.YtkmkblhmjeeaeaaGreatDoorM7
import Derived.Outline
import Derived.Deep.QuietTactic
import Derived.BigQuiet
import Derived.Tactics
import Derived.Tactics2
import Derived.Defers
import Derived.Laws.Pointers
import Derived.Laws.LoneSync
import Derived.RegionTactic
import Derived.RegionCalls
import Derived.ChangeAlike
section
set_option maxRecDepth 100000
set_option linter.unusedSimpArgs false
set_option linter.unusedVariables false
namespace Go.Proofs.YtkmkblhmjeeaeaaGreatDoor
open Go.RowKit

/-- Writes to unlike data sectors, each of a sector's bytes. -/
structure Right (data : Nat) (ws : List (Int × List B8)) : Prop where
  each : ∀ p ∈ ws, 0 ≤ p.1 ∧ p.1 < data ∧ p.2.length = 64
  nodup : (secs ws).Nodup
theorem check_right (w : World) (A : Nat → Prop) (P : Option Addr) (m c data : Nat) (ws : List (Int × List B8)) (hw : Wrs A w (.slice P m c) ws) (hr : Right data ws) (hd : data ≤ 4096) :
    Calls Tryz.prog 85 #[.slice P m c] w fun e w' => e = .returned (.int .i64 0) ∧ Below w.heap.size w w' := by
  refine (check_any w A P m c ws hw (fun p hp => by obtain ⟨h1, h2, h3⟩ := hr.each p hp; exact ⟨h1, by omega, h3⟩)).mono fun e w' ⟨h, hb⟩ => ⟨?_, hb⟩
  rcases h with ⟨h, _⟩ | ⟨_, h⟩
  · exact h
  · exact absurd hr.nodup h

section
variable {B D L G n j : Nat} {S : Nat → List B8} {cw cf : Nat} {w : World} {A : Nat → Prop} {P : Option Addr} {m c done : Nat} {x : Int × Int} {red : Bool} {ws : List (Int × List B8)}
theorem refused_ok (hd : Idle B D L n S cw cf w) (hG : Blk w G 131 (logCells D j x done red)) (hw : Wrs A w (.slice P m c) ws) (hr : Right (n - j - 1) ws) (hj : j + 1 < n) (hm : m ≤ j / 2) (hdn : done < 1152921504606846976) :
    Calls Tryz.prog 54 #[.pointer (some ⟨G, 0, none⟩), .slice P m c] w fun e w' => e = .returned (.int .i64 0) ∧ Below w.heap.size w w' := by
  have hnb := hd.bound
  obtain ⟨g0, g1, g5, g6⟩ := log_cells hG
  have H := Lib.hid (And.intro hd (And.intro hG (And.intro hw hr)))
  have h1 : decide ((j : Int) / 2 < (m : Int)) = false := by simp; omega
  have h2 : decide ((1152921504606846976 : Int) ≤ (done : Int)) = false := by simp; omega
  clear hd hG hw hr hdn
  go_enter Tryz.func54, Tryz.ntmps54
  go_wp2_with (first
    | (go_at_call 47; refine (on_idle H.out.1.calm).mono ?_; rintro e w' ⟨rfl, rfl⟩)
    | (go_at_call 85; refine (check_right _ A P m c (n - j - 1) ws H.out.2.2.1 H.out.2.2.2 (by omega)).mono ?_; rintro e w1 ⟨rfl, hb⟩; have ⟨g0, g1, g5, g6⟩ := log_cells (H.out.2.1.below hb H.out.2.1.lt); have H1 := Lib.hid hb; clear hb)
    | (go_at_call 86; refine (hasAll_yes B D L n j S cw cf _ A P m c ws (H.out.1.below H1.out).calm hj hnb.2 (H.out.2.2.1.below H1.out) (fun p hp => ⟨(H.out.2.2.2.each p hp).1, (H.out.2.2.2.each p hp).2.1⟩)).mono ?_; rintro e w2 ⟨rfl, hb⟩; have ⟨g0, g1, g5, g6⟩ := log_cells (H.out.2.1.below (below_of H1.out hb) H.out.2.1.lt); have H2 := Lib.hid (below_of H1.out hb); clear hb)
    | (go_at_call 87; refine (jmost_any (D := D) (j := j) (by omega)).mono ?_; rintro e w3 ⟨rfl, hb⟩; have ⟨g0, g1, g5, g6⟩ := log_cells (H.out.2.1.below (below_of H2.out hb) H.out.2.1.lt); have H3 := Lib.hid (below_of H2.out hb); clear hb))
  go_ret
  exact ⟨rfl, H3.out⟩
theorem refused_full (hd : Idle B D L n S cw cf w) (hG : Blk w G 131 (logCells D j x done red)) (hw : Wrs A w (.slice P m c) ws) (hr : Right (n - j - 1) ws) (hj : j + 1 < n) (hm : j / 2 < m) :
    Calls Tryz.prog 54 #[.pointer (some ⟨G, 0, none⟩), .slice P m c] w fun e w' => e = .returned (.int .i64 6) ∧ Below w.heap.size w w' := by
  have hnb := hd.bound
  obtain ⟨g0, g1, g5, g6⟩ := log_cells hG
  have H := Lib.hid (And.intro hd (And.intro hG (And.intro hw hr)))
  have h1 : ((j / 2 : Nat) : Int) < (m : Int) := by omega
  have h1' : decide (j / 2 < m) = true := by simpa using hm
  clear hd hG hw hr
  go_enter Tryz.func54, Tryz.ntmps54
  go_wp2_with (first
    | (go_at_call 47; refine (on_idle H.out.1.calm).mono ?_; rintro e w' ⟨rfl, rfl⟩)
    | (go_at_call 85; refine (check_right _ A P m c (n - j - 1) ws H.out.2.2.1 H.out.2.2.2 (by omega)).mono ?_; rintro e w1 ⟨rfl, hb⟩; have ⟨g0, g1, g5, g6⟩ := log_cells (H.out.2.1.below hb H.out.2.1.lt); have H1 := Lib.hid hb; clear hb)
    | (go_at_call 86; refine (hasAll_yes B D L n j S cw cf _ A P m c ws (H.out.1.below H1.out).calm hj hnb.2 (H.out.2.2.1.below H1.out) (fun p hp => ⟨(H.out.2.2.2.each p hp).1, (H.out.2.2.2.each p hp).2.1⟩)).mono ?_; rintro e w2 ⟨rfl, hb⟩; have ⟨g0, g1, g5, g6⟩ := log_cells (H.out.2.1.below (below_of H1.out hb) H.out.2.1.lt); have H2 := Lib.hid (below_of H1.out hb); clear hb)
    | (go_at_call 87; refine (jmost_any (D := D) (j := j) (by omega)).mono ?_; rintro e w3 ⟨rfl, hb⟩; have H3 := Lib.hid (below_of H2.out hb); clear hb))
  go_ret
  exact ⟨rfl, H3.out⟩
theorem commit_nil (w : World) (P : Option Addr) (m c : Nat) : Calls Tryz.prog 28 #[.pointer none, .slice P m c] w fun e w' => e = .returned (.int .i64 16) ∧ w = w' := by
  go_enter Tryz.func28, Tryz.ntmps28
  go_wp2_with fail
  go_ret
  exact ⟨rfl, rfl⟩
theorem commit_full (hd : Idle B D L n S cw cf w) (hG : Blk w G 131 (logCells D j x done red)) (hw : Wrs A w (.slice P m c) ws) (hr : Right (n - j - 1) ws) (hj : j + 1 < n) (hm : j / 2 < m) :
    Calls Tryz.prog 28 #[.pointer (some ⟨G, 0, none⟩), .slice P m c] w fun e w' => e = .returned (.int .i64 6) ∧ Below w.heap.size w w' := by
  have HC := Lib.hid (refused_full hd hG hw hr hj hm)
  clear hd hG hw hr hj hm
  go_enter Tryz.func28, Tryz.ntmps28
  go_wp2_with (go_at_call 54; refine HC.out.mono ?_; rintro e w' ⟨rfl, hb⟩; have HB := Lib.hid hb; clear hb)
  go_ret
  exact ⟨rfl, HB.out⟩
theorem commit_none (hd : Idle B D L n S cw cf w) (hG : Blk w G 131 (logCells D j x done red)) (hw : Wrs A w (.slice P 0 c) []) (hj : j + 1 < n) (hdn : done < 1152921504606846976) :
    Calls Tryz.prog 28 #[.pointer (some ⟨G, 0, none⟩), .slice P 0 c] w fun e w' => e = .returned (.int .i64 0) ∧ Below w.heap.size w w' := by
  have HC := Lib.hid (refused_ok hd hG hw ⟨fun p hp => by simp at hp, List.nodup_nil⟩ hj (Nat.zero_le _) hdn)
  clear hd hG hw hj hdn
  go_enter Tryz.func28, Tryz.ntmps28
  go_wp2_with (go_at_call 54; refine HC.out.mono ?_; rintro e w' ⟨rfl, hb⟩; have HB := Lib.hid hb; clear hb)
  go_ret
  exact ⟨rfl, HB.out⟩

theorem jrnOf_mem {num m : Nat} {d : List B8} {ws : List (Int × List B8)} {p : Int × List B8} (h : p ∈ jrnOf num m d ws) : ∃ (i : Nat) (q : Int × List B8), ws[i]? = some q ∧ (p = (((1 + 2 * i : Nat) : Int), noteB num i m q.1.toNat d) ∨ p = (((1 + 2 * i + 1 : Nat) : Int), q.2)) := by
  unfold jrnOf at h
  obtain ⟨l, hl, hp⟩ := List.mem_flatten.1 h
  obtain ⟨i, hi, rfl⟩ := List.mem_mapIdx.1 hl
  refine ⟨i, ws[i], List.getElem?_eq_getElem hi, ?_⟩
  simpa using hp
theorem jrnOf_ok {num m n j : Nat} {d : List B8} {ws : List (Int × List B8)} (hd : d.length = 32) (hlen : ws.length = m) (hm : m ≤ j / 2) (hj : j + 1 < n) (hok : ∀ p ∈ ws, p.2.length = 64) : ∀ p ∈ jrnOf num m d ws, 0 ≤ p.1 ∧ p.1 < n ∧ p.2.length = 64 := by
  intro p hp
  obtain ⟨i, q, hq, rfl | rfl⟩ := jrnOf_mem hp
  · have hi := (List.getElem?_eq_some_iff.1 hq).1
    exact ⟨by show (0 : Int) ≤ ((1 + 2 * i : Nat) : Int); omega, by show ((1 + 2 * i : Nat) : Int) < n; omega, noteB_length _ _ _ _ hd⟩
  · have hi := (List.getElem?_eq_some_iff.1 hq).1
    exact ⟨by show (0 : Int) ≤ ((1 + 2 * i + 1 : Nat) : Int); omega, by show ((1 + 2 * i + 1 : Nat) : Int) < n; omega, hok q (List.mem_of_getElem? hq)⟩
/-- The sectors behind a commit. -/
def behind (ks : List B32) (j num m : Nat) (S : Nat → List B8) (ws : List (Int × List B8)) : Nat → List B8 := upd (layS (layS S (jrnOf num m (digOf ks num ws) ws)) (dataOf j ws)) 0 (headB ks num)

set_option maxHeartbeats 2000000 in
theorem commit_ok (ks : List B32) (hd : Idle B D L n S cw cf w) (hB : B ≤ w.heap.size) (hK : Roots ks w) (hKB : 1 < B) (hBG : B ≤ G) (hG : Blk w G 131 (logCells D j x done red)) (hw : Wrs A w (.slice P m c) ws) (hA : ∀ g, A g → g ∉ [D, L, G]) (hr : Right (n - j - 1) ws) (hj : j + 1 < n) (hm0 : 0 < m) (hm : m ≤ j / 2) (hm15 : m ≤ 15) (hdn : done < 1000000) (hcw : cw + 3 * m + 1 < 1000000) (hcf : cf + 3 < 1000000) :
    Calls Tryz.prog 28 #[.pointer (some ⟨G, 0, none⟩), .slice P m c] w fun e w' => e = .returned (.int .i64 0) ∧
      Idle B D L n (behind ks j (done + 1) m S ws) (cw + 3 * m + 1) (cf + 3) w' ∧ Blk w' G 131 (logCells D j x (done + 1) red) ∧ Stp B [D, L, G] w w' := by
  have hnb := hd.bound
  have hlen := hw.len
  have hdl := hd.lt
  have hGl := hG.lt
  have hDG : D ≠ G := by
    rintro rfl
    obtain ⟨s, hs, _⟩ := hd
    exact absurd (hG.same hs.disk).1 (by decide)
  have hLG : L ≠ G := by
    rintro rfl
    obtain ⟨s, hs, _⟩ := hd
    exact absurd (hG.same hs.laid).1 (by decide)
  have HC := Lib.hid (refused_ok hd hG hw hr hj hm (by omega))
  have H0 := Lib.hid (And.intro hd (And.intro hK (And.intro hG (And.intro hw (And.intro hA (And.intro hr (And.intro hDG (And.intro hLG hlen))))))))
  have hme : ((m : Int) == 0) = false := by rw [beq_eq_false_iff_ne]; omega
  clear hd hK hG hw hA hr hDG hLG hlen
  go_enter Tryz.func28, Tryz.ntmps28
  go_wp2_with (go_at_call 54; refine HC.out.mono ?_; rintro e w1 ⟨rfl, hb⟩; have ⟨g0, g1, g5, g6⟩ := log_cells (H0.out.2.2.1.below hb H0.out.2.2.1.lt); have HB := Lib.hid hb; have hs1 := hb.size; clear hb)
  have hnw := new_below w1 (.cells #[.int .i64 ((done : Int) + 1), .slice P m c] 141)
  have ⟨t0, t1⟩ := blk_pair (Blk.new w1 141 [.int .i64 ((done : Int) + 1), .slice P m c])
  have hG2 := H0.out.2.2.1.below (below_of HB.out hnw) H0.out.2.2.1.lt
  have ⟨x0, x1, _, _⟩ := log_cells hG2
  have H2 := Lib.hid (And.intro (below_of HB.out hnw) (And.intro hG2 (And.intro (Blk.new w1 141 [.int .i64 ((done : Int) + 1), .slice P m c]) hnw)))
  clear hnw hG2 g0 g1 g5 g6
  go_region_held3 (fun w' => w'.cell? ⟨w1.heap.size, 0, none⟩ = some (.int .i64 ((done : Int) + 1)) ∧ w'.cell? ⟨w1.heap.size, 1, none⟩ = some (.slice P m c) ∧ w'.cell? ⟨G, 0, none⟩ = some (.pointer (some ⟨D, 0, none⟩)) ∧ w'.cell? ⟨G, 1, none⟩ = some (.int .i64 (j : Int)))
    (first | exact ⟨f0, f1, f3, f4⟩ | exact ⟨e0, e1, e3, e4⟩ | exact ⟨t0, t1, x0, x1⟩)
    (first
      | (go_at_call 56; refine (inJournal_any ks _ A D j (done + 1) m P c ws (H0.out.2.1.below (H2.out.1.trans ((drew_below _).mono H2.out.1.size)) (by omega)) (H0.out.2.2.2.1.below (H2.out.1.trans ((drew_below _).mono H2.out.1.size))) (by omega) hm15 (by omega) (fun p hp => by have := H0.out.2.2.2.2.2.1.each p hp; omega)).mono ?_; rintro e w3 ⟨v, rfl, hO, hW⟩; obtain ⟨Pv, cv, rfl⟩ := hO.form; have e0 := cell_drew t0 hW; have e1 := cell_drew t1 hW; have e3 := cell_drew x0 hW; have e4 := cell_drew x1 hW; have H3 := Lib.hid (And.intro (idle_drew (H0.out.1.below H2.out.1) hW) (And.intro hO.toWrs (And.intro (below_drew H2.out.1 hW) (And.intro (blk_drew H2.out.2.2.1 hW) (blk_drew H2.out.2.1 hW))))); clear hO hW)
      | (go_at_call 55; refine (jlay_any B _ D L n j S cw cf _ Pv (2 * m) cv (jrnOf (done + 1) m (digOf ks (done + 1) ws) ws) H3.out.1 (Nat.le_trans hB H3.out.2.2.1.size) H3.out.2.1 (fun g hg => by rcases hg with (hg | hg) | hg; exact (fun h => H0.out.2.2.2.2.1 g hg (by simp at h ⊢; rcases h with h | h <;> simp [h])); exact (fun h => by have h2 := hg; simp only [World.size_drew, World.size_alloc] at h2; simp at h; omega); exact (fun h => by have h2 := hg; simp only [World.size_drew, World.size_alloc] at h2; simp at h; omega)) (jrnOf_ok (digOf_length _ _ _) H0.out.2.2.2.2.2.2.2.2 hm hj (fun p hp => (H0.out.2.2.2.2.2.1.each p hp).2.2)) (by omega) (by omega)).mono ?_; rintro e w4 ⟨rfl, h1, h2⟩; have hk4 := h2.keep _ _ _ (by decide) (by simp; omega) H3.out.2.2.2.1; have hG4 := h2.keep _ _ _ (by decide) (by have h1 := H0.out.2.2.2.2.2.2.1; have h2 := H0.out.2.2.2.2.2.2.2.1; simp; omega) H3.out.2.2.2.2; have ⟨f0, f1⟩ := blk_pair hk4; have ⟨f3, f4, _, _⟩ := log_cells hG4; have hst := (Stp.of_below (X := [D, L]) hB H3.out.2.2.1).trans h2; have H4 := Lib.hid (And.intro h1 (And.intro hk4 (And.intro hG4 (And.intro hst (H0.out.2.2.2.1.stp hst (fun g hg h => H0.out.2.2.2.2.1 g hg (by simp at h ⊢; rcases h with h | h <;> simp [h]))))))); clear h1 h2 hk4 hG4 hst))
  clear t0 t1 x0 x1 e0 e1 e3 e4
  go_wp2_with fail
  refine (finish_any ks B w4 D L G n j _ (cw + 2 * m) (cf + 1) A P m c (done + 1) done x red ws H4.out.1 (Nat.le_trans hB H4.out.2.2.2.1.size) (H0.out.2.1.below H4.out.2.2.2.1.below hKB) H4.out.2.2.1 hKB hBG H4.out.2.2.2.2 H0.out.2.2.2.2.1 hj H0.out.2.2.2.2.2.1.each (by omega) (by omega) (by omega) (by omega)).mono ?_
  rintro e w5 ⟨rfl, h1, h2, h3⟩
  have H5 := Lib.hid (And.intro h1 (And.intro h2 ((H4.out.2.2.2.1.mono (Y := [D, L, G]) (by intro k hk _; simp at hk ⊢; rcases hk with h | h <;> simp [h])).trans h3)))
  clear h1 h2 h3 f0 f1 f3 f4
  go_wp2_with fail
  go_ret
  refine ⟨rfl, ?_, H5.out.2.1, H5.out.2.2⟩
  have h := H5.out.1
  rw [show cw + 2 * m + m + 1 = cw + 3 * m + 1 by omega, show cf + 1 + 2 = cf + 3 by omega] at h
  exact h
end
end Go.Proofs.YtkmkblhmjeeaeaaGreatDoor
end

/-
  What nodes are in a log's data sectors, plainly, and what a transaction makes of them. Plain definitions and theorems; no condition.
-/

section
set_option linter.unusedSimpArgs false
set_option linter.unusedVariables false
set_option maxRecDepth 100000
namespace Go.Proofs.YtkmkblhmjeeaeaaGreatDoor
open Go.RowKit

theorem ilay_cons (S : Nat → List B8) (p : Int × List B8) (ws : List (Int × List B8)) : layS S (p :: ws) = layS (upd S p.1.toNat p.2) ws := rfl
theorem ilay_off (k : Nat) : ∀ (ws : List (Int × List B8)) (S : Nat → List B8), (∀ p ∈ ws, p.1.toNat ≠ k) → layS S ws k = S k
  | [], _, _ => rfl
  | p :: ws, S, h => by
    rw [ilay_cons, ilay_off k ws _ (fun q hq => h q (List.mem_cons_of_mem _ hq))]
    unfold upd
    rw [if_neg (fun e => h p (List.mem_cons_self) e.symm)]
theorem ilay_at {ws : List (Int × List B8)} (S : Nat → List B8) (hn : (secs ws).Nodup) (h0 : ∀ p ∈ ws, 0 ≤ p.1) {p : Int × List B8} (hp : p ∈ ws) : layS S ws p.1.toNat = p.2 := by
  induction ws generalizing S with
  | nil => simp at hp
  | cons q ws ih =>
    unfold secs at hn ih
    rw [List.map_cons, List.nodup_cons] at hn
    rw [ilay_cons]
    rcases List.mem_cons.1 hp with rfl | hp
    · rw [ilay_off]
      · unfold upd
        rw [if_pos rfl]
      · intro r hr e
        have h1 := h0 r (List.mem_cons_of_mem _ hr)
        have h2 := h0 p (List.mem_cons_self)
        have : r.1 = p.1 := by omega
        exact hn.1 (by rw [← this]; exact List.mem_map_of_mem hr)
    · exact ih _ hn.2 (fun r hr => h0 r (List.mem_cons_of_mem _ hr)) hp
/-- What is read of the data of a log whose journal has j sectors. -/
def dvj (j : Nat) (S : Nat → List B8) : Nat → List B8 := fun k => S (1 + j + k)
theorem ilay_data (j : Nat) (S : Nat → List B8) : ∀ (ws : List (Int × List B8)), dvj j (layS S (dataOf j ws)) = layS (dvj j S) ws := by
  intro ws
  induction ws generalizing S with
  | nil => rfl
  | cons p ws ih =>
    have e : dataOf j (p :: ws) = ((((1 + j + p.1.toNat : Nat) : Int), p.2)) :: dataOf j ws := rfl
    rw [e, ilay_cons, ilay_cons, ih]
    congr 1
    funext k
    unfold dvj upd
    show (if 1 + j + k = ((1 + j + p.1.toNat : Nat) : Int).toNat then _ else _) = _
    by_cases hk : k = p.1.toNat
    · rw [if_pos (by omega), if_pos hk]
    · rw [if_neg (by omega), if_neg hk]
theorem ibehind_data (ks : List B32) (j num m : Nat) (S : Nat → List B8) (ws : List (Int × List B8)) (hm : 2 * ws.length ≤ j) : dvj j (behind ks j num m S ws) = layS (dvj j S) ws := by
  have e : dvj j (behind ks j num m S ws) = dvj j (layS (layS S (jrnOf num m (digOf ks num ws) ws)) (dataOf j ws)) := by
    funext k
    unfold dvj behind upd
    rw [if_neg (by omega)]
  rw [e, ilay_data]
  congr 1
  funext k
  unfold dvj
  refine ilay_off _ _ _ fun p hp => ?_
  obtain ⟨i, q, hq, rfl | rfl⟩ := jrnOf_mem hp
  · have := (List.getElem?_eq_some_iff.1 hq).1
    show ((1 + 2 * i : Nat) : Int).toNat ≠ _
    omega
  · have := (List.getElem?_eq_some_iff.1 hq).1
    show ((1 + 2 * i + 1 : Nat) : Int).toNat ≠ _
    omega
/-- So many bytes of a node's, those of one of its blocks. -/
def piece (xs : List B8) (q : Nat) : List B8 := (xs.drop (64 * q)).take 64
theorem piece_length (xs : List B8) (q : Nat) : (piece xs q).length ≤ 64 := by unfold piece; rw [List.length_take]; omega
/-- A node's sector. -/
def noteN (h : Hd) : List B8 := pad64 (1 :: (big 8 (numS h.k h.m h.o h.g).toNat ++ (big 4 h.data.length ++ (h.bl.map (big 4)).flatten)))
/-- The bytes of a node's blocks, as writes. -/
def dataW (N : Nat) (h : Hd) : List (Int × List B8) := (List.range (blks h.data.length)).map fun q => (((1 + N + h.bl.getD q 0 : Nat) : Int), pad64 (piece h.data q))
/-- What one node's change writes. -/
def nodeWs (N : Nat) (f : Tab) (i : Nat) : List (Int × List B8) := match f i with
  | none => [(((1 + i : Nat) : Int), List.replicate 64 0)]
  | some h => dataW N h ++ [(((1 + i : Nat) : Int), noteN h)]
def writesL (N : Nat) (f : Tab) (l : List Ch) : List (Int × List B8) := l.flatMap fun c => nodeWs N f c.no.toNat
theorem flat4_length : ∀ (l : List Nat), ((l.map (big 4)).flatten).length = 4 * l.length
  | [] => rfl
  | x :: l => by
    rw [List.map_cons, List.flatten_cons, List.length_append, flat4_length l, big_length, List.length_cons]
    omega
theorem noteN_length {h : Hd} (hb : h.bl.length ≤ 8) : (noteN h).length = 64 := by
  unfold noteN
  rw [pad64_length]
  rw [List.length_cons, List.length_append, List.length_append, flat4_length, big_length, big_length]
  omega
theorem blks_8 {n : Nat} (h : n ≤ 512) : blks n ≤ 8 := by unfold blks; omega
theorem mem_nodeWs {N : Nat} {f : Tab} {i : Nat} {p : Int × List B8} (hp : p ∈ nodeWs N f i) :
    p = (((1 + i : Nat) : Int), match f i with | none => List.replicate 64 0 | some h => noteN h) ∨ ∃ h q, f i = some h ∧ q < blks h.data.length ∧ p = (((1 + N + h.bl.getD q 0 : Nat) : Int), pad64 (piece h.data q)) := by
  unfold nodeWs at hp
  cases hf : f i with
  | none =>
    rw [hf] at hp
    exact .inl (List.mem_singleton.1 hp)
  | some h =>
    rw [hf] at hp
    rcases List.mem_append.1 hp with hp | hp
    · unfold dataW at hp
      obtain ⟨q, hq, rfl⟩ := List.mem_map.1 hp
      exact .inr ⟨h, q, rfl, List.mem_range.1 hq, rfl⟩
    · exact .inl (List.mem_singleton.1 hp)
theorem getD_mem {l : List Nat} {q : Nat} (h : q < l.length) : l.getD q 0 ∈ l := by
  rw [List.getD_eq_getElem?_getD, List.getElem?_eq_getElem h]
  exact List.getElem_mem h
theorem getD_inj {l : List Nat} (hn : l.Nodup) {p q : Nat} (hp : p < l.length) (hq : q < l.length) (h : l.getD p 0 = l.getD q 0) : p = q := by
  rw [List.getD_eq_getElem?_getD, List.getElem?_eq_getElem hp, List.getD_eq_getElem?_getD, List.getElem?_eq_getElem hq] at h
  exact (List.getElem_inj hn).1 h
theorem writes_right {N B : Nat} {f : Tab} (hw : Wf f N B) : ∀ {l : List Ch}, Good7 N l → (∀ p ∈ writesL N f l, 0 ≤ p.1 ∧ p.1 < (1 + N + B : Nat) ∧ p.2.length = 64) ∧ (secs (writesL N f l)).Nodup
  | [], _ => ⟨fun p hp => (by cases hp), List.nodup_nil⟩
  | c :: l, hg => by
    obtain ⟨h1, h2⟩ := writes_right hw hg.tail
    have hc := hg.no c List.mem_cons_self
    have hnd := List.nodup_cons.1 hg.nd
    have hoth : ∀ e ∈ l, e.no.toNat ≠ c.no.toNat := fun e he h2 => by
      have h3 := hg.no e (List.mem_cons_of_mem _ he)
      exact hnd.1 (by rw [show c.no = e.no by omega]; exact List.mem_map_of_mem he)
    have e : writesL N f (c :: l) = nodeWs N f c.no.toNat ++ writesL N f l := rfl
    rw [e]
    refine ⟨fun p hp => ?_, ?_⟩
    · rcases List.mem_append.1 hp with hp | hp
      · rcases mem_nodeWs hp with rfl | ⟨h, q, hf, hq, rfl⟩
        · refine ⟨by show (0 : Int) ≤ ((1 + c.no.toNat : Nat) : Int); omega, by show ((1 + c.no.toNat : Nat) : Int) < _; omega, ?_⟩
          show (match f c.no.toNat with | none => List.replicate 64 (0 : B8) | some h => noteN h).length = 64
          cases hf : f c.no.toNat with
          | none => simp
          | some h =>
            obtain ⟨_, g2, g3, _⟩ := hw.ok _ _ hf
            exact noteN_length (by rw [g3]; exact blks_8 g2)
        · obtain ⟨_, g2, g3, _, g5⟩ := hw.ok _ _ hf
          have := g5 _ (getD_mem (l := h.bl) (q := q) (by omega))
          exact ⟨by show (0 : Int) ≤ ((1 + N + h.bl.getD q 0 : Nat) : Int); omega, by show ((1 + N + h.bl.getD q 0 : Nat) : Int) < _; omega, pad64_length (piece_length _ _)⟩
      · exact h1 p hp
    · unfold secs
      rw [List.map_append, List.nodup_append]
      refine ⟨?_, h2, ?_⟩
      · unfold nodeWs
        cases hf : f c.no.toNat with
        | none => simp
        | some h =>
          obtain ⟨_, g2, g3, g4, g5⟩ := hw.ok _ _ hf
          simp only
          rw [List.map_append, List.nodup_append]
          refine ⟨?_, by simp, ?_⟩
          · unfold dataW
            rw [List.map_map]
            unfold List.Nodup
            rw [List.pairwise_map]
            refine List.Pairwise.imp_of_mem (fun {p q} hp hq hpq e => hpq ?_) (List.nodup_range (n := blks h.data.length))
            rw [List.mem_range] at hp hq
            have e : ((1 + N + h.bl.getD p 0 : Nat) : Int) = ((1 + N + h.bl.getD q 0 : Nat) : Int) := e
            exact getD_inj g4 (by omega) (by omega) (by omega)
          · intro a ha b hb hab
            subst hab
            unfold dataW at ha
            rw [List.map_map] at ha
            obtain ⟨q, _, rfl⟩ := List.mem_map.1 ha
            have hb : ((1 + N + h.bl.getD q 0 : Nat) : Int) = ((1 + c.no.toNat : Nat) : Int) := by simpa using hb
            omega
      · intro a ha b hb hab
        subst hab
        obtain ⟨p, hp, rfl⟩ := List.mem_map.1 ha
        obtain ⟨p', hp', he⟩ := List.mem_map.1 hb
        unfold writesL at hp'
        obtain ⟨d, hd, hp'⟩ := List.mem_flatMap.1 hp'
        have hd0 := hg.no d (List.mem_cons_of_mem _ hd)
        have hdc := hoth d hd
        rcases mem_nodeWs hp with rfl | ⟨h, q, hf, hq, rfl⟩ <;> rcases mem_nodeWs hp' with rfl | ⟨h', q', hf', hq', rfl⟩
        · have he : ((1 + d.no.toNat : Nat) : Int) = ((1 + c.no.toNat : Nat) : Int) := he
          omega
        · have he : ((1 + N + h'.bl.getD q' 0 : Nat) : Int) = ((1 + c.no.toNat : Nat) : Int) := he
          omega
        · have he : ((1 + d.no.toNat : Nat) : Int) = ((1 + N + h.bl.getD q 0 : Nat) : Int) := he
          omega
        · have he : ((1 + N + h'.bl.getD q' 0 : Nat) : Int) = ((1 + N + h.bl.getD q 0 : Nat) : Int) := he
          obtain ⟨_, _, g3, _⟩ := hw.ok _ _ hf
          obtain ⟨_, _, g3', _⟩ := hw.ok _ _ hf'
          refine hw.apart _ _ h' h hdc hf' hf (h'.bl.getD q' 0) (getD_mem (by omega)) ?_
          rw [show h'.bl.getD q' 0 = h.bl.getD q 0 by omega]
          exact getD_mem (by omega)
/-- What a log's data sectors hold of nodes. -/
structure OnDisk (N : Nat) (V : Nat → List B8) (f : Tab) : Prop where
  node : ∀ i, i < N → V (1 + i) = match f i with | none => List.replicate 64 0 | some h => noteN h
  block : ∀ i h q, f i = some h → q < blks h.data.length → V (1 + N + h.bl.getD q 0) = pad64 (piece h.data q)
theorem mem_writesL {N : Nat} {f : Tab} {l : List Ch} {p : Int × List B8} (hp : p ∈ writesL N f l) : ∃ c ∈ l, p ∈ nodeWs N f c.no.toNat := List.mem_flatMap.1 hp
theorem disk_behind {N B : Nat} {V : Nat → List B8} {f g : Tab} {l : List Ch} (hd : OnDisk N V f) (hw : Wf f N B) (hg : Good7 N l) (h : tabBehind f N B l = some g) : OnDisk N (layS V (writesL N g l)) g ∧ layS V (writesL N g l) 0 = V 0 := by
  have hw' := behind_wf hw hg h
  obtain ⟨h1, h2⟩ := writes_right hw' hg
  have hoff : ∀ i : Nat, (∀ c ∈ l, c.no ≠ (i : Int)) → g i = f i := by
    intro i hi
    unfold tabBehind at h
    cases hb : bfold (frees (cleared f l) N B, cleared f l) l with
    | none => rw [hb] at h; cases h
    | some t =>
      rw [hb] at h
      cases h
      show t.2 i = f i
      rw [fold_other (fun c hc => by have := hg.no c hc; have := hi c hc; omega) hb]
      exact cleared_off hi
  refine ⟨⟨fun i hi => ?_, fun i x q hx hq => ?_⟩, ?_⟩
  · by_cases hc : ∃ c ∈ l, c.no = (i : Int)
    · obtain ⟨c, hc, he⟩ := hc
      have hci : c.no.toNat = i := by omega
      have hm : (((1 + i : Nat) : Int), match g i with | none => List.replicate 64 (0 : B8) | some h => noteN h) ∈ writesL N g l := by
        refine List.mem_flatMap.2 ⟨c, hc, ?_⟩
        rw [hci]
        unfold nodeWs
        cases g i <;> simp
      have := ilay_at V h2 (fun p hp => (h1 p hp).1) hm
      exact this
    · have hc' : ∀ c ∈ l, c.no ≠ (i : Int) := fun c hcl he => hc ⟨c, hcl, he⟩
      rw [ilay_off, hd.node i hi, hoff i hc']
      intro p hp
      obtain ⟨c, hcl, hp⟩ := mem_writesL hp
      have h3 := hg.no c hcl
      have h4 := hc' c hcl
      rcases mem_nodeWs hp with rfl | ⟨h, q, hf, hq, rfl⟩
      · show ((1 + c.no.toNat : Nat) : Int).toNat ≠ _
        omega
      · show ((1 + N + h.bl.getD q 0 : Nat) : Int).toNat ≠ _
        omega
  · obtain ⟨_, _, g3, _, g5⟩ := hw'.ok _ _ hx
    by_cases hc : ∃ c ∈ l, c.no = (i : Int)
    · obtain ⟨c, hc, he⟩ := hc
      have hci : c.no.toNat = i := by omega
      have hm : (((1 + N + x.bl.getD q 0 : Nat) : Int), pad64 (piece x.data q)) ∈ writesL N g l := by
        refine List.mem_flatMap.2 ⟨c, hc, ?_⟩
        rw [hci]
        unfold nodeWs
        rw [hx]
        exact List.mem_append.2 (.inl (List.mem_map.2 ⟨q, List.mem_range.2 hq, rfl⟩))
      exact ilay_at V h2 (fun p hp => (h1 p hp).1) hm
    · have hc' : ∀ c ∈ l, c.no ≠ (i : Int) := fun c hcl he => hc ⟨c, hcl, he⟩
      rw [ilay_off, hd.block i x q (by rw [← hoff i hc']; exact hx) hq]
      intro p hp
      obtain ⟨c, hcl, hp⟩ := mem_writesL hp
      have h3 := hg.no c hcl
      have h4 := hc' c hcl
      rcases mem_nodeWs hp with rfl | ⟨h, q', hf, hq', rfl⟩
      · show ((1 + c.no.toNat : Nat) : Int).toNat ≠ _
        omega
      · show ((1 + N + h.bl.getD q' 0 : Nat) : Int).toNat ≠ _
        intro e
        obtain ⟨_, _, g3', _⟩ := hw'.ok _ _ hf
        refine hw'.apart _ _ h x (by omega) hf hx (h.bl.getD q' 0) (getD_mem (by omega)) ?_
        rw [show h.bl.getD q' 0 = x.bl.getD q 0 by omega]
        exact getD_mem (by omega)
  · rw [ilay_off]
    intro p hp
    obtain ⟨c, hcl, hp⟩ := mem_writesL hp
    have h3 := hg.no c hcl
    rcases mem_nodeWs hp with rfl | ⟨h, q', hf, hq', rfl⟩
    · show ((1 + c.no.toNat : Nat) : Int).toNat ≠ _
      omega
    · show ((1 + N + h.bl.getD q' 0 : Nat) : Int).toNat ≠ _
      omega
/-- How many writes changes make. -/
def nwr : List Ch → Nat
  | [] => 0
  | c :: l => 1 + need c + nwr l
theorem nwr_append : ∀ (a b : List Ch), nwr (a ++ b) = nwr a + nwr b
  | [], b => by simp [nwr]
  | c :: a, b => by rw [List.cons_append, nwr, nwr, nwr_append a b]; omega
theorem writes_length {N : Nat} {f : Tab} : ∀ {l : List Ch}, (∀ c ∈ l, if c.drop = true then f c.no.toNat = none else ∃ bl, f c.no.toNat = some (c.hd bl)) → (writesL N f l).length = nwr l
  | [], _ => rfl
  | c :: l, h => by
    have e : writesL N f (c :: l) = nodeWs N f c.no.toNat ++ writesL N f l := rfl
    rw [e, List.length_append, writes_length (fun d hd => h d (List.mem_cons_of_mem _ hd)), nwr]
    have := h c List.mem_cons_self
    congr 1
    unfold need nodeWs
    split at this
    · rename_i hd
      rw [this, if_pos hd]
      rfl
    · rename_i hd
      obtain ⟨bl, hb⟩ := this
      rw [hb, if_neg hd]
      simp only [dataW, List.length_append, List.length_map, List.length_range, List.length_singleton, Ch.hd]
      omega
theorem behind_length {f g : Tab} {N B : Nat} {l : List Ch} (hg : Good7 N l) (h : tabBehind f N B l = some g) : (writesL N g l).length = nwr l := by
  refine writes_length fun c hc => ?_
  unfold tabBehind at h
  cases hb : bfold (frees (cleared f l) N B, cleared f l) l with
  | none => rw [hb] at h; cases h
  | some t =>
    rw [hb] at h
    cases h
    have := fold_at hg (cleared_at hg) hb c hc
    split
    · rename_i hd
      rw [if_pos hd] at this
      exact this
    · rename_i hd
      rw [if_neg hd] at this
      obtain ⟨bl, h1, _⟩ := this
      exact ⟨bl, h1⟩
end Go.Proofs.YtkmkblhmjeeaeaaGreatDoor
end

/-
  Read, Sectors, Most, Done, Redone. Conditions: the disk has power that never goes; the sector is there.
-/

section
set_option maxRecDepth 100000
set_option linter.unusedSimpArgs false
set_option linter.unusedVariables false
namespace Go.Proofs.YtkmkblhmjeeaeaaGreatDoor
open Go.RowKit

theorem jread_nil (w : World) (no : Int) : Calls Tryz.prog 32 #[.pointer none, .int .i64 no] w fun e w' => e = .returned (.tuple #[.slice none 0 0, .int .i64 16]) ∧ w = w' := by
  go_enter Tryz.func32, Tryz.ntmps32
  go_wp2_with fail
  go_ret2
  exact ⟨rfl, rfl⟩
theorem jsectors_nil (w : World) : Calls Tryz.prog 77 #[.pointer none] w fun e w' => e = .returned (.int .i64 0) ∧ w = w' := by
  go_enter Tryz.func77, Tryz.ntmps77
  go_wp2_with fail
  go_ret
  exact ⟨rfl, rfl⟩
theorem jmostm_nil (w : World) : Calls Tryz.prog 72 #[.pointer none] w fun e w' => e = .returned (.int .i64 0) ∧ w = w' := by
  go_enter Tryz.func72, Tryz.ntmps72
  go_wp2_with fail
  go_ret
  exact ⟨rfl, rfl⟩
section
variable {B D L G n j : Nat} {S : Nat → List B8} {cw cf : Nat} {w : World} {done : Nat} {x : Int × Int} {red : Bool}
theorem jsectors_any (hd : Idle B D L n S cw cf w) (hG : Blk w G 131 (logCells D j x done red)) (hj : j + 1 < n) :
    Calls Tryz.prog 77 #[.pointer (some ⟨G, 0, none⟩)] w fun e w' => e = .returned (.int .i64 ((n - j - 1 : Nat) : Int)) ∧ Below w.heap.size w w' := by
  have hnb := hd.bound
  obtain ⟨g0, g1, g5, g6⟩ := log_cells hG
  have HD := Lib.hid hd
  clear hG hd
  go_enter Tryz.func77, Tryz.ntmps77
  go_wp2_with (go_at_call 78; refine (data_any HD.out.calm hj hnb.2).mono ?_; rintro e w' ⟨rfl, hb⟩; have HB := Lib.hid hb; clear hb)
  go_ret
  exact ⟨rfl, HB.out⟩
set_option maxHeartbeats 1000000 in
theorem jread_any (hd : Idle B D L n S cw cf w) (hG : Blk w G 131 (logCells D j x done red)) (hj : j + 1 < n) (k : Nat) (hk : k < n - j - 1) :
    Calls Tryz.prog 32 #[.pointer (some ⟨G, 0, none⟩), .int .i64 k] w fun e w' => ∃ v, e = .returned (.tuple #[v, .int .i64 0]) ∧ Bts (fun g => w.heap.size ≤ g) w' v (S (1 + j + k)) ∧ Below w.heap.size w w' := by
  have hnb := hd.bound
  obtain ⟨g0, g1, g5, g6⟩ := log_cells hG
  have H := Lib.hid (And.intro hd hG)
  have hk1 : 1 + j + k < n := by omega
  clear hG hd
  go_enter Tryz.func32, Tryz.ntmps32
  go_wp2_with (first
    | (go_at_call 47; refine (on_idle H.out.1.calm).mono ?_; rintro e w' ⟨rfl, rfl⟩)
    | (go_at_call 65; refine (has_yes H.out.1.calm hj hnb.2 k (by omega) (by omega)).mono ?_; rintro e w1 ⟨rfl, hb⟩; have ⟨g0, g1, g5, g6⟩ := log_cells (H.out.2.below hb H.out.2.lt); have H1 := Lib.hid hb; clear hb))
  go_region_held3 (fun w' => w'.cell? ⟨G, 0, none⟩ = some (.pointer (some ⟨D, 0, none⟩)) ∧ w'.cell? ⟨G, 1, none⟩ = some (.int .i64 (j : Int)))
    (first | exact ⟨f0, f1⟩ | exact ⟨e0, e1⟩ | exact ⟨g0, g1⟩)
    (first
      | (go_at_call 67; refine (dataAt_any (D := D) (j := j) k (by omega) (by omega)).mono ?_; rintro e w2 ⟨rfl, hW⟩; have e0 := cell_drew g0 hW; have e1 := cell_drew g1 hW; have H2 := Lib.hid (below_drew H1.out hW); clear hW)
      | (go_at_call 66; refine (read_calm (H.out.1.below H2.out).calm hk1).mono ?_; rintro e w3 ⟨v, rfl, hv, hW⟩; have f0 := cell_below e0 hW; have f1 := cell_below e1 hW; have H3 := Lib.hid (And.intro (hv.mono (A' := fun g => w.heap.size ≤ g) (fun g hg _ => Nat.le_trans H2.out.size hg)) (below_of H2.out hW)); clear hW hv))
  go_wp2_with fail
  go_ret2
  exact ⟨_, rfl, H3.out.1, H3.out.2⟩
end
end Go.Proofs.YtkmkblhmjeeaeaaGreatDoor
end

/-
  sector: of many parts, of one. Conditions: the parts are known, and a sector has room for them.
-/

section
set_option linter.unusedSimpArgs false
set_option linter.unusedVariables false
set_option maxRecDepth 100000
namespace Go.Proofs.YtkmkblhmjeeaeaaGreatDoor
open Go.RowKit

/-- A slice that reads as bytes, from here on. -/
def HB (w : World) (v : Value) (x : List B8) : Prop := ∀ w', Below w.heap.size w w' → Lib.HoldsBytes w' v (ub x)
theorem Bts.hb {A : Nat → Prop} {w : World} {v : Value} {x : List B8} (h : Bts A w v x) : HB w v x := fun w' hw => (h.below hw).holds
/-- A block of cells, some of them marked or not. -/
def FBlk (w : World) (g : Nat) (t : TypeId) (cs : List Value) : Prop := ∃ fr, w.heap[g]? = some (.cells cs.toArray t fr)
theorem FBlk.lt {w : World} {g : Nat} {t : TypeId} {cs : List Value} (h : FBlk w g t cs) : g < w.heap.size := by
  obtain ⟨fr, h⟩ := h
  exact (Array.getElem?_eq_some_iff.1 h).1
theorem FBlk.below {w w' : World} {g : Nat} {t : TypeId} {cs : List Value} (h : FBlk w g t cs) (hb : Below w.heap.size w w') : FBlk w' g t cs := by
  have hl := h.lt
  obtain ⟨fr, h⟩ := h
  exact ⟨fr, (hb.block g hl).trans h⟩
theorem FBlk.cell {w : World} {g : Nat} {t : TypeId} {cs : List Value} (h : FBlk w g t cs) (i : Nat) : w.cell? ⟨g, i, none⟩ = cs[i]? := by
  obtain ⟨fr, h⟩ := h
  rw [cell_of_row w g i cs.toArray t fr h]
  simp
theorem FBlk.hb {w : World} {g c : Nat} {t : TypeId} {x : List B8} (h : FBlk w g t (Vb x)) : HB w (.slice (some ⟨g, 0, none⟩) x.length c) x := by
  intro w' hw
  have h' := h.below hw
  refine ⟨some ⟨g, 0, none⟩, c, by rw [ub_length], fun e => (by cases e), fun a ha i y hy => ?_⟩
  cases ha
  rw [add_off, Nat.zero_add, h'.cell]
  unfold ub at hy
  rw [List.getElem?_map] at hy
  cases hxi : x[i]? with
  | none => rw [hxi] at hy; cases hy
  | some z =>
    rw [hxi] at hy
    simp only [Option.map_some, Option.some.injEq] at hy
    subst hy
    unfold Vb
    rw [List.getElem?_map, hxi, ub_nat]
    rfl

theorem blk_read {w : World} {g : Nat} {t : TypeId} {vs : List Value} (hb : Blk w g t vs) : ∀ w', Below w.heap.size w w' → ∀ (i : Nat) v, vs[i]? = some v → w'.cell? ⟨g, i, none⟩ = some v := fun w' h i v hv => by rw [(hb.below h hb.lt).cell]; exact hv

set_option maxHeartbeats 1000000 in
theorem sector_joins (w : World) (g k c : Nat) (vs : List Value) (xs : List (List B8)) (h2 : 2 ≤ k) (hk10 : k ≤ 100) (hk : xs.length = k) (hv : vs.length = k) (hb : ∀ w', Below w.heap.size w w' → ∀ (i : Nat) v, vs[i]? = some v → w'.cell? ⟨g, i, none⟩ = some v) (hp : ∀ (i : Nat) v x, vs[i]? = some v → xs[i]? = some x → HB w v x) (hcap : k ≤ c) (hl : xs.flatten.length ≤ 64) :
    Calls Tryz.prog 59 #[.slice (some ⟨g, 0, none⟩) k c] w fun e w' => e = .returned (.slice (some ⟨w.heap.size, 0, none⟩) 64 64) ∧ Blk w' w.heap.size 5 (Vb (pad64 xs.flatten)) ∧ Below w.heap.size w w' := by
  have hmk := make_bytes w 64 (by omega) (by omega)
  have hn := Blk.new w 5 (U (List.replicate 64 0))
  have hbw := new_below w (.cells (U (List.replicate 64 0)).toArray 5)
  rw [show (64 : Int).toNat = 64 from rfl] at hmk
  rw [zeros_Vb] at hn hbw hmk
  have hP : Lib.PartsAt (w.alloc (.cells (Vb (List.replicate 64 0)).toArray 5)) ⟨g, 0, none⟩ vs (xs.map ub) := by
    refine ⟨by rw [List.length_map]; omega, fun i v hi => ?_, fun i v l hi hx => ?_⟩
    · rw [add_off, Nat.zero_add]
      exact hb _ hbw i v hi
    · rw [List.getElem?_map] at hx
      cases hxx : xs[i]? with
      | none => rw [hxx] at hx; cases hx
      | some x =>
        rw [hxx] at hx
        simp only [Option.map_some, Option.some.injEq] at hx
        subst hx
        exact hp i v x hi hxx _ hbw
  have hj := Tryz.bytes_Join_many g 0 k c vs (xs.map ub) (.slice none 0 0) [] _ (by rw [List.length_map]; exact hk) h2 hP hcap ⟨none, 0, rfl, fun _ => rfl, fun a ha => by cases ha⟩ (by omega) (by rw [lens_flat, ub_flat, ub_length, List.length_nil, Nat.zero_mul]; omega)
  rw [join_flat, ub_flat] at hj
  have HJ := Lib.hid hj
  have H := Lib.hid (And.intro hn hbw)
  clear hn hbw hP hj hb hp
  go_enter Tryz.func59, Tryz.ntmps59
  go_wp2_with fail
  refine HJ.out.mono ?_
  rintro e w2 ⟨v, rfl, h3, h4⟩
  obtain ⟨g2, c2, rfl, hg2, htx⟩ := fresh_txt h3
  have H2 := Lib.hid (And.intro (H.out.1.below h4 H.out.1.lt) (And.intro (H.out.2.trans (h4.mono H.out.2.size)) (htx w.heap.size (by have := H.out.1.lt; omega))))
  clear h3 h4 htx HJ hmk
  obtain ⟨m, hm⟩ : ∃ m, xs.flatten.length = m := ⟨_, rfl⟩
  rw [hm] at H2 hl ⊢
  have HM := Lib.hid hm
  clear hm
  go_wp2_with (refine wpList_copy_blk rfl (.tmp 5) (.tmp 7) 40 40 rfl 5 Tryz.underlying40 info5 w.heap.size 0 64 64 rfl rfl H2.out.1 H2.out.2.2 (by simp [Vb_length]) ?_; intro w3 hb3 o3)
  have H3 := Lib.hid (And.intro hb3 o3)
  clear hb3 o3
  go_ret
  refine ⟨rfl, ?_, H2.out.2.1.trans (H3.out.2.below (B := w.heap.size) H2.out.2.1.size (by simp))⟩
  have := H3.out.1
  rw [over_pad (by rw [HM.out]; exact hl)] at this
  exact this


set_option maxHeartbeats 1000000 in
theorem sector_one (w : World) (A : Nat → Prop) (g : Nat) (v : Value) (x : List B8) (hb : Blk w g 40 [v]) (hx : Bts A w v x) (h0 : 0 < x.length) (hl : x.length ≤ 64) :
    Calls Tryz.prog 59 #[.slice (some ⟨g, 0, none⟩) 1 1] w fun e w' => e = .returned (.slice (some ⟨w.heap.size, 0, none⟩) 64 64) ∧ Blk w' w.heap.size 5 (Vb (pad64 x)) ∧ Below w.heap.size w w' := by
  have hmk := make_bytes w 64 (by omega) (by omega)
  have hn := Blk.new w 5 (U (List.replicate 64 0))
  have hbw := new_below w (.cells (U (List.replicate 64 0)).toArray 5)
  rw [show (64 : Int).toNat = 64 from rfl] at hmk
  rw [zeros_Vb] at hn hbw hmk
  have hcell : (w.alloc (.cells (Vb (List.replicate 64 0)).toArray 5)).cell? ⟨g, 0, none⟩ = some v := (hb.below hbw hb.lt).cell 0
  obtain ⟨P, c, rfl, h1, h2⟩ := hx.form
  obtain ⟨_, hcs⟩ := (hx.below hbw).cells
  obtain ⟨a, o, rfl, hA, ha, hcells⟩ := hcs h0
  have hj := Tryz.bytes_Join_one g 0 1 ⟨a, o, none⟩ c (ub x) (.slice none 0 0) (w.alloc (.cells (Vb (List.replicate 64 0)).toArray 5)) (by rw [ub_length]; exact hcell) (fun i y hy => by
    rw [add_off]
    refine hcells i _ ?_
    unfold ub at hy
    rw [List.getElem?_map] at hy
    cases hxi : x[i]? with
    | none => rw [hxi] at hy; cases hy
    | some z =>
      rw [hxi] at hy
      simp only [Option.map_some, Option.some.injEq] at hy
      subst hy
      unfold Vb
      rw [List.getElem?_map, hxi, ub_nat]
      rfl) (by rw [ub_length]; exact h0) (by rw [ub_length]; omega)
  have HJ := Lib.hid hj
  have H := Lib.hid (And.intro hn hbw)
  clear hn hbw hj hb hx hcell hcells hcs
  go_enter Tryz.func59, Tryz.ntmps59
  go_wp2_with fail
  refine HJ.out.mono ?_
  rintro e w2 ⟨v, rfl, h3, h4⟩
  obtain ⟨g2, c2, rfl, hg2, htx⟩ := fresh_txt h3
  have H2 := Lib.hid (And.intro (H.out.1.below h4 H.out.1.lt) (And.intro (H.out.2.trans (h4.mono H.out.2.size)) (htx w.heap.size (by have := H.out.1.lt; omega))))
  clear h3 h4 htx HJ hmk
  obtain ⟨m, hm⟩ : ∃ m, x.length = m := ⟨_, rfl⟩
  rw [hm] at H2 hl ⊢
  have HM := Lib.hid hm
  clear hm
  go_wp2_with (refine wpList_copy_blk rfl (.tmp 5) (.tmp 7) 40 40 rfl 5 Tryz.underlying40 info5 w.heap.size 0 64 64 rfl rfl H2.out.1 H2.out.2.2 (by simp [Vb_length]) ?_; intro w3 hb3 o3)
  have H3 := Lib.hid (And.intro hb3 o3)
  clear hb3 o3
  go_ret
  refine ⟨rfl, ?_, H2.out.2.1.trans (H3.out.2.below (B := w.heap.size) H2.out.2.1.size (by simp))⟩
  have := H3.out.1
  rw [over_pad (by rw [HM.out]; exact hl)] at this
  exact this
end Go.Proofs.YtkmkblhmjeeaeaaGreatDoor
end

/-
  fromBytes, noted: numbers out of bytes. Conditions: the bytes are known, at most eight of them; a note has a sector's bytes.
-/

section
set_option maxRecDepth 100000
set_option linter.unusedSimpArgs false
set_option linter.unusedVariables false
namespace Go.Proofs.YtkmkblhmjeeaeaaGreatDoor
open Go.RowKit

/-- The number that bytes are, the highest first. -/
def fromB (xs : List B8) : Nat := xs.foldl (fun n x => n * 256 + x.toNat) 0
theorem fromB_snoc (xs : List B8) (x : B8) : fromB (xs ++ [x]) = fromB xs * 256 + x.toNat := by simp [fromB]
theorem fromB_lt (xs : List B8) : fromB xs < 256 ^ xs.length := by
  have h : ∀ (l : List B8), fromB l.reverse < 256 ^ l.length := by
    intro l
    induction l with
    | nil => simp [fromB]
    | cons x l ih =>
      rw [List.reverse_cons, fromB_snoc, List.length_cons, Nat.pow_succ]
      have := x.isLt
      omega
  have := h xs.reverse
  rwa [List.reverse_reverse, List.length_reverse] at this
theorem or_u64 (a b : Nat) (ha : a < 2 ^ 56) (hb : b < 256) : bits .or .u64 ((a : Int) * 256) (b : Int) = ((a * 256 + b : Nat) : Int) := by
  unfold bits
  simp only [IntKind.bits]
  have e1 : BitVec.ofInt 64 ((a : Int) * 256) = BitVec.ofNat 64 (a * 256) := by
    apply BitVec.eq_of_toNat_eq
    simp
    omega
  have e2 : BitVec.ofInt 64 (b : Int) = BitVec.ofNat 64 b := by
    apply BitVec.eq_of_toNat_eq
    simp
  rw [e1, e2]
  have e3 : (BitVec.ofNat 64 (a * 256) ||| BitVec.ofNat 64 b).toNat = a * 256 + b := by
    rw [BitVec.toNat_or, BitVec.toNat_ofNat, BitVec.toNat_ofNat, Nat.mod_eq_of_lt (by omega), Nat.mod_eq_of_lt (by omega)]
    rw [Nat.mul_comm, show (256 : Nat) = 2 ^ 8 from rfl, ← Nat.two_pow_add_eq_or_of_lt (i := 8) (b := b) (by omega)]
  have e4 : ∀ z : BitVec 64, z.toNat = a * 256 + b → IntKind.u64.wrap (z.toNat : Int) = ((a * 256 + b : Nat) : Int) := by
    intro z hz
    rw [hz]
    simp [IntKind.wrap, IntKind.signed, IntKind.bits]
    omega
  exact e4 _ e3

set_option maxHeartbeats 1000000 in
theorem fromBytes_any (w : World) (A : Nat → Prop) (P : Option Addr) (m c : Nat) (xs : List B8) (hx : Bts A w (.slice P m c) xs) (hm : m ≤ 8) :
    Calls Tryz.prog 68 #[.slice P m c] w fun e w' => e = .returned (.int .u64 (fromB xs)) ∧ w = w' := by
  have hlen := hx.cells.1
  have H := Lib.hid (And.intro hx hlen)
  clear hx hlen
  go_enter Tryz.func68, Tryz.ntmps68
  go_wp2_with fail
  go_loop [3, 8] (fun v iv => ∃ i : Nat, i ≤ m ∧ iv = .int .i64 i ∧ v = .int .u64 (fromB (xs.take i))) (fun _ iv => m - (intOf iv).toNat)
  case atStart => exact ⟨0, Nat.zero_le _, rfl, rfl⟩
  case round =>
    obtain ⟨i, hi, rfl, rfl⟩ := hrel
    by_cases hlt : i < m
    · obtain ⟨g, o, rfl, _, _, hc⟩ := H.out.1.cells.2 (by omega)
      have hxi : i < xs.length := by have := H.out.2; omega
      have hci := hc i (.int .u8 (nb xs[i])) (by rw [Vb_get, List.getElem?_eq_getElem hxi]; rfl)
      clear hc
      have hb := nb_bound xs[i]
      have hlt2 := fromB_lt (xs.take i)
      obtain ⟨a, ha⟩ : ∃ a, fromB (xs.take i) = a := ⟨_, rfl⟩
      rw [ha] at hlt2 ⊢
      have ha56 : a < 2 ^ 56 := by
        have : (xs.take i).length ≤ 7 := by rw [List.length_take]; omega
        have : 256 ^ (xs.take i).length ≤ 256 ^ 7 := Nat.pow_le_pow_right (by omega) this
        omega
      go_wp2_with fail
      go_round
      case rel =>
        refine ⟨i + 1, by omega, by go_num, ?_⟩
        rw [take_snoc_ (List.getElem?_eq_getElem hxi), fromB_snoc, ha]
        unfold nb
        rw [or_u64 a _ ha56 xs[i].isLt]
      case measure => simp [intOf]; omega
    · obtain rfl : i = m := by omega
      rw [List.take_of_length_le (by have := H.out.2; omega)]
      go_wp2_with fail
      go_ret
      exact ⟨rfl, rfl⟩

/-- The sector's bytes from o on, so many. -/
def sub (xs : List B8) (o n : Nat) : List B8 := (xs.drop o).take n
theorem sub_length {xs : List B8} {o n : Nat} (h : o + n ≤ xs.length) : (sub xs o n).length = n := by simp [sub]; omega
theorem Bts.sub_ {A : Nat → Prop} {w : World} {g o m c : Nat} {xs : List B8} (h : Bts A w (.slice (some ⟨g, o, none⟩) m c) xs) {k n c' : Nat} (hk : k + n ≤ m) (hn : n ≤ c') (hc : c' ≤ 9223372036854775807) : Bts A w (.slice (some ⟨g, o + k, none⟩) n c') (sub xs k n) := by
  rcases h with ⟨e, _⟩ | ⟨g', o', cap, t, cs, e, hA, hn', hb, ht, h1, h2⟩
  · cases e
  · cases e
    refine Bts.of_blk hb hn' hA ?_ (sub_length (by omega)) hn (by unfold maxLen; omega)
    rw [sub_length (by omega)]
    unfold sub
    have e : Vb ((xs.drop k).take n) = (((Vb xs).drop k).take n) := by unfold Vb; rw [List.map_take, List.map_drop]
    rw [e, ← ht, List.drop_take, List.drop_drop, List.take_take, Nat.min_eq_left (by omega)]
set_option maxHeartbeats 1000000 in
theorem noted_any (w : World) (A : Nat → Prop) (g o c : Nat) (xs : List B8) (hx : Bts A w (.slice (some ⟨g, o, none⟩) 64 c) xs) (hc : 64 ≤ c) (hcm : c ≤ 9223372036854775807) :
    Calls Tryz.prog 140 #[.slice (some ⟨g, o, none⟩) 64 c] w fun e w' => e = .returned (.tuple #[.int .u64 (fromB (sub xs 0 8)), .int .i64 (fromB (sub xs 12 4)), .int .i64 (fromB (sub xs 16 4))]) ∧ Below w.heap.size w w' := by
  have hxl := hx.cells.1
  have hq1 := fromB_lt (sub xs 12 4)
  have hq2 := fromB_lt (sub xs 16 4)
  rw [sub_length (by omega)] at hq1 hq2
  have hr1 : fromB (sub xs 12 4) < 4294967296 := hq1
  have hr2 : fromB (sub xs 16 4) < 4294967296 := hq2
  clear hq1 hq2 hxl
  have H := Lib.hid hx
  clear hx
  go_enter Tryz.func140, Tryz.ntmps140
  go_wp2_with fail
  go_quiet ((go_at_call 68; exact Calls.quiet_of_same ((fromBytes_any _ A _ 8 c (sub xs 0 8) ((H.out.below (drewN_below w _)).sub_ (k := 0) (n := 8) (c' := c) (by omega) (by omega) hcm) (by omega)).mono fun e w' ⟨h1, h2⟩ => ⟨h1, h2.symm⟩)))
  go_wp2_with fail
  have H2 := Lib.hid (And.intro (H.out.below (drewN_below w nq)) (drewN_below w nq))
  generalize w.drewN nq = w2 at *
  go_quiet ((first
    | (go_at_call 68; with_reducible exact Calls.quiet_of_same ((fromBytes_any _ A (some ⟨g, o + 8 + 4, none⟩) 4 (c - 8 - 4) (sub xs 12 4) (by exact (H2.out.1.below (drewN_below w2 _)).sub_ (k := 12) (n := 4) (c' := c - 8 - 4) (by omega) (by omega) (by omega)) (by omega)).mono fun e w' ⟨h1, h2⟩ => ⟨h1, h2.symm⟩))
    | (go_at_call 68; with_reducible exact Calls.quiet_of_same ((fromBytes_any _ A (some ⟨g, o + 8 + 8, none⟩) 4 (c - 8 - 8) (sub xs 16 4) (by exact (H2.out.1.below (drewN_below w2 _)).sub_ (k := 16) (n := 4) (c' := c - 8 - 8) (by omega) (by omega) (by omega)) (by omega)).mono fun e w' ⟨h1, h2⟩ => ⟨h1, h2.symm⟩))))
  go_wp2_with fail
  go_ret3
  exact ⟨rfl, H2.out.2.trans ((drewN_below _ _).mono H2.out.2.size)⟩
end Go.Proofs.YtkmkblhmjeeaeaaGreatDoor
end

/-
  bytes.Equal of known bytes; doneBy: the number that a head tells. Conditions: the bytes are known; the constants lie in their variable.
-/

section
set_option maxRecDepth 100000
set_option linter.unusedSimpArgs false
set_option linter.unusedVariables false
namespace Go.Proofs.YtkmkblhmjeeaeaaGreatDoor
open Go.RowKit

theorem bytesOf_inj {xs ys : List B8} (h : Lib.bytesOf (xs.map nb) = Lib.bytesOf (ys.map nb)) : xs = ys := by
  unfold Lib.bytesOf at h
  rw [List.map_map, List.map_map] at h
  refine (List.map_inj_right (fun a b hab => ?_)).1 h
  have h2 := congrArg UInt8.toNat hab
  simp only [Function.comp, nb, Int.toNat_natCast, UInt8.toNat_ofNat'] at h2
  have h3 := a.isLt
  have h4 := b.isLt
  exact BitVec.eq_of_toNat_eq (by omega)
theorem Bts.bytesIn {A : Nat → Prop} {w : World} {P : Option Addr} {n c : Nat} {xs : List B8} (h : Bts A w (.slice P n c) xs) : Lib.BytesIn w P n (xs.map nb) := by
  obtain ⟨hl, hc⟩ := h.cells
  by_cases hn : 0 < n
  · obtain ⟨g, o, rfl, _, _, hcell⟩ := hc hn
    refine Lib.BytesIn.of_cells (fun i hi => ?_)
    rw [add_off, hcell i (.int .u8 (nb (xs.getD i 0))) ?_]
    · rw [List.getD_eq_getElem?_getD, List.getD_eq_getElem?_getD, List.getElem?_map, List.getElem?_eq_getElem (by omega)]
      rfl
    · rw [Vb_get, List.getD_eq_getElem?_getD, List.getElem?_eq_getElem (by omega)]
      rfl
  · obtain rfl : n = 0 := by omega
    exact Lib.BytesIn.nil w P _
theorem equal_bts {A A' : Nat → Prop} {w : World} {P Q : Option Addr} {m n c d : Nat} {xs ys : List B8} (hx : Bts A w (.slice P m c) xs) (hy : Bts A' w (.slice Q n d) ys) {b : Bool} (hb : decide (xs = ys) = b) :
    Calls Tryz.prog 45 #[.slice P m c, .slice Q n d] w fun e w' => e = .returned (.bool b) ∧ w = w' := by
  refine (Tryz.bytes_Equal_all P Q m c n d (xs.map nb) (ys.map nb) w (by rw [List.length_map]; exact hx.cells.1) (by rw [List.length_map]; exact hy.cells.1) hx.bytesIn hy.bytesIn).mono fun e w' ⟨he, hw⟩ => ⟨?_, hw.symm⟩
  rw [he, ← hb]
  congr 2
  rw [Bool.eq_iff_iff, beq_iff_eq, decide_eq_true_eq]
  exact ⟨bytesOf_inj, fun h => by rw [h]⟩

def zeros64 : List B8 := List.replicate 64 0
def top60 : Nat := 1152921504606846976
/-- The number that a head tells, if the head is right. -/
def doneB (ks : List B32) (b : List B8) : Option Nat :=
  if b = zeros64 then some 0 else if fromB (sub b 0 8) ≤ top60 ∧ b = headB ks (fromB (sub b 0 8)) then some (fromB (sub b 0 8)) else none
/-- What doneBy answers. -/
def donePost (r : Option Nat) (w : World) (e : Ending) (w' : World) : Prop := (match r with | some k => e = .returned (.tuple #[.int .i64 k, .bool true]) | none => e = .returned (.tuple #[.int .i64 0, .bool false])) ∧ Below w.heap.size w w'

set_option maxHeartbeats 1000000 in
theorem doneBy_any (ks : List B32) (w : World) (A : Nat → Prop) (g o c : Nat) (b : List B8) (hK : Roots ks w) (hx : Bts A w (.slice (some ⟨g, o, none⟩) 64 c) b) (hc : 64 ≤ c) (hcm : c ≤ 9223372036854775807) :
    Calls Tryz.prog 111 #[.slice (some ⟨g, o, none⟩) 64 c] w (donePost (doneB ks b) w) := by
  have hpos := hK.pos
  have hxl := hx.cells.1
  have H := Lib.hid (And.intro hx hK)
  clear hx hK
  by_cases hz : b = zeros64
  · have hdz : decide (b = zeros64) = true := by simpa using hz
    have hr : doneB ks b = some 0 := by unfold doneB; rw [if_pos hz]
    have HR := Lib.hid hr
    have HD := Lib.hid hdz
    clear hz hr hdz
    go_enter Tryz.func111, Tryz.ntmps111
    go_wp2_with (first
      | (go_at_call 59; refine (sector_none _).mono ?_; rintro e w1 ⟨rfl, hB, hW⟩; have H1 := Lib.hid (And.intro hB hW); clear hB hW)
      | (go_at_call 45; refine (equal_bts (H.out.1.below H1.out.2) (Bts.whole H1.out.1 (.inl rfl) (A := fun _ => True) trivial (by simp) (by omega)) HD.out).mono ?_; rintro e w2 ⟨rfl, rfl⟩))
    go_ret2
    refine ⟨?_, H1.out.2⟩
    rw [HR.out]
    rfl
  · have hdz : decide (b = zeros64) = false := by simpa using hz
    obtain ⟨k, hk⟩ : ∃ k, fromB (sub b 0 8) = k := ⟨_, rfl⟩
    have HD := Lib.hid hdz
    have HK := Lib.hid hk
    have hr : doneB ks b = if k ≤ top60 ∧ b = headB ks k then some k else none := by unfold doneB; rw [if_neg hz, hk]
    clear hz hdz hk
    by_cases h6 : k ≤ top60
    · have hgt : decide ((1152921504606846976 : Int) < (k : Int)) = false := by simp; unfold top60 at h6; omega
      have hkb : k ≤ 9223372036854775807 := Nat.le_trans h6 (by decide)
      by_cases hb : b = headB ks k
      · rw [if_pos ⟨h6, hb⟩] at hr
        have HR := Lib.hid hr
        have HDB := Lib.hid (show decide (b = headB ks k) = true by simpa using hb)
        clear hr hb h6
        go_enter Tryz.func111, Tryz.ntmps111
        go_wp2_with (go_at_call 59; refine (sector_none _).mono ?_; rintro e w1 ⟨rfl, hB, hW⟩; have H1 := Lib.hid (And.intro hB hW); clear hB hW)
        refine (equal_bts (H.out.1.below H1.out.2) (Bts.whole H1.out.1 (.inl rfl) (A := fun _ => True) trivial (by simp) (by omega)) HD.out).mono ?_
        rintro e w2 ⟨rfl, rfl⟩
        go_wp2_with (first | (go_at_call 68; refine (fromBytes_any _ A _ 8 c (sub b 0 8) (by exact (H.out.1.below H1.out.2).sub_ (k := 0) (n := 8) (c' := c) (by omega) (by omega) hcm) (by omega)).mono ?_; rw [HK.out]; rintro e w2 ⟨rfl, rfl⟩) | (go_at_call 94; refine (head_any ks _ k (H.out.2.below H1.out.2 hpos) hkb).mono ?_; rintro e w3 ⟨g3, rfl, hg3, hB, hW⟩; have H3 := Lib.hid (And.intro hB hW); clear hB hW))
        refine (equal_bts ((H.out.1.below H1.out.2).below H3.out.2) (Bts.whole H3.out.1 (.inl rfl) (A := fun _ => True) trivial (headB_length _ _) (by omega)) HDB.out).mono ?_
        rintro e w2 ⟨rfl, rfl⟩
        go_wp2_with fail
        go_ret2
        refine ⟨?_, below_of H1.out.2 H3.out.2⟩
        rw [HR.out]
        rfl
      · rw [if_neg (fun h => hb h.2)] at hr
        have HR := Lib.hid hr
        have HDB := Lib.hid (show decide (b = headB ks k) = false by simpa using hb)
        clear hr hb h6
        go_enter Tryz.func111, Tryz.ntmps111
        go_wp2_with (go_at_call 59; refine (sector_none _).mono ?_; rintro e w1 ⟨rfl, hB, hW⟩; have H1 := Lib.hid (And.intro hB hW); clear hB hW)
        refine (equal_bts (H.out.1.below H1.out.2) (Bts.whole H1.out.1 (.inl rfl) (A := fun _ => True) trivial (by simp) (by omega)) HD.out).mono ?_
        rintro e w2 ⟨rfl, rfl⟩
        go_wp2_with (first | (go_at_call 68; refine (fromBytes_any _ A _ 8 c (sub b 0 8) (by exact (H.out.1.below H1.out.2).sub_ (k := 0) (n := 8) (c' := c) (by omega) (by omega) hcm) (by omega)).mono ?_; rw [HK.out]; rintro e w2 ⟨rfl, rfl⟩) | (go_at_call 94; refine (head_any ks _ k (H.out.2.below H1.out.2 hpos) hkb).mono ?_; rintro e w3 ⟨g3, rfl, hg3, hB, hW⟩; have H3 := Lib.hid (And.intro hB hW); clear hB hW))
        refine (equal_bts ((H.out.1.below H1.out.2).below H3.out.2) (Bts.whole H3.out.1 (.inl rfl) (A := fun _ => True) trivial (headB_length _ _) (by omega)) HDB.out).mono ?_
        rintro e w2 ⟨rfl, rfl⟩
        go_wp2_with fail
        go_ret2
        refine ⟨?_, below_of H1.out.2 H3.out.2⟩
        rw [HR.out]
        rfl
    · rw [if_neg (fun h => h6 h.1)] at hr
      have hgt : decide ((1152921504606846976 : Int) < (k : Int)) = true := by simp; unfold top60 at h6; omega
      have HR := Lib.hid hr
      clear hr h6
      go_enter Tryz.func111, Tryz.ntmps111
      go_wp2_with (go_at_call 59; refine (sector_none _).mono ?_; rintro e w1 ⟨rfl, hB, hW⟩; have H1 := Lib.hid (And.intro hB hW); clear hB hW)
      refine (equal_bts (H.out.1.below H1.out.2) (Bts.whole H1.out.1 (.inl rfl) (A := fun _ => True) trivial (by simp) (by omega)) HD.out).mono ?_
      rintro e w2 ⟨rfl, rfl⟩
      go_wp2_with (go_at_call 68; refine (fromBytes_any _ A _ 8 c (sub b 0 8) (by exact (H.out.1.below H1.out.2).sub_ (k := 0) (n := 8) (c' := c) (by omega) (by omega) hcm) (by omega)).mono ?_; rw [HK.out]; rintro e w2 ⟨rfl, rfl⟩)
      go_ret2
      refine ⟨?_, H1.out.2⟩
      rw [HR.out]
      rfl
end Go.Proofs.YtkmkblhmjeeaeaaGreatDoor
end

/-
  sync.Once's slow road, the lock free and nothing done yet: the lock is taken, the function is called, 'done' is stored, the lock is let go. Conditions: the once's cells.
-/

section
set_option maxRecDepth 100000
set_option linter.unusedSimpArgs false
set_option linter.unusedVariables false
namespace Go.Proofs.YtkmkblhmjeeaeaaGreatDoor

theorem race_disable (w : World) : (callFunc 166 #[]).run Tryz.prog w = .ok (.value (.tuple #[])) w := run_call_mark0 Tryz.func166 (by kernel_rfl) (by kernel_rfl) (by kernel_rfl) .disable (by kernel_rfl) w
theorem race_enable (w : World) : (callFunc 168 #[]).run Tryz.prog w = .ok (.value (.tuple #[])) w := run_call_mark0 Tryz.func168 (by kernel_rfl) (by kernel_rfl) (by kernel_rfl) .enable (by kernel_rfl) w
theorem race_acquire (a : Addr) (w : World) : (callFunc 169 #[.pointer (some a)]).run Tryz.prog w = .ok (.value (.tuple #[])) w := run_call_marked Tryz.func169 (by kernel_rfl) (by kernel_rfl) (by kernel_rfl) .acquire (by kernel_rfl) a w
theorem race_releaseMerge (a : Addr) (w : World) : (callFunc 171 #[.pointer (some a)]).run Tryz.prog w = .ok (.value (.tuple #[])) w := run_call_marked Tryz.func171 (by kernel_rfl) (by kernel_rfl) (by kernel_rfl) .releaseMerge (by kernel_rfl) a w

/-- 'Store(true)' of an atomic bool, entered as a deferred call. -/
theorem store_deferred (a : Addr) (x : Value) (u : FrameMode) (w : World) (hc : w.cell? a = some x) (hz : w.frozen? a = false) :
    CallsD Tryz.prog 139 #[.pointer (some a), .bool true] u w fun e u' w' => u' = u ∧ (e = .returned (.tuple #[]) ∧ w' = w.drew.setCell a (.int .u32 1)) := by
  have hc' : w.drew.cell? a = some x := by go_simp
  have hz' : w.drew.frozen? a = false := by go_simp
  have hst := run_call_store (P := Tryz.prog) Tryz.func159 (by kernel_rfl) (by kernel_rfl) (by kernel_rfl) (by kernel_rfl) (k := .u32) (y := 1) hc' hz'
  go_enter_d Tryz.func139, Tryz.ntmps139
  go_wp2
  go_region_calls
  all_goals (go_end0; exact ⟨rfl, rfl⟩)

/-- Unlock, entered as a deferred call, the lock held and nobody waiting. -/
theorem unlock_deferred (a : Addr) (u : FrameMode) (w : World) (hc : w.cell? a = some (.int .i32 1)) (hz : w.frozen? a = false) :
    CallsD Tryz.prog 138 #[.pointer (some a)] u w fun e u' w' => u' = u ∧ (e = .returned (.tuple #[]) ∧ w' = w.setCell a (.int .i32 0)) := by
  have hd := race_disable
  have he := race_enable
  have hr := race_releaseMerge
  have hadd := run_call_add (P := Tryz.prog) Tryz.func172 (by kernel_rfl) (by kernel_rfl) (by kernel_rfl) .i32 (by kernel_rfl) (y := -1) (s := 0) hc hz (by simp [go_sem]; rfl)
  have hcv := run_convert_to_unsafe (P := Tryz.prog) (src := 244) (dst := 248) Tryz.underlying244 Tryz.underlying248 (by kernel_rfl) hc
  go_enter_d Tryz.func138, Tryz.ntmps138
  go_wp2
  go_end0
  go_wp2
  go_end0
  exact ⟨rfl, rfl⟩

/-- Lock, the lock free. -/
theorem lock_free (a : Addr) (w : World) (hc : w.cell? a = some (.int .i32 0)) (hz : w.frozen? a = false) :
    Calls Tryz.prog 137 #[.pointer (some a)] w fun e w' => e = .returned (.tuple #[]) ∧ w' = w.setCell a (.int .i32 1) := by
  have hd := race_disable
  have he := race_enable
  have ha := race_acquire
  have hcas := run_call_cas_hit (P := Tryz.prog) Tryz.func167 (by kernel_rfl) (by kernel_rfl) (by kernel_rfl) .i32 (by kernel_rfl) (y := 1) hc hz
  have hc' : (w.setCell a (.int .i32 1)).cell? a = some (.int .i32 1) := World.cell?_setCell_same w a _ hc
  have hcv := run_convert_to_unsafe (P := Tryz.prog) (src := 244) (dst := 248) Tryz.underlying244 Tryz.underlying248 (by kernel_rfl) hc'
  go_enter Tryz.func137, Tryz.ntmps137
  go_wp2
  first | go_end0 | (simp only [Exit.inBlock, Exit.then]; refine bodyPost_ret (results_none rfl _ _ _) rfl ?_) | refine bodyPost_ret (results_none rfl _ _ _) rfl ?_
  go_wp2
  go_end0
  exact ⟨rfl, rfl⟩
/-- 'Load' of an atomic bool. -/
theorem once_load (a : Addr) (x : Int) (w : World) (hc : w.cell? a = some (.int .u32 x)) :
    Calls Tryz.prog 109 #[.pointer (some a)] w fun e w' => e = .returned (.bool (x != 0)) ∧ w' = w := by
  have hl := run_call_load (P := Tryz.prog) Tryz.func136 (by kernel_rfl) (by kernel_rfl) (by kernel_rfl) .u32 (by kernel_rfl) hc
  go_enter Tryz.func109, Tryz.ntmps109
  go_wp2
  go_ret
  exact ⟨rfl, rfl⟩
end Go.Proofs.YtkmkblhmjeeaeaaGreatDoor
end

/-
  A log is recovered once: Do, over whatever recovering does. Conditions: recovering answers r and leaves the log's own cells; nothing was done yet.
-/

section
set_option maxRecDepth 100000
set_option linter.unusedSimpArgs false
set_option linter.unusedVariables false
namespace Go.Proofs.YtkmkblhmjeeaeaaGreatDoor
open Go.RowKit

/-- What recovering leaves. -/
def mendPost (B D L G n j : Nat) (S : Nat → List B8) (cw cf : Nat) (x : Int × Int) (done : Nat) (red : Bool) (r : Int) (w : World) (e : Ending) (w' : World) : Prop :=
  e = .returned (.int .i64 r) ∧ Idle B D L n S cw cf w' ∧ Blk w' G 131 (logCells D j x done red) ∧ Stp B [D, L, G] w w'

section
variable {B D L G n j : Nat} {S : Nat → List B8} {cw cf : Nat} {w : World} {done : Nat} {red : Bool} {r : Int} {p q : Nat} {u : Value}
theorem rec1_any {x : Int × Int} (hm : Calls Tryz.prog 81 #[.pointer (some ⟨G, 0, none⟩)] w (mendPost B D L G n j S cw cf x done red r w)) (hp : Blk w p 24 [.pointer (some ⟨G, 0, none⟩)]) (hq : Blk w q 36 [u])
    (hpX : p ∉ [D, L, G]) (hqX : q ∉ [D, L, G]) (hB : B ≤ w.heap.size) (hBq : B ≤ q) :
    Calls Tryz.prog 80 #[.pointer (some ⟨p, 0, none⟩), .pointer (some ⟨q, 0, none⟩)] w fun e w' => e = .returned (.tuple #[]) ∧ Idle B D L n S cw cf w' ∧ Blk w' G 131 (logCells D j x done red) ∧ Blk w' q 36 [.int .i64 r] ∧ Stp B [D, L, G, q] w w' := by
  have c0 := hp.cell 0
  have H := Lib.hid (And.intro hm (And.intro hp (And.intro hq (And.intro hpX hqX))))
  clear hm hp hq hpX hqX
  simp only [List.getElem?_cons_zero] at c0
  go_enter Tryz.func80, Tryz.ntmps80
  go_wp2_with (go_at_call 81; refine H.out.1.mono ?_; rintro e w2 ⟨rfl, hI, hG, hS⟩; have hq2 := hS.keep q _ _ (by decide) H.out.2.2.2.2 H.out.2.2.1; have q0 := hq2.cell 0; have q1 := hq2.frozen 0; simp only [List.getElem?_cons_zero] at q0; have H2 := Lib.hid (And.intro hI (And.intro hG (And.intro hS hq2))); clear hI hG hS hq2)
  go_end0
  have hs := H2.out.2.2.1.size
  have hset := stp_set (o := 0) (Nat.le_trans hB hs) hBq (.int .i64 r)
  have hqX := H.out.2.2.2.2
  simp only [List.mem_cons, List.not_mem_nil, or_false, not_or] at hqX
  refine ⟨rfl, H2.out.1.stp hset (by simp; exact fun h => hqX.1 h.symm) (by simp; exact fun h => hqX.2.1 h.symm), hset.keep G _ _ (by decide) (by simp; exact fun h => hqX.2.2 h.symm) H2.out.2.1, H2.out.2.2.2.set_ 0 (.int .i64 r), ?_⟩
  exact (H2.out.2.2.1.mono (by intro k hk _; simp at hk ⊢; rcases hk with h | h | h <;> simp [h])).trans (hset.mono (by intro k hk _; simp at hk ⊢; simp [hk]))

set_option maxHeartbeats 1600000 in
theorem slow_any {d0 : Nat} {red0 : Bool} (hG : Blk w G 131 (logCells D j (0, 0) d0 red0)) (hm : Calls Tryz.prog 81 #[.pointer (some ⟨G, 0, none⟩)] (w.setCell ⟨G, 3, none⟩ (.int .i32 1)) (mendPost B D L G n j S cw cf (0, 1) done red r (w.setCell ⟨G, 3, none⟩ (.int .i32 1))))
    (hp : Blk w p 24 [.pointer (some ⟨G, 0, none⟩)]) (hq : Blk w q 36 [u]) (hpX : p ∉ [D, L, G]) (hqX : q ∉ [D, L, G]) (hB : B ≤ w.heap.size) (hBq : B ≤ q) (hBG : B ≤ G) (hDG : D ≠ G) (hLG : L ≠ G) :
    Calls Tryz.prog 110 #[.pointer (some ⟨G, 2, none⟩), .func (.func 80) #[] #[.pointer (some ⟨p, 0, none⟩), .pointer (some ⟨q, 0, none⟩)]] w fun e w' => e = .returned (.tuple #[]) ∧ Idle B D L n S cw cf w' ∧ Blk w' G 131 (logCells D j (1, 0) done red) ∧ Blk w' q 36 [.int .i64 r] ∧ Stp B [D, L, G, q] w w' := by
  have hset := stp_set (w := w) (o := 3) hB hBG (.int .i32 1)
  have hG1 : Blk (w.setCell ⟨G, 3, none⟩ (.int .i32 1)) G 131 (logCells D j (0, 1) d0 red0) := hG.set_ 3 (.int .i32 1)
  have l2 : w.cell? ⟨G, 2, none⟩ = some (.int .u32 0) := hG.cell 2
  have l3 : w.cell? ⟨G, 3, none⟩ = some (.int .i32 0) := hG.cell 3
  have z3 := hG.frozen 3
  have hGp : p ∉ [G] := fun h => hpX (by simp at h ⊢; simp [h])
  have hGq : q ∉ [G] := fun h => hqX (by simp at h ⊢; simp [h])
  have HR := Lib.hid (rec1_any hm (hset.keep p _ _ (by decide) hGp hp) (hset.keep q _ _ (by decide) hGq hq) hpX hqX (by simpa using hB) hBq)
  have HS := Lib.hid (And.intro hset (And.intro hDG (And.intro hLG hqX)))
  have k2 : (w.setCell ⟨G, 3, none⟩ (.int .i32 1)).cell? ⟨G, 2, none⟩ = some (.int .u32 0) := hG1.cell 2
  have hnot : ∀ (x : Bool) (w : World), (Op.unary .not (.bool x)).run Tryz.prog w = .ok (.bool (!x)) w := fun _ _ => rfl
  clear hset hG hG1 hm hp hq hpX hqX hGp hGq
  go_enter_defers Tryz.func110, Tryz.ntmps110
  go_wp2_with (go_at_call 137; refine (lock_free ⟨G, 3, none⟩ _ l3 z3).mono ?_; rintro e w' ⟨rfl, rfl⟩)
  go_wp2_with (go_at_call 109; refine (once_load ⟨G, 2, none⟩ 0 _ k2).mono ?_; rintro e w' ⟨rfl, rfl⟩)
  refine HR.out.mono ?_
  rintro e w2 ⟨rfl, hI, hG2, hq2, hS2⟩
  have m2 : w2.cell? ⟨G, 2, none⟩ = some (.int .u32 0) := hG2.cell 2
  have m3 : w2.cell? ⟨G, 3, none⟩ = some (.int .i32 1) := hG2.cell 3
  have y2 := hG2.frozen 2
  have y3 := hG2.frozen 3
  have H2 := Lib.hid (And.intro hI (And.intro hG2 (And.intro hq2 hS2)))
  clear hI hG2 hq2 hS2
  go_wp2_with fail
  refine leaves_cons (f := 139) (args := #[.pointer (some ⟨G, 2, none⟩), .bool true]) (by simp) (by simp [go_sem]) ?_
  refine (store_deferred ⟨G, 2, none⟩ (.int .u32 0) .returning _ m2 y2).mono ?_
  rintro e u' w'' ⟨rfl, rfl, rfl⟩
  refine leaves_cons (f := 138) (args := #[.pointer (some ⟨G, 3, none⟩)]) (by simp [settle]) (by simp [go_sem]) ?_
  refine (unlock_deferred ⟨G, 3, none⟩ _ _ ?_ (by simp [y3])).mono ?_
  · refine (World.cell?_setCell_other _ ⟨G, 2, none⟩ ⟨G, 3, none⟩ _ (by simp)).trans ?_
    rw [World.cell?_drew]
    exact m3
  rintro e u' w'' ⟨rfl, rfl, rfl⟩
  simp [Leaves, settle, results, Tryz.results110]
  have hs2 := H2.out.2.2.2.size
  have hsz : (w.setCell ⟨G, 3, none⟩ (.int .i32 1)).heap.size = w.heap.size := by simp
  have hB2 : B ≤ w2.heap.size := by omega
  have a1 : Stp B [G] w2 w2.drew := Stp.of_below hB2 (drew_below w2)
  have a2 := stp_set (B := B) (G := G) (w := w2.drew) (o := 2) (by simpa using hB2) hBG (.int .u32 1)
  have a3 := stp_set (B := B) (G := G) (w := w2.drew.setCell ⟨G, 2, none⟩ (.int .u32 1)) (o := 3) (by simpa using hB2) hBG (.int .i32 0)
  have a := (a1.trans a2).trans a3
  have hqX := HS.out.2.2.2
  simp only [List.mem_cons, List.not_mem_nil, or_false, not_or] at hqX
  refine ⟨H2.out.1.stp a (by simp; exact HS.out.2.1) (by simp; exact HS.out.2.2.1), ?_, a.keep q _ _ (by decide) (by simp; exact hqX.2.2) H2.out.2.2.1, ?_⟩
  · exact ((H2.out.2.1.below (drew_below w2) H2.out.2.1.lt).set_ 2 (.int .u32 1)).set_ 3 (.int .i32 0)
  · refine ((HS.out.1.mono (by intro k hk _; simp at hk ⊢; simp [hk])).trans H2.out.2.2.2).trans (a.mono (by intro k hk _; simp at hk ⊢; simp [hk]))

theorem do_any {d0 : Nat} {red0 : Bool} (hG : Blk w G 131 (logCells D j (0, 0) d0 red0)) (hm : Calls Tryz.prog 81 #[.pointer (some ⟨G, 0, none⟩)] (w.setCell ⟨G, 3, none⟩ (.int .i32 1)) (mendPost B D L G n j S cw cf (0, 1) done red r (w.setCell ⟨G, 3, none⟩ (.int .i32 1))))
    (hp : Blk w p 24 [.pointer (some ⟨G, 0, none⟩)]) (hq : Blk w q 36 [u]) (hpX : p ∉ [D, L, G]) (hqX : q ∉ [D, L, G]) (hB : B ≤ w.heap.size) (hBq : B ≤ q) (hBG : B ≤ G) (hDG : D ≠ G) (hLG : L ≠ G) :
    Calls Tryz.prog 79 #[.pointer (some ⟨G, 2, none⟩), .func (.func 80) #[] #[.pointer (some ⟨p, 0, none⟩), .pointer (some ⟨q, 0, none⟩)]] w fun e w' => e = .returned (.tuple #[]) ∧ Idle B D L n S cw cf w' ∧ Blk w' G 131 (logCells D j (1, 0) done red) ∧ Blk w' q 36 [.int .i64 r] ∧ Stp B [D, L, G, q] w w' := by
  have l2 : w.cell? ⟨G, 2, none⟩ = some (.int .u32 0) := hG.cell 2
  have HM := Lib.hid (slow_any hG hm hp hq hpX hqX hB hBq hBG hDG hLG)
  have hnot : ∀ (x : Bool) (w : World), (Op.unary .not (.bool x)).run Tryz.prog w = .ok (.bool (!x)) w := fun _ _ => rfl
  clear hG hm hp hq hpX hqX
  go_enter Tryz.func79, Tryz.ntmps79
  go_wp2_with (first
    | (go_at_call 109; refine (once_load ⟨G, 2, none⟩ 0 _ l2).mono ?_; rintro e w' ⟨rfl, rfl⟩)
    | (go_at_call 110; refine HM.out.mono ?_; rintro e w2 ⟨rfl, hI⟩; have H2 := Lib.hid hI; clear hI))
  go_end0
  exact ⟨rfl, H2.out⟩

set_option maxHeartbeats 1600000 in
theorem recovered_any {d0 : Nat} {red0 : Bool} (hG : Blk w G 131 (logCells D j (0, 0) d0 red0)) (hD : D < w.heap.size) (hL : L < w.heap.size) (hB : B ≤ w.heap.size) (hBG : B ≤ G) (hDG : D ≠ G) (hLG : L ≠ G)
    (hm : ∀ w1, Stp B [G] w w1 → Blk w1 G 131 (logCells D j (0, 1) d0 red0) → Calls Tryz.prog 81 #[.pointer (some ⟨G, 0, none⟩)] w1 (mendPost B D L G n j S cw cf (0, 1) done red r w1)) :
    Calls Tryz.prog 49 #[.pointer (some ⟨G, 0, none⟩)] w fun e w' => e = .returned (.int .i64 r) ∧ Idle B D L n S cw cf w' ∧ Blk w' G 131 (logCells D j (1, 0) done red) ∧ Stp B [D, L, G] w w' := by
  have hmf : ∀ (fn : Fn) (first cap : Array Value) (w : World), (Instr.makeFunc fn first cap).run Tryz.prog w = .ok (.func fn first cap) w := fun _ _ _ _ => rfl
  have hGl := hG.lt
  have b1 := new_below w (.cells #[.pointer (some ⟨G, 0, none⟩)] 24)
  have k1 := Blk.new w 24 [.pointer (some ⟨G, 0, none⟩)]
  have b2 := new_below (w.alloc (.cells #[.pointer (some ⟨G, 0, none⟩)] 24)) (.cells #[.int .i64 0] 36)
  have k2 := Blk.new (w.alloc (.cells #[.pointer (some ⟨G, 0, none⟩)] 24)) 36 [.int .i64 0]
  simp only [World.size_alloc] at k2
  have k1' := k1.below b2 k1.lt
  have hG2 := hG.below (below_of b1 b2) hGl
  have p0 := k1'.cell 0
  simp only [List.getElem?_cons_zero] at p0
  have hs : Stp B [G] ((w.alloc (.cells #[.pointer (some ⟨G, 0, none⟩)] 24)).alloc (.cells #[.int .i64 0] 36)) (((w.alloc (.cells #[.pointer (some ⟨G, 0, none⟩)] 24)).alloc (.cells #[.int .i64 0] 36)).setCell ⟨G, 3, none⟩ (.int .i32 1)) := stp_set (by simp; omega) hBG _
  have HDo := Lib.hid (do_any (p := w.heap.size) (q := w.heap.size + 1) hG2 (hm _ ((Stp.of_below hB (below_of b1 b2)).trans hs) (hG2.set_ 3 (.int .i32 1))) k1' k2 (by simp; omega) (by simp; omega) (by simp; omega) (by omega) hBG hDG hLG)
  have HB := Lib.hid (below_of b1 b2)
  clear hm hG b1 k1 b2 k2 k1' hG2 hs
  go_enter Tryz.func49, Tryz.ntmps49
  go_wp2_with (go_at_call 79; refine HDo.out.mono ?_; rintro e w2 ⟨rfl, hI, hG2, hq2, hS2⟩; have q0 := hq2.cell 0; have q1 := hq2.frozen 0; simp only [List.getElem?_cons_zero] at q0; have H2 := Lib.hid (And.intro hI (And.intro hG2 (And.intro hq2 hS2))); clear hI hG2 hq2 hS2)
  have hsz : (w.alloc (.cells #[.pointer (some ⟨G, 0, none⟩)] 24)).heap.size = w.heap.size + 1 := by simp
  have hs2 := H2.out.2.2.2.size
  simp only [World.size_alloc] at hs2
  have hset := stp_set (B := B) (G := w.heap.size + 1) (o := 0) (w := w2) (by omega) (by omega) (.int .i64 r)
  have hc0 := ((H2.out.2.2.1).set_ 0 (.int .i64 r)).cell 0
  simp only [List.set_cons_zero, List.getElem?_cons_zero] at hc0
  refine bodyPost_ret (v := .int .i64 r) ?_ rfl ⟨rfl, ?_, ?_, ?_⟩
  · simp [results, Tryz.results49, go_sem, hc0]
  · exact H2.out.1.stp hset (by simp; omega) (by simp; omega)
  · exact hset.keep G _ _ (by decide) (by simp; omega) H2.out.2.1
  · refine (((Stp.of_below (X := [D, L, G, w.heap.size + 1]) hB HB.out).trans H2.out.2.2.2).trans (hset.mono (Y := [D, L, G, w.heap.size + 1]) (by intro k hk _; simp at hk ⊢; simp [hk]))).mono ?_
    intro k hk hlt
    simp only [List.mem_cons, List.not_mem_nil, or_false] at hk ⊢
    omega
end
end Go.Proofs.YtkmkblhmjeeaeaaGreatDoor
end
