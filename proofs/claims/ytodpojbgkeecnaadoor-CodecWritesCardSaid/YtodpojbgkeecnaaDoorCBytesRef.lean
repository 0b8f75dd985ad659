/-
  The document's Bytes: of the value at a place of a list of nodes. Conditions: the nodes lie in memory; the place tells a right value.
-/
import Derived.Test.YtodpojbgkeecnaaDoorCNodeSpec
import Derived.Test.YtodpojbgkeecnaaDoorCNumRef
import Derived.Test.YtodpojbgkeecnaaDoorCConv
import Derived.Deep.RegionHeld3
set_option linter.unusedSimpArgs false
set_option linter.unusedVariables false
namespace Go.Proofs.YtodpojbgkeecnaaDoor
open Go.RowKit

/-- What Bytes leaves. -/
def RefPost (t : T) (w : World) (e : Ending) (w' : World) : Prop := ∃ A' c', e = .returned (.slice A' t.enc.length c') ∧ BIn w' (fun g => w.heap.size ≤ g) A' t.enc.length c' t.enc ∧ Below w.heap.size w w'
/-- What Bytes says of a value. -/
def RefSays (t : T) : Prop := ∀ (w : World) (Q : Nat → Prop) (A : Option Addr) (n c : Nat) (ns : List Nd) (xs : List Value) (p : Int), NIn w Q A n c ns xs → n ≤ 1000000 → Rep ns t p →
  Calls Tryd.prog 15 #[.slice A n c, .int .i64 p] w (RefPost t w)
theorem ref_conv {t : T} {w : World} {o : Obj} {X : ByteArray} {n g : Nat} (hX : X = ⟨t.enc.toArray⟩) (hn : n = t.enc.length) (hg : g = w.heap.size + 1) (hl : t.enc.length ≤ 100000) : RefPost t w (.returned (.slice (some ⟨g, 0, none⟩) n (grownCap (w.alloc o) n 0 5))) (Lib.bytesWorld (w.alloc o) 5 X) := by
  subst hX hn hg
  have h := conv_row (w.alloc o) t.enc hl
  rw [World.size_alloc] at h
  exact ⟨_, _, rfl, (h.bin (B := w.heap.size) (by omega)), (below_new w o).trans ((below_conv _ _).mono (by simp))⟩
theorem bs_snoc (l : List UInt8) (x : UInt8) : (⟨l.toArray⟩ : ByteArray) ++ ⟨#[x]⟩ = ⟨(l ++ [x]).toArray⟩ := by
  apply ByteArray.ext
  simp

set_option maxRecDepth 100000 in
set_option maxHeartbeats 2000000 in
theorem ref_num (m : Int) (hm : -9223372036854775808 ≤ m ∧ m ≤ 9223372036854775807) : RefSays (.mk 0 m [] []) := by
  intro w Q A n c ns xs p hN hn hR
  rw [Rep] at hR
  obtain ⟨j, ps, rfl, hj, hps⟩ := hR
  have hjn : j < n := by have := hN.len; have := (List.getElem?_eq_some_iff.1 hj).1; omega
  obtain ⟨g, o, rfl, hg, _, _⟩ := hN.cells (by omega)
  obtain ⟨c0, c1, c2, c3, h0, h1, h2, h3, e0, e1, ⟨A2, n2, k2, e2, hB2⟩, A3, n3, k3, e3, hP3⟩ := hN.get j _ hj
  subst e0 e1 e2 e3
  simp only at h0 h1
  have hji : (j : Int) < (n : Int) := by omega
  have hl := Lib.itoa_length_le m hm.1 hm.2
  clear hj hps hN hB2 hP3
  go_enter Tryd.func15, Tryd.ntmps15
  go_wp2_with fail
  refine (number_any _ m hm.1 hm.2).mono ?_
  rintro e w2 ⟨rfl, rfl⟩
  have hcv := conv_any
  go_wp2_with fail
  go_ret
  exact ref_conv (t := .mk 0 m [] []) (by rw [bs_cons, bs_snoc, enc_0]; rfl) (by rw [enc_0]; simp; omega) rfl (by rw [enc_0]; simp; omega)

theorem ref_txt_end {w W w5 : World} {b : List UInt8} {n2 c5 : Nat} {A5 : Option Addr} (hb : b.length = n2) (h5 : BIn w5 (fun x => w.heap.size ≤ x) A5 ((Lib.itoa (n2 : Int)).length + 1 + n2) c5 ((Lib.itoa (n2 : Int) ++ [58]) ++ b)) (hg : W.grownBy w5 (some (w.heap.size + 1))) (hbel : Below w.heap.size w W) :
    RefPost (.mk 1 0 b []) w (.returned (.slice A5 ((Lib.itoa (n2 : Int)).length + 1 + n2) c5)) w5 := by
  subst hb
  have e : (T.mk 1 0 b []).enc = (Lib.itoa (b.length : Int) ++ [58]) ++ b := by rw [enc_1]; simp
  have el : (T.mk 1 0 b []).enc.length = (Lib.itoa (b.length : Int)).length + 1 + b.length := by rw [e]; simp; omega
  refine ⟨A5, c5, by rw [el], by rw [el, e]; exact h5, hbel.grown hg hbel.size fun k hk => ?_⟩
  injection hk with hk
  omega

set_option maxRecDepth 100000 in
set_option maxHeartbeats 2000000 in
theorem ref_txt (b : List UInt8) (hb : b.length ≤ 200000) : RefSays (.mk 1 0 b []) := by
  intro w Q A n c ns xs p hN hn hR
  rw [Rep] at hR
  obtain ⟨j, ps, rfl, hj, hps⟩ := hR
  have hjn : j < n := by have := hN.len; have := (List.getElem?_eq_some_iff.1 hj).1; omega
  obtain ⟨g, o, rfl, hg, _, _⟩ := hN.cells (by omega)
  obtain ⟨c0, c1, c2, c3, h0, h1, h2, h3, e0, e1, ⟨A2, n2, k2, e2, hB2⟩, A3, n3, k3, e3, hP3⟩ := hN.get j _ hj
  subst e0 e1 e2 e3
  simp only at h0 h1
  have hji : (j : Int) < (n : Int) := by omega
  have hl2 := hB2.len
  simp only at hl2
  have hl := Lib.itoa_length_le (n2 : Int) (by omega) (by omega)
  have HB := Lib.hid (And.intro hB2 hl2)
  have hx := Blk.new w 61 [.int .i64 1, .int .i64 0, .slice A2 n2 k2, .slice A3 n3 k3]
  have y2 := hx.cell 2
  simp only [List.getElem?_cons_succ, List.getElem?_cons_zero] at y2
  have hnn : n2 ≤ 200000 := by omega
  clear hj hps hN hB2 hP3 hl2 hx
  have hcv := conv_any
  go_enter Tryd.func15, Tryd.ntmps15
  go_wp2_with fail
  have hcrA := conv_row2 (w := w.alloc (.cells #[.int .i64 1, .int .i64 0, .slice A2 n2 k2, .slice A3 n3 k3] 61)) (g := w.heap.size + 1) (bs_snoc (Lib.itoa (n2 : Int)) 58) (n := (Lib.itoa (n2 : Int)).length + 1) (by simp) (by simp) (by simp; omega)
  have hcrD := conv_row2 (w := (w.alloc (.cells #[.int .i64 1, .int .i64 0, .slice A2 n2 k2, .slice A3 n3 k3] 61)).drew) (g := w.heap.size + 1) (bs_snoc (Lib.itoa (n2 : Int)) 58) (n := (Lib.itoa (n2 : Int)).length + 1) (by simp) (by simp) (by simp; omega)
  have hbA := (below_new w (.cells #[.int .i64 1, .int .i64 0, .slice A2 n2 k2, .slice A3 n3 k3] 61)).trans ((below_conv (w.alloc (.cells #[.int .i64 1, .int .i64 0, .slice A2 n2 k2, .slice A3 n3 k3] 61)) (⟨(Lib.itoa (n2 : Int)).toArray⟩ ++ ⟨#[58]⟩)).mono (by simp))
  have hbD := ((below_new w (.cells #[.int .i64 1, .int .i64 0, .slice A2 n2 k2, .slice A3 n3 k3] 61)).drew).trans ((below_conv (w.alloc (.cells #[.int .i64 1, .int .i64 0, .slice A2 n2 k2, .slice A3 n3 k3] 61)).drew (⟨(Lib.itoa (n2 : Int)).toArray⟩ ++ ⟨#[58]⟩)).mono (by simp))
  have hno : ¬ (9223372036854775807 < (Lib.itoa (n2 : Int)).length + 1) := by omega
  have HA := Lib.hid (And.intro hcrA hbA)
  have HD := Lib.hid (And.intro hcrD hbD)
  clear hcrA hcrD hbA hbD
  have zA : ∀ X, (Lib.bytesWorld (w.alloc (.cells #[.int .i64 1, .int .i64 0, .slice A2 n2 k2, .slice A3 n3 k3] 61)) 5 X).cell? ⟨w.heap.size, 2, none⟩ = some (.slice A2 n2 k2) := fun X => conv_cell y2
  have zD : ∀ X, (Lib.bytesWorld (w.alloc (.cells #[.int .i64 1, .int .i64 0, .slice A2 n2 k2, .slice A3 n3 k3] 61)).drew 5 X).cell? ⟨w.heap.size, 2, none⟩ = some (.slice A2 n2 k2) := fun X => conv_cell (W := (w.alloc (.cells #[.int .i64 1, .int .i64 0, .slice A2 n2 k2, .slice A3 n3 k3] 61)).drew) y2
  go_region_law (first
      | (go_simp; go_at_call 30; refine (number_any _ n2 (by omega) (by omega)).mono ?_; rintro e w2 ⟨rfl, rfl⟩)
      | ((with_reducible refine step_append_crow rfl (.tmp 29) (.tmp 31) rfl rfl (by first | rfl | simp) HA.out.1 Q A2 n2 k2 b rfl (HB.out.1.below HA.out.2) (by first | omega | (simp; omega)) ?_); intro A5 c5 w5 hb5 hg5; have H5 := Lib.hid (And.intro (hb5 w.heap.size (Nat.le_succ _) (by have := HA.out.2.size; omega)) (And.intro hg5 HA.out.2)); clear hb5 hg5)
      | ((with_reducible refine step_append_crow rfl (.tmp 29) (.tmp 31) rfl rfl (by first | rfl | simp) HD.out.1 Q A2 n2 k2 b rfl (HB.out.1.below HD.out.2) (by first | omega | (simp; omega)) ?_); intro A5 c5 w5 hb5 hg5; have H5 := Lib.hid (And.intro (hb5 w.heap.size (Nat.le_succ _) (by have := HD.out.2.size; omega)) (And.intro hg5 HD.out.2)); clear hb5 hg5))
  all_goals
    go_wp2_with fail
    go_ret
    exact ref_txt_end HB.out.2 H5.out.1 H5.out.2.1 H5.out.2.2

/-- Where Bytes' loop stands. -/
def ORel (B : Nat) (W : World) (l : List T) (v i : Value) (wr : World) : Prop := ∃ k : Nat, k ≤ l.length ∧ i = .int .i64 k ∧ wr.ownsRow B 5 1 v (1 + (T.encAll (l.take k)).length) (Lib.byteCells (40 :: T.encAll (l.take k))) ∧ Below B W wr
theorem oRel_start {w : World} {o : Obj} {l : List T} : ORel (w.heap.size + 1) (w.alloc o) l (.slice (some ⟨w.heap.size + 1, 0, none⟩) 1 1) (.int .i64 0) ((w.alloc o).alloc (.cells #[.int .u8 40] 5)) := by
  have h := heap_alloc_new (w.alloc o) (.cells #[.int .u8 40] 5)
  rw [World.size_alloc] at h
  refine ⟨0, Nat.zero_le _, rfl, ⟨rfl, .inr ⟨w.heap.size + 1, 1, _, rfl, Nat.le_refl _, h, Nat.le_refl _, by unfold maxLen; omega, rfl, rfl⟩⟩, ?_⟩
  have := below_new (w.alloc o) (.cells #[.int .u8 40] 5)
  rwa [World.size_alloc] at this
theorem oRel_end {w wr w6 : World} {o : Obj} {l : List T} {v : Value} {n : Nat} (ho : w6.ownsRow (w.heap.size + 1) 5 1 v n (Lib.byteCells (T.mk 2 0 [] l).enc)) (hn : n = (T.mk 2 0 [] l).enc.length) (hb : Below (w.heap.size + 1) (w.alloc o) wr) (hb6 : Below (w.heap.size + 1) wr w6) : RefPost (.mk 2 0 [] l) w (.returned v) w6 := by
  subst hn
  obtain ⟨A, c, rfl, h⟩ := own_bin ho
  exact ⟨A, c, rfl, h.keep fun g hg _ => ⟨rfl, by omega⟩, (below_new w o).trans ((hb.trans hb6).mono (by omega))⟩

set_option maxRecDepth 100000 in
set_option maxHeartbeats 2000000 in
theorem ref_lst (l : List T) (hs : ∀ t ∈ l, RefSays t) (hlen : (T.encAll l).length ≤ 200000) : RefSays (.mk 2 0 [] l) := by
  intro w Q A n c ns xs p hN hn hR
  rw [Rep] at hR
  obtain ⟨j, ps, rfl, hj, hps⟩ := hR
  have hjn : j < n := by have := hN.len; have := (List.getElem?_eq_some_iff.1 hj).1; omega
  obtain ⟨g, o, rfl, hg, _, _⟩ := hN.cells (by omega)
  obtain ⟨c0, c1, c2, c3, h0, h1, h2, h3, e0, e1, ⟨A2, n2, k2, e2, hB2⟩, A3, n3, k3, e3, hP3⟩ := hN.get j _ hj
  subst e0 e1 e2 e3
  simp only at h0 h1 hP3
  have hP3 := hP3.1
  have hji : (j : Int) < (n : Int) := by omega
  obtain ⟨hpl, hpg⟩ := hps.get
  have hpn := hP3.len
  have hcp3 := hP3.cap
  have HP := Lib.hid (And.intro hP3 (And.intro hN (And.intro hpl hpg)))
  have HS := Lib.hid hs
  have HL := Lib.hid hlen
  have hnl : n3 = l.length := by omega
  have hn3 : n3 ≤ 9223372036854775807 := by
    have h1 : ∀ (l : List T), l.length ≤ (T.encAll l).length := by
      intro l
      induction l with
      | nil => simp
      | cons t r ih => have := enc_two t; rw [T.encAll]; simp; omega
    have := h1 l
    omega
  have HNL := Lib.hid hnl
  clear hj hps hN hB2 hP3 hpl hpg hpn hs hlen hnl
  go_enter Tryd.func15, Tryd.ntmps15
  go_wp2_with fail
  go_loopw [6, 7] (fun v i wr => ORel (w.heap.size + 1) (w.alloc (.cells #[.int .i64 2, .int .i64 0, .slice A2 n2 k2, .slice A3 n3 k3] 61)) l v i wr) (fun _ i _ => n3 - (intOf i).toNat)
  case atStart => exact oRel_start
  case round =>
    obtain ⟨k, hkl, rfl, hown, hbel⟩ := hrel
    have hz := (Blk.new w 61 [.int .i64 2, .int .i64 0, .slice A2 n2 k2, .slice A3 n3 k3]).below hbel (Nat.lt_succ_self _)
    have y3 := hz.cell 3
    simp only [List.getElem?_cons_succ, List.getElem?_cons_zero] at y3
    have hzl := hz.lt
    have bw : Below w.heap.size w wr := (below_new _ _).trans (hbel.mono (Nat.le_succ _))
    have hkl2 : k ≤ n3 := by have := HNL.out; omega
    by_cases hkn : k < n3
    · have hki : (k : Int) < (n3 : Int) := by omega
      have hk0 : (0 : Int) ≤ (k : Int) := by omega
      obtain ⟨t, htk⟩ : ∃ t, l[k]? = some t := ⟨_, List.getElem?_eq_getElem (by have := HNL.out; omega)⟩
      obtain ⟨p, hpk, hrep⟩ := HP.out.2.2.2 k t htk
      obtain ⟨gp, op, rfl, hgp, hcp⟩ := (HP.out.1.below bw).cells (by omega)
      have hcell := hcp k p hpk
      have hm := List.mem_of_getElem? htk
      have hte : t.enc.length ≤ (T.encAll l).length := T.enc_le hm
      have htl := T.encAll_take_le l k
      have hcall := HS.out t hm wr Q _ n c ns xs p (HP.out.2.1.below bw) hn hrep
      have HR := Lib.hid (And.intro hown (And.intro hbel htk))
      have hts : t.enc.length ≤ 200000 := by have := HL.out; omega
      have htt : (T.encAll (l.take k)).length ≤ 200000 := by have := HL.out; omega
      clear hown hbel htk hm hte htl hcp hpk hrep hz bw
      go_wp2_with (first
        | (go_at_call 15; refine hcall.mono ?_; rintro e w5 ⟨Ay, cy, rfl, hby, hb5⟩; have H5 := Lib.hid (And.intro hby (And.intro hb5 (ownsRow_only (S := []) HR.out.1 (Only.of_below hb5) (by simp)))); have hbs : w.heap.size + 1 ≤ w5.heap.size := Nat.le_trans (by omega) hb5.size; clear hby hb5)
        | (at_builtin; go_loud (refine wpList_append_bin rfl (.tmp 41) (.tmp 48) rfl (w.heap.size + 1) _ (1 + (T.encAll (l.take k)).length) (Lib.byteCells (40 :: T.encAll (l.take k))) rfl H5.out.2.2 _ Ay t.enc.length cy t.enc rfl H5.out.1 (by omega) hbs ?_); intro v9 w6 ho6 hg6 hat6; have H6 := Lib.hid (And.intro ho6 hg6); clear ho6 hg6 hat6))
      go_roundw
      case rel =>
        refine ⟨k + 1, by have := (List.getElem?_eq_some_iff.1 HR.out.2.2).1; omega, by go_num, ?_, ((HR.out.2.1.trans (H5.out.2.1.mono (by omega))).grown H6.out.2 hbs (own_ge H5.out.2.2))⟩
        have := H6.out.1
        rw [T.encAll_take HR.out.2.2, List.length_append]
        simpa [Lib.byteCells, Nat.add_assoc] using this
      case measure => simp [intOf]; omega
    · obtain rfl : k = n3 := by omega
      rw [List.take_of_length_le (by have := HNL.out; omega)] at hown
      have hbs : w.heap.size + 1 ≤ wr.heap.size := by omega
      have hl2 : 1 + (T.encAll l).length ≤ 200100 := by have := HL.out; omega
      have HR := Lib.hid (And.intro hown hbel)
      clear hown hbel bw hkn hz
      go_wp2_with (at_builtin; go_loud (refine wpList_append_bin rfl (.tmp 50) (.tmp 51) rfl (w.heap.size + 1) _ (1 + (T.encAll l).length) (Lib.byteCells (40 :: T.encAll l)) rfl (HR.out.1.alloc _) _ (some ⟨wr.heap.size, 0, none⟩) 1 1 [41] rfl (const_bin wr _ _ [41] 1 rfl (by unfold maxLen; omega) rfl) (by omega) (by simp; omega) ?_); intro v9 w6 ho6 hg6 hat6; have H6 := Lib.hid (And.intro ho6 hg6); clear ho6 hg6 hat6)
      go_ret
      refine oRel_end (n := 1 + (T.encAll l).length + 1) (by have := H6.out.1; rw [enc_2]; simpa [Lib.byteCells] using this) (by rw [enc_2]; simp; omega) HR.out.2 ?_
      exact ((Below.refl (w.heap.size + 1) wr).alloc hbs _).grown H6.out.2 (by simp; omega) (own_ge HR.out.1)

/-- Bytes of any right value. -/
theorem ref_any : ∀ (N : Nat) (t : T), t.high < N → t.ok → t.anyB = false → t.enc.length ≤ 200000 → RefSays t
  | 0, _, h, _, _, _ => absurd h (by omega)
  | N + 1, .mk k n b l, h, hok, ha, hl => by
    rw [T.ok] at hok
    rcases T.right_shape ha with ⟨rfl, rfl, rfl⟩ | ⟨rfl, rfl, rfl⟩ | ⟨rfl, rfl, rfl, hal⟩
    · exact ref_num n hok.2.1
    · exact ref_txt b (by rw [enc_1] at hl; simp at hl; omega)
    · rw [enc_list] at hl
      refine ref_lst l (fun t ht => ?_) (by omega)
      have := T.enc_le ht
      exact ref_any N t (by have := T.high_lt (k := 2) (n := 0) (b := []) ht; omega) (T.okAll_mem hok.2.2.2.2 t ht) (T.anyAll_mem hal t ht) (by omega)

end Go.Proofs.YtodpojbgkeecnaaDoor
