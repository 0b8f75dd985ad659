/-
  nodes: a right value as the document's nodes. Conditions: the value and the nodes lie in memory.
-/
import Derived.Test.YtodpojbgkeecnaaDoorCNodesPre
import Derived.Deep.RegionLaw
set_option linter.unusedSimpArgs false
set_option linter.unusedVariables false
namespace Go.Proofs.YtodpojbgkeecnaaDoor
open Go.RowKit

set_option maxRecDepth 100000 in
set_option maxHeartbeats 4000000 in
theorem nodes_one (kd nn : Int) (b : List UInt8) (l : List T) (hs : ∀ t ∈ l, NodesSays t) (hr : T.anyB (.mk kd nn b l) = false) : NodesSays (.mk kd nn b l) := by
  intro w Q v hin A n c ns xs hN hlen
  obtain ⟨Ab, nb, cb, L, nl, cl, zs, rfl, hB, hL⟩ := hin.open_
  obtain ⟨i1, hj, hy0, hy1, hy2⟩ := info_parts iinfo
  have HJ := Lib.hid (And.intro hj (And.intro hy0 (And.intro hy1 hy2)))
  have hW := below_new w (.cells #[.int .i64 kd, .int .i64 nn, .slice Ab nb cb, .slice L nl cl] 26)
  have HI := Lib.hid (And.intro hB (And.intro hL (hN.keep (w' := w.alloc (.cells #[.int .i64 kd, .int .i64 nn, .slice Ab nb cb, .slice L nl cl] 26)) (Q' := QV w.heap.size Q (.slice none 0 0)) (by simp) fun g hq hg => ⟨Below.heap_alloc _ _ _ hg, .inl ⟨hq, hg⟩⟩)))
  have hnn := hN.len
  have hnl := hL.len
  have hll : T.anyAll l = false ∧ l.length + (T.encAll l).length ≤ 2 * (T.mk kd nn b l).enc.length := by
    have h1 : ∀ (l : List T), l.length ≤ (T.encAll l).length := by
      intro l
      induction l with
      | nil => simp
      | cons t r ih => have := enc_two t; rw [T.encAll]; simp; omega
    rcases T.right_shape hr with ⟨rfl, rfl, rfl⟩ | ⟨rfl, rfl, rfl⟩ | ⟨rfl, rfl, rfl, hl⟩
    · exact ⟨rfl, by simp [T.encAll]⟩
    · exact ⟨rfl, by simp [T.encAll]⟩
    · refine ⟨hl, ?_⟩
      have := h1 l
      rw [enc_list]
      omega
  have hel : (T.encAll l).length ≤ (T.mk kd nn b l).enc.length := by
    rcases T.right_shape hr with ⟨rfl, rfl, rfl⟩ | ⟨rfl, rfl, rfl⟩ | ⟨rfl, rfl, rfl, hl⟩
    · simp [T.encAll]
    · simp [T.encAll]
    · rw [enc_list]; omega
  have HLL := Lib.hid (And.intro hll (And.intro hel (And.intro hlen (And.intro hnn hnl))))
  have hcl := hL.cap
  have hcm := hL.capm
  unfold maxLen at hcm
  have HS := Lib.hid hs
  have hn4 : n ≤ 400000 := by omega
  have hnl4 : nl ≤ 800000 := by have := hll.2; omega
  clear hj hy0 hy1 hy2 hin hB hL hN hW hnn hnl hll hel hlen hs hr
  go_enter Tryd.func12, Tryd.ntmps12
  go_wp2_with fail
  go_loopw [0, 6, 7] (fun v0 v6 v7 wr => MRel w Q (w.alloc (.cells #[.int .i64 kd, .int .i64 nn, .slice Ab nb cb, .slice L nl cl] 26)) ns l v0 v6 v7 wr) (fun _ _ i _ => nl - (intOf i).toNat)
  case atStart =>
    have hnn := HLL.out.2.2.2.1
    subst hnn
    have h := HI.out.2.2
    refine ⟨0, A, _, c, ns, xs, [], Nat.zero_le _, rfl, by simp [T.flatAll], by simp [T.flatAll], rfl, h, World.ownsRow_nil _ _ _ _, ?_⟩
    rw [← World.size_alloc w (.cells #[.int .i64 kd, .int .i64 nn, .slice Ab nb cb, .slice L nl cl] 26)]
    exact Below.refl _ _
  case round =>
    obtain ⟨k, A1, m1, c1, ms, xs1, ps, hkl, rfl, hms, hps, rfl, hN1, hown, hbel⟩ := hrel
    have hz := (Blk.new w 26 [.int .i64 kd, .int .i64 nn, .slice Ab nb cb, .slice L nl cl]).below hbel (Nat.lt_succ_self _)
    have y0 := hz.cell 0
    have y1 := hz.cell 1
    have y2 := hz.cell 2
    have y3 := hz.cell 3
    simp only [List.getElem?_cons_succ, List.getElem?_cons_zero] at y0 y1 y2 y3
    have hzl := hz.lt
    have hbw : Below (w.alloc (.cells #[.int .i64 kd, .int .i64 nn, .slice Ab nb cb, .slice L nl cl] 26)).heap.size (w.alloc (.cells #[.int .i64 kd, .int .i64 nn, .slice Ab nb cb, .slice L nl cl] 26)) wr := by rw [World.size_alloc]; exact hbel
    have bw : Below w.heap.size w wr := (below_new _ _).trans (hbel.mono (Nat.le_succ _))
    have hli := HI.out.2.1.keep (w' := wr) (Q' := QV w.heap.size Q u6) fun g hq hg => ⟨bw.block g hg, .inl ⟨hq, hg⟩⟩
    have hnll := HLL.out.2.2.2.2
    have hflk := flatAll_length (l.take k) ns.length (T.anyAll_take_no l k HLL.out.1.1)
    have hetk := T.encAll_take_le l k
    have hml := hN1.len
    have hmn : m1 + (T.encAll l).length ≤ n + (T.encAll l).length + (T.encAll (l.take k)).length := by
      rw [← hml, hms, List.length_append]
      have := HLL.out.2.2.2.1
      omega
    by_cases hkn : k < nl
    · have hki : (k : Int) < (nl : Int) := by omega
      have hk0 : (0 : Int) ≤ (k : Int) := by omega
      obtain ⟨t, htk⟩ : ∃ t, l[k]? = some t := ⟨_, List.getElem?_eq_getElem (by omega)⟩
      obtain ⟨gl, ol, rfl, _, _⟩ := hli.cells (by omega)
      obtain ⟨d0, d1, d2, d3, h0, h1, h2, h3, hint⟩ := hli.get k t htk
      have hm := List.mem_of_getElem? htk
      have htt : (T.encAll (l.take k)).length + t.enc.length ≤ (T.encAll l).length := by
        have h := T.encAll_take_le l (k + 1)
        rw [T.encAll_take htk, List.length_append] at h
        exact h
      have hbd : m1 + t.enc.length ≤ 400000 := by
        have := HLL.out.2.1
        have := HLL.out.2.2.1
        rw [← hml, hms, List.length_append]
        have := HLL.out.2.2.2.1
        omega
      have hcall := HS.out t hm wr _ _ hint A1 m1 c1 ms xs1 hN1 hbd
      obtain ⟨k', m', Ax, nx, cx, Lx, mx, dx, hform⟩ := hint.form
      injection hform with hform
      simp only [Array.mk.injEq, List.cons.injEq, and_true] at hform
      obtain ⟨rfl, rfl, rfl, rfl⟩ := hform
      have HR := Lib.hid (And.intro hown (And.intro hbel (And.intro htk (And.intro hN1 (And.intro hms hps)))))
      clear hown hbel htk hm hint hli hz hbw bw hN1 hflk hetk hnll hms hps hml hmn htt hbd
      go_wp2_with fail
      refine hcall.mono ?_
      rintro e w5 ⟨A5, m5, c5, xs5, rfl, hN5, hb5⟩
      have H5 := Lib.hid (And.intro hN5 (And.intro hb5 (ownsRow_only (S := []) HR.out.1 (Only.of_below hb5) (by simp))))
      have hbs : w.heap.size + 1 ≤ w5.heap.size := Nat.le_trans (by omega) hb5.size
      clear hN5 hb5
      go_wp2_with (at_builtin; go_loud (refine wpList_append_lies _ rfl (.tmp 28) (.tmp 30) 44 rfl (w.heap.size + 1) 3 i1 (.int .i64 0) 1 8 Tryd.underlying44 HJ.out.1 HJ.out.2.1 HJ.out.2.2.1 HJ.out.2.2.2 rfl (by decide) _ k ps rfl (H5.out.2.2.alloc _) ⟨w5.heap.size, 0, none⟩ 1 1 [.int .i64 ((m5 : Int) - 1)] rfl rfl (one_int_new w5 _) (by simp [Value.oneCell']) (by decide) (by unfold maxLen; omega) (by omega) (by simp; omega) _ rfl ?_); intro gg cap w6 ho6 hg6 hat6 hlt6; have H6 := Lib.hid (And.intro ho6 (And.intro hg6 hat6)); clear ho6 hg6 hat6 hlt6)
      go_roundw
      case rel => exact mRel_step HR.out.2.2.1 HR.out.2.2.2.2.1 HR.out.2.2.2.2.2 HR.out.1 H5.out.1 H6.out.1 H6.out.2.1 H6.out.2.2 HR.out.2.1 H5.out.2.1 (by omega)
      case measure => simp [intOf]; omega
    · obtain rfl : k = nl := by omega
      have hm5 : m1 ≤ 800000 := by
        have := HLL.out.2.1
        have := HLL.out.2.2.1
        rw [← hml, hms, List.length_append]
        have := HLL.out.2.2.2.1
        omega
      rw [List.take_of_length_le (by omega)] at hms hps
      have hpr : ∀ x ∈ (T.flatAll l ns.length).2, -9223372036854775808 ≤ x ∧ x ≤ 9223372036854775807 := by
        intro x hx
        have h1 := flatAll_range l ns.length x hx
        have h2 := hml
        rw [hms, List.length_append] at h2
        have h3 : m1 ≤ 800000 := hm5
        omega
      rw [hps] at hown
      obtain ⟨A6, c6, rfl, hP6⟩ := own_pin hown hpr
      have HE := Lib.hid (And.intro hown (And.intro hN1 (And.intro hP6 (And.intro hbel (And.intro hms (And.intro bw hml))))))
      have hbs : w.heap.size + 1 ≤ wr.heap.size := by omega
      clear hown hN1 hP6 hbel hms hps hz hbw bw hli hnll hflk hetk hml hmn hkn hpr
      go_wp2_with fail
      have hndw : NdIn wr (fun g => Q g ∨ w.heap.size ≤ g) ⟨kd, nn, b, (T.flatAll l ns.length).2⟩ (.int .i64 kd) (.int .i64 nn) (.slice Ab nb cb) (.slice A6 k c6) :=
        ⟨rfl, rfl, ⟨Ab, nb, cb, rfl, HI.out.1.keep fun g hq hg => ⟨HE.out.2.2.2.2.2.1.block g hg, .inl hq⟩⟩, A6, k, c6, rfl, HE.out.2.2.1.keep (Nat.le_refl _) fun g hq _ => ⟨rfl, .inr (by omega)⟩⟩
      have hnB := Blk.new (wr.alloc (.cells #[] 61)) 61 [.int .i64 kd, .int .i64 nn, .slice Ab nb cb, .slice A6 k c6]
      have hnC := (Blk.new wr 61 [.int .i64 kd, .int .i64 nn, .slice Ab nb cb, .slice A6 k c6]).alloc (.cells #[] 61)
      rw [World.size_alloc] at hnB
      have HN := Lib.hid hndw
      clear hndw
      go_region_held3 (fun w' => w'.cell? ⟨w.heap.size, 0, none⟩ = some (.int .i64 kd) ∧ w'.cell? ⟨w.heap.size, 1, none⟩ = some (.int .i64 nn) ∧ w'.cell? ⟨w.heap.size, 2, none⟩ = some (.slice Ab nb cb))
        (first | exact ⟨y0, y1, y2⟩ | exact ⟨later_cell _ y0, later_cell _ y1, later_cell _ y2⟩ | exact ⟨later_cell _ (later_cell _ y0), later_cell _ (later_cell _ y1), later_cell _ (later_cell _ y2)⟩ | exact ⟨t0, t1, t2⟩ | exact ⟨later_cell _ t0, later_cell _ t1, later_cell _ t2⟩ | exact ⟨s0, s1, s2⟩ | (trace_state; fail))
        (first
        | ((with_reducible refine step_append_nodes43 (gN := wr.heap.size + 1) rfl rfl (.tmp 32) (.tmp 33) rfl (w.heap.size + 1) (.slice (some ⟨wr.heap.size, 0, none⟩) 0 0) 0 [] rfl ?o1 A1 m1 c1 ms xs1 (QV w.heap.size Q (.slice A6 k c6)) rfl ?o2 ?o3 ?o4 ?_); (case o1 => exact empty_row (by first | exact heap_alloc_new wr _ | exact (Below.heap_alloc _ _ _ (by simp)).trans (heap_alloc_new wr _)) (by omega)); (case o2 => exact HE.out.2.1.below (by repeat (first | with_reducible exact Below.refl _ _ | with_reducible refine Below.drew ?_ | refine Below.alloc ?_ (by simp) _))); (case o3 => omega); (case o4 => simp; omega); intro v7 w7 ho7 hg7 hat7; rw [Nat.zero_add, List.nil_append] at ho7; have hb7 := grown_on (wr := wr) (gE := wr.heap.size) (by repeat (first | with_reducible exact Below.refl _ _ | with_reducible refine Below.drew ?_ | refine Below.alloc ?_ (by simp) _)) hg7 (by omega); have hl7 := own_later (wr := wr) (gE := wr.heap.size) hat7 (by omega) (by first | (simp; done) | (simp; omega)); have t0 := cell_on hb7 y0; have t1 := cell_on hb7 y1; have t2 := cell_on hb7 y2; have hx7 : Blk w7 (wr.heap.size + 1) 61 [.int .i64 kd, .int .i64 nn, .slice Ab nb cb, .slice A6 k c6] := Blk.grown (by exact hnB) hg7 (by simp [Value.ownBlock]); have h7s := hb7.size; have H7B := Lib.hid (And.intro ho7 (And.intro hb7 (And.intro hl7 hx7))); clear hx7; clear ho7 hg7 hat7 hb7 hl7)
        | ((with_reducible refine step_append_nodes43 (gN := wr.heap.size) rfl rfl (.tmp 32) (.tmp 33) rfl (w.heap.size + 1) (.slice (some ⟨wr.heap.size + 1, 0, none⟩) 0 0) 0 [] rfl ?o1 A1 m1 c1 ms xs1 (QV w.heap.size Q (.slice A6 k c6)) rfl ?o2 ?o3 ?o4 ?_); (case o1 => exact empty_row (by have h := heap_alloc_new (wr.alloc (.cells #[.int .i64 kd, .int .i64 nn, .slice Ab nb cb, .slice A6 k c6] 61)) (.cells #[] 61); rw [World.size_alloc] at h; exact h) (by omega)); (case o2 => exact HE.out.2.1.below (by repeat (first | with_reducible exact Below.refl _ _ | with_reducible refine Below.drew ?_ | refine Below.alloc ?_ (by simp) _))); (case o3 => omega); (case o4 => simp; omega); intro v7 w7 ho7 hg7 hat7; rw [Nat.zero_add, List.nil_append] at ho7; have hb7 := grown_on (wr := wr) (gE := wr.heap.size + 1) (by repeat (first | with_reducible exact Below.refl _ _ | with_reducible refine Below.drew ?_ | refine Below.alloc ?_ (by simp) _)) hg7 (by omega); have hl7 := own_later (wr := wr) (gE := wr.heap.size + 1) hat7 (by omega) (by first | (simp; done) | (simp; omega)); have t0 := cell_on hb7 y0; have t1 := cell_on hb7 y1; have t2 := cell_on hb7 y2; have hx7 : Blk w7 wr.heap.size 61 [.int .i64 kd, .int .i64 nn, .slice Ab nb cb, .slice A6 k c6] := Blk.grown (by exact hnC) hg7 (by simp [Value.ownBlock]); have h7s := hb7.size; have H7C := Lib.hid (And.intro ho7 (And.intro hb7 (And.intro hl7 hx7))); clear hx7; clear ho7 hg7 hat7 hb7 hl7)
        | ((with_reducible refine step_append_nodes rfl (.tmp 32) (.tmp 33) rfl (w.heap.size + 1) (.slice (some ⟨wr.heap.size, 0, none⟩) 0 0) 0 [] rfl ?o1 A1 m1 c1 ms xs1 (QV w.heap.size Q (.slice A6 k c6)) rfl ?o2 ?o3 ?o4 ?_); (case o1 => exact empty_row (by first | exact heap_alloc_new wr _ | exact (Below.heap_alloc _ _ _ (by simp)).trans (heap_alloc_new wr _)) (by omega)); (case o2 => exact HE.out.2.1.below (by repeat (first | with_reducible exact Below.refl _ _ | with_reducible refine Below.drew ?_ | refine Below.alloc ?_ (by simp) _))); (case o3 => omega); (case o4 => simp; omega); intro v7 w7 ho7 hg7 hat7; rw [Nat.zero_add, List.nil_append] at ho7; have hb7 := grown_on (wr := wr) (gE := wr.heap.size) (by repeat (first | with_reducible exact Below.refl _ _ | with_reducible refine Below.drew ?_ | refine Below.alloc ?_ (by simp) _)) hg7 (by omega); have hl7 := own_later (wr := wr) (gE := wr.heap.size) hat7 (by omega) (by first | (simp; done) | (simp; omega)); have t0 := cell_on hb7 y0; have t1 := cell_on hb7 y1; have t2 := cell_on hb7 y2; have h7s := hb7.size; have H7A := Lib.hid (And.intro ho7 (And.intro hb7 (And.intro hl7 trivial))); clear ho7 hg7 hat7 hb7 hl7)
        | ((with_reducible refine step_append_nodes rfl (.tmp 34) (.tmp 43) rfl (w.heap.size + 1) v7 m1 xs1 rfl ?o1 (some ⟨w7.heap.size, 0, none⟩) 1 1 [⟨kd, nn, b, (T.flatAll l ns.length).2⟩] [.int .i64 kd, .int .i64 nn, .slice Ab nb cb, .slice A6 k c6] (fun g => Q g ∨ w.heap.size ≤ g) rfl ?o2 ?o3 ?o4 ?_); (case o1 => first | exact H7A.out.1 | exact H7A.out.1.alloc _); (case o2 => exact one_nin (Blk.new w7 61 [.int .i64 kd, .int .i64 nn, .slice Ab nb cb, .slice A6 k c6]) (.inr (by omega)) (HN.out.below (H7A.out.2.1.trans (Below.mono (B := w7.heap.size) (by repeat (first | with_reducible exact Below.refl _ _ | with_reducible refine Below.drew ?_ | refine Below.alloc ?_ (by simp) _)) h7s)))); (case o3 => omega); (case o4 => have := H7A.out.2.1.size; simp; omega); intro v8 w8 ho8 hg8 hat8; obtain ⟨A8, c8, rfl, _⟩ := own_shape ho8; have hb8 := (H7A.out.2.1.trans (Below.mono (B := w7.heap.size) (by repeat (first | with_reducible exact Below.refl _ _ | with_reducible refine Below.drew ?_ | refine Below.alloc ?_ (by simp) _)) h7s)).grown hg8 (by have := H7A.out.2.1.size; simp; omega) H7A.out.2.2.1; have s0 := cell_on hb8 y0; have s1 := cell_on hb8 y1; have s2 := cell_on hb8 y2; have H8 := Lib.hid (And.intro ho8 hb8); clear ho8 hg8 hat8 hb8)
        | ((with_reducible refine step_append_nodes rfl (.tmp 34) (.tmp 43) rfl (w.heap.size + 1) v7 m1 xs1 rfl ?o1 (some ⟨wr.heap.size + 1, 0, none⟩) 1 1 [⟨kd, nn, b, (T.flatAll l ns.length).2⟩] [.int .i64 kd, .int .i64 nn, .slice Ab nb cb, .slice A6 k c6] (fun g => Q g ∨ w.heap.size ≤ g) rfl ?o2 ?o3 ?o4 ?_); (case o1 => first | exact H7B.out.1 | exact H7B.out.1.alloc _); (case o2 => exact one_nin H7B.out.2.2.2 (.inr (by omega)) (HN.out.below (H7B.out.2.1.trans (Below.mono (B := w7.heap.size) (by repeat (first | with_reducible exact Below.refl _ _ | with_reducible refine Below.drew ?_ | refine Below.alloc ?_ (by simp) _)) h7s)))); (case o3 => omega); (case o4 => have := H7B.out.2.1.size; simp; omega); intro v8 w8 ho8 hg8 hat8; obtain ⟨A8, c8, rfl, _⟩ := own_shape ho8; have hb8 := (H7B.out.2.1.trans (Below.mono (B := w7.heap.size) (by repeat (first | with_reducible exact Below.refl _ _ | with_reducible refine Below.drew ?_ | refine Below.alloc ?_ (by simp) _)) h7s)).grown hg8 (by have := H7B.out.2.1.size; simp; omega) H7B.out.2.2.1; have s0 := cell_on hb8 y0; have s1 := cell_on hb8 y1; have s2 := cell_on hb8 y2; have H8 := Lib.hid (And.intro ho8 hb8); clear ho8 hg8 hat8 hb8)
        | ((with_reducible refine step_append_nodes rfl (.tmp 34) (.tmp 43) rfl (w.heap.size + 1) v7 m1 xs1 rfl ?o1 (some ⟨wr.heap.size, 0, none⟩) 1 1 [⟨kd, nn, b, (T.flatAll l ns.length).2⟩] [.int .i64 kd, .int .i64 nn, .slice Ab nb cb, .slice A6 k c6] (fun g => Q g ∨ w.heap.size ≤ g) rfl ?o2 ?o3 ?o4 ?_); (case o1 => first | exact H7C.out.1 | exact H7C.out.1.alloc _); (case o2 => exact one_nin H7C.out.2.2.2 (.inr (by omega)) (HN.out.below (H7C.out.2.1.trans (Below.mono (B := w7.heap.size) (by repeat (first | with_reducible exact Below.refl _ _ | with_reducible refine Below.drew ?_ | refine Below.alloc ?_ (by simp) _)) h7s)))); (case o3 => omega); (case o4 => have := H7C.out.2.1.size; simp; omega); intro v8 w8 ho8 hg8 hat8; obtain ⟨A8, c8, rfl, _⟩ := own_shape ho8; have hb8 := (H7C.out.2.1.trans (Below.mono (B := w7.heap.size) (by repeat (first | with_reducible exact Below.refl _ _ | with_reducible refine Below.drew ?_ | refine Below.alloc ?_ (by simp) _)) h7s)).grown hg8 (by have := H7C.out.2.1.size; simp; omega) H7C.out.2.2.1; have s0 := cell_on hb8 y0; have s1 := cell_on hb8 y1; have s2 := cell_on hb8 y2; have H8 := Lib.hid (And.intro ho8 hb8); clear ho8 hg8 hat8 hb8))
      all_goals
        go_wp2_with fail
        go_ret2
        exact nodes_end H8.out.1 H8.out.2 HE.out.2.2.2.2.2.1 HE.out.2.1 HE.out.2.2.2.2.1 HN.out

/-- nodes of any right value. -/
theorem nodes_any : ∀ (N : Nat) (t : T), t.high < N → t.ok → t.anyB = false → NodesSays t
  | 0, _, h, _, _ => absurd h (by omega)
  | N + 1, .mk k n b l, h, hok, ha => by
    rw [T.ok] at hok
    have hal : T.anyAll l = false := by rw [T.anyB, Bool.or_eq_false_iff] at ha; exact ha.2
    exact nodes_one k n b l (fun t ht => nodes_any N t (by have := T.high_lt (k := k) (n := n) (b := b) ht; omega) (T.okAll_mem hok.2.2.2.2 t ht) (T.anyAll_mem hal t ht)) ha

end Go.Proofs.YtodpojbgkeecnaaDoor
