/-
  digest: what binds the journal's notes to a transaction. Conditions: the constants lie in their variable; numbers aren't below 0, bytes are a sector's.
-/
import Derived.Test.YtkmkblhmjeeaeaaGreatDoorM7
import Derived.Test.YtkmkblhmjeeaeaaGreatDoorM4
import Derived.Deep.AppendLies
import Derived.Deep.RegionLaw
import Derived.PlainAid
import Derived.Deep.DeepCutAuto
import Derived.Deep.CutBlock
import Derived.Outline
import Derived.Maps.OwnSet
import Derived.Maps.OwnOps
import Derived.Maps.Own
import Derived.SliceStrings
section
set_option maxRecDepth 100000
set_option linter.unusedSimpArgs false
set_option linter.unusedVariables false
namespace Go.Proofs.YtkmkblhmjeeaeaaGreatDoor
open Go.RowKit

/-- A new slice of the bytes of xs, from block N on. -/
def NewB (N n : Nat) (xs : List B8) (x : Value) (w : World) : Prop := ∃ g, x = .slice (some ⟨g, 0, none⟩) n n ∧ N ≤ g ∧ Blk w g 5 (Vb xs)
theorem NewB.below {N n : Nat} {xs : List B8} {x : Value} {w w' : World} (h : NewB N n xs x w) (hb : Below w.heap.size w w') : NewB N n xs x w' := by
  obtain ⟨g, e, hg, hk⟩ := h
  exact ⟨g, e, hg, hk.below hb hk.lt⟩

theorem blk_pair {w : World} {b : Nat} {t : TypeId} {x y : Value} (h : Blk w b t [x, y]) : w.cell? ⟨b, 0, none⟩ = some x ∧ w.cell? ⟨b, 1, none⟩ = some y := ⟨h.cell 0, h.cell 1⟩
theorem inBytes8 (w : World) (n : Nat) (hn : n ≤ 9223372036854775807) :
    Calls Tryz.prog 97 #[.int .i64 n, .int .i64 8] w fun e w' => e = .returned (.slice (some ⟨w.heap.size, 0, none⟩) 8 8) ∧ Blk w' w.heap.size 5 (Vb (big 8 n)) ∧ Below w.heap.size w w' := inBytes_any w n 8 hn (by omega)
theorem inBytes4 (w : World) (n : Nat) (hn : n ≤ 9223372036854775807) :
    Calls Tryz.prog 97 #[.int .i64 n, .int .i64 4] w fun e w' => e = .returned (.slice (some ⟨w.heap.size, 0, none⟩) 4 4) ∧ Blk w' w.heap.size 5 (Vb (big 4 n)) ∧ Below w.heap.size w w' := inBytes_any w n 4 hn (by omega)
theorem cell_below {w w' : World} {b o : Nat} {u : Value} (h : w.cell? ⟨b, o, none⟩ = some u) (hb : Below w.heap.size w w') : w'.cell? ⟨b, o, none⟩ = some u := (hb.cell (p := ⟨b, o, none⟩) (World.block_lt_of_cell? w _ h)).trans h
theorem cell_drew {w w' : World} {b o : Nat} {u : Value} (h : w.cell? ⟨b, o, none⟩ = some u) (hb : Below w.drew.heap.size w.drew w') : w'.cell? ⟨b, o, none⟩ = some u := cell_below (w := w.drew) h hb
theorem blk_drew {w w' : World} {g : Nat} {t : TypeId} {cs : List Value} (h : Blk w g t cs) (hb : Below w.drew.heap.size w.drew w') : Blk w' g t cs := Blk.below (w := w.drew) h hb h.lt
theorem below_drew {w a b : World} (h1 : Below w.heap.size w a) (h2 : Below a.drew.heap.size a.drew b) : Below w.heap.size w b := below_of (h1.trans ((drew_below a).mono h1.size)) h2
theorem own_below {w w' : World} {N e s n : Nat} {v : Value} {xs : List Value} (h : w.ownsRow N e s v n xs) (hb : Below w.heap.size w w') : w'.ownsRow N e s v n xs := ownsRow_only (S := []) h (Only.of_below hb) (by simp)

/-- A slice of texts in memory of the call's own. -/
def OParts (N : Nat) (w : World) (v : Value) (n : Nat) (X : List (List B8)) : Prop := ∃ cells : List Value, w.ownsRow N 40 1 v n cells ∧ cells.length = n ∧ X.length = n ∧ ∀ (j : Nat) (x : List B8), X[j]? = some x → ∃ u, cells[j]? = some u ∧ Bts (fun _ => True) w u x
theorem OParts.below {N n : Nat} {w w' : World} {v : Value} {X : List (List B8)} (h : OParts N w v n X) (hb : Below w.heap.size w w') : OParts N w' v n X := by
  obtain ⟨cells, h1, h2, h3, h4⟩ := h
  refine ⟨cells, own_below h1 hb, h2, h3, fun j x hx => ?_⟩
  obtain ⟨u, hu, hb'⟩ := h4 j x hx
  exact ⟨u, hu, hb'.below hb⟩
theorem Bts.grown {A : Nat → Prop} {w w' : World} {v : Value} {xs : List B8} {N e sz n : Nat} {r : Value} {cells : List Value} (h : Bts A w v xs) (ho : w.ownsRow N e sz r n cells) (hg : w.grownBy w' r.ownBlock) (h1 : e ≠ 5) (h2 : e ≠ 168) : Bts A w' v xs := by
  rcases h with h | ⟨g, o, cap, t, cs, e, hA, hn, hb, ht, h3, h4⟩
  · exact .inl h
  · exact .inr ⟨g, o, cap, t, cs, e, hA, hn, hb.grown hg (fun q => own_blk_ne ho hb (fun q2 => hn.ne h1 h2 q2.symm) q.symm), ht, h3, h4⟩
theorem OParts.snoc2 {N n : Nat} {w' : World} {X : List (List B8)} {cells : List Value} (hl : X.length = n) (hcl : cells.length = n) {u0 u1 : Value} {x0 x1 : List B8} {g cap : Nat}
    (h4 : ∀ (j : Nat) (x : List B8), X[j]? = some x → ∃ u, cells[j]? = some u ∧ Bts (fun _ => True) w' u x)
    (ho : w'.ownsRow N 40 1 (.slice (some ⟨g, 0, none⟩) (n + 2) cap) (n + 2) (cells ++ [u0, u1])) (h0 : Bts (fun _ => True) w' u0 x0) (h1 : Bts (fun _ => True) w' u1 x1) : OParts N w' (.slice (some ⟨g, 0, none⟩) (n + 2) cap) (n + 2) (X ++ [x0, x1]) := by
  refine ⟨_, ho, by simp [hcl], by simp [hl], fun j x hx => ?_⟩
  by_cases hj : j < n
  · rw [List.getElem?_append_left (by omega)] at hx
    obtain ⟨u, hu, hb⟩ := h4 j x hx
    exact ⟨u, by rw [List.getElem?_append_left (by omega)]; exact hu, hb⟩
  · rw [List.getElem?_append_right (by omega), hl] at hx
    rw [List.getElem?_append_right (by omega), hcl]
    match j - n, hx with
    | 0, hx =>
      simp only [List.getElem?_cons_zero, Option.some.injEq] at hx
      subst hx
      exact ⟨u0, rfl, h0⟩
    | 1, hx =>
      simp only [List.getElem?_cons_zero, List.getElem?_cons_succ, Option.some.injEq] at hx
      subst hx
      exact ⟨u1, rfl, h1⟩
    | k + 2, hx =>
      simp at hx
theorem OParts.two {N g : Nat} {w : World} {u0 u1 : Value} {x0 x1 : List B8} (hN : N ≤ g) (hb : Blk w g 40 [u0, u1]) (h0 : Bts (fun _ => True) w u0 x0) (h1 : Bts (fun _ => True) w u1 x1) : OParts N w (.slice (some ⟨g, 0, none⟩) 2 2) 2 [x0, x1] := by
  refine ⟨[u0, u1], ⟨rfl, .inr ⟨g, 2, _, rfl, hN, hb, Nat.le_refl _, by unfold maxLen; decide, rfl, rfl⟩⟩, rfl, rfl, fun j x hx => ?_⟩
  match j, hx with
  | 0, hx =>
    simp only [List.getElem?_cons_zero, Option.some.injEq] at hx
    subst hx
    exact ⟨u0, rfl, h0⟩
  | 1, hx =>
    simp only [List.getElem?_cons_zero, List.getElem?_cons_succ, Option.some.injEq] at hx
    subst hx
    exact ⟨u1, rfl, h1⟩
  | k + 2, hx => simp at hx
theorem OParts.parts {N n : Nat} {w : World} {v : Value} {X : List (List B8)} (h : OParts N w v n X) (hn : 0 < n) : Parts (fun _ => True) w v X := by
  obtain ⟨cells, h1, h2, h3, h4⟩ := h
  rcases h1.2 with ⟨rfl, h0⟩ | ⟨g, cap, cur, rfl, hg, hb, hc1, hc2, hcs, ht⟩
  · omega
  · refine ⟨g, cap, cur.toList, by rw [h3], trivial, by simpa [Blk] using hb, ?_, by omega, hc2, fun i x hx => ?_⟩
    · have := congrArg List.length ht
      rw [List.length_take] at this
      simp at this
      simp
      omega
    · obtain ⟨u, hu, hbt⟩ := h4 i x hx
      refine ⟨u, ?_, hbt⟩
      rw [← ht, List.getElem?_take] at hu
      split at hu
      · exact hu
      · cases hu
theorem slices_one (A B : Option Addr) (m n c d : Nat) : ∀ u ∈ [Value.slice A m c, .slice B n d], u.oneCell' = true := by
  intro u hu
  simp only [List.mem_cons, List.not_mem_nil, or_false] at hu
  rcases hu with rfl | rfl <;> rfl

theorem txts_small (num : Nat) (ws : List (Int × List B8)) (h : ∀ p ∈ ws, p.2.length ≤ 300) : ∀ x ∈ txtsOf num ws, x.length ≤ 300 := by
  intro x hx
  unfold txtsOf at hx
  rcases List.mem_cons.1 hx with rfl | hx
  · rw [big_length]; omega
  rcases List.mem_cons.1 hx with rfl | hx
  · rw [big_length]; omega
  obtain ⟨p, hp, hx⟩ := List.mem_flatMap.1 hx
  simp only [List.mem_cons, List.not_mem_nil, or_false] at hx
  rcases hx with rfl | rfl
  · rw [big_length]; omega
  · exact h p hp

set_option maxHeartbeats 1000000 in
theorem digest_any (ks : List B32) (w : World) (A : Nat → Prop) (num m : Nat) (P : Option Addr) (c : Nat) (ws : List (Int × List B8)) (hK : Roots ks w) (hw : Wrs A w (.slice P m c) ws) (hnum : num ≤ 9223372036854775807) (hm : m ≤ 15)
    (hok : ∀ p ∈ ws, 0 ≤ p.1 ∧ p.1 ≤ 4294967296 ∧ p.2.length = 64) :
    Calls Tryz.prog 90 #[.agg #[.int .i64 num, .slice P m c]] w fun e w' => e = .returned (.agg (Vb (digOf ks num ws)).toArray) ∧ Below w.heap.size w w' := by
  have hz := zero32
  have hpos := hK.pos
  have hlen := hw.len
  obtain ⟨i1, hj, hy0, hy1, hy2⟩ := info_parts (show (Tryz.prog.info? 40).map (fun i => (i.zero, i.size, i.bytes)) = some (some (.slice none 0 0), 1, 24) by kernel_rfl)
  have HJ := Lib.hid (And.intro hj (And.intro hy0 (And.intro hy1 hy2)))
  have hb1 := new_below w (.cells #[.int .i64 num, .slice P m c] 141)
  have hk1 := Blk.new w 141 [.int .i64 num, .slice P m c]
  have hb2 := new_below (w.alloc (.cells #[.int .i64 num, .slice P m c] 141)) (.cells (List.replicate 32 (Value.int .u8 0)).toArray 168)
  have hk2 := Blk.new (w.alloc (.cells #[.int .i64 num, .slice P m c] 141)) 168 (List.replicate 32 (Value.int .u8 0))
  rw [World.size_alloc] at hk2
  have hk1' := hk1.below hb2 hk1.lt
  have ⟨k0, k1⟩ := blk_pair hk1'
  have H0 := Lib.hid (And.intro hk1' (And.intro hk2 (And.intro (below_of hb1 hb2) (And.intro hK (And.intro hw (And.intro hok hlen))))))
  clear hb1 hk1 hb2 hk2 hK hw hok hlen hk1' hj hy0 hy1 hy2
  go_enter Tryz.func90, Tryz.ntmps90
  go_wp2_with fail
  go_region_held3 (fun w' => w'.cell? ⟨w.heap.size, 0, none⟩ = some (.int .i64 num) ∧ w'.cell? ⟨w.heap.size, 1, none⟩ = some (.slice P m c)) (first | exact ⟨k0, k1⟩ | exact ⟨d0, d1⟩ | exact ⟨e0, e1⟩ | exact ⟨cell_below e0 (new_below _ _), cell_below e1 (new_below _ _)⟩)
    (first
      | (go_at_call 97; (with_reducible refine (inBytes8 _ num hnum).mono ?_); rintro e w1 ⟨rfl, hB, hW⟩; have d0 := cell_drew k0 hW; have d1 := cell_drew k1 hW; have H1 := Lib.hid (And.intro (show Blk w1 (w.heap.size + 1 + 1) 5 (Vb (big 8 num)) from by have h := hB; simp only [World.size_drew, World.size_alloc] at h; exact h) (And.intro (below_drew H0.out.2.2.1 hW) (blk_drew H0.out.2.1 hW))); clear hB hW)
      | (go_at_call 97; (with_reducible refine (inBytes4 _ m (by omega)).mono ?_); rintro e w2 ⟨rfl, hB, hW⟩; have e0 := cell_below d0 hW; have e1 := cell_below d1 hW; have H2 := Lib.hid (And.intro hB (And.intro (H1.out.1.below hW H1.out.1.lt) (And.intro (below_of H1.out.2.1 hW) (H1.out.2.2.below hW H1.out.2.2.lt)))); clear hB hW))
  have hq := Blk.new w2 40 [.slice (some ⟨w.heap.size + 1 + 1, 0, none⟩) 8 8, .slice (some ⟨w1.heap.size, 0, none⟩) 4 4]
  have hb := new_below w2 (.cells #[.slice (some ⟨w.heap.size + 1 + 1, 0, none⟩) 8 8, .slice (some ⟨w1.heap.size, 0, none⟩) 4 4] 40)
  have hbel := below_of H2.out.2.2.1 hb
  have hres : Blk (w2.alloc (.cells #[.slice (some ⟨w.heap.size + 1 + 1, 0, none⟩) 8 8, .slice (some ⟨w1.heap.size, 0, none⟩) 4 4] 40)) (w.heap.size + 1) 168 (List.replicate 32 (.int .u8 0)) := H2.out.2.2.2.below hb H2.out.2.2.2.lt
  have hop : OParts w.heap.size (w2.alloc (.cells #[.slice (some ⟨w.heap.size + 1 + 1, 0, none⟩) 8 8, .slice (some ⟨w1.heap.size, 0, none⟩) 4 4] 40)) (.slice (some ⟨w2.heap.size, 0, none⟩) 2 2) 2 [big 8 num, big 4 m] := by
    have hs1 : w1.heap.size ≤ w2.heap.size := by have := H2.out.1.lt; omega
    refine OParts.two (by have := H2.out.2.2.1.size; omega) hq ((Bts.whole H2.out.2.1 (.inl rfl) trivial (big_length _ _) (by omega)).below hb) ((Bts.whole H2.out.1 (.inl rfl) trivial (big_length _ _) (by omega)).below hb)
  have H3 := Lib.hid (And.intro hbel (And.intro hres hop))
  have l0 := cell_below e0 hb
  have l1 := cell_below e1 hb
  clear hq hb hbel hres hop k0 k1 d0 d1 e0 e1
  generalize w2.alloc (.cells #[.slice (some ⟨w.heap.size + 1 + 1, 0, none⟩) 8 8, .slice (some ⟨w1.heap.size, 0, none⟩) 4 4] 40) = w3 at *
  go_wp2_with fail
  go_loopw [17, 3] (fun iv tv wx => ∃ i : Nat, i ≤ m ∧ iv = .int .i64 i ∧ OParts w.heap.size wx tv (2 + 2 * i) (big 8 num :: big 4 m :: (ws.take i).flatMap fun p => [big 4 p.1.toNat, p.2]) ∧ Blk wx (w.heap.size + 1) 168 (List.replicate 32 (.int .u8 0)) ∧ Below w.heap.size w wx) (fun iv _ _ => m - (intOf iv).toNat)
  case atStart => exact ⟨0, Nat.zero_le _, rfl, H3.out.2.2, H3.out.2.1, H3.out.1⟩
  case round =>
    clear l0 l1
    obtain ⟨i, hi, rfl, h1, h2, h3⟩ := hrel
    by_cases hlt : i < m
    · obtain ⟨p, hp⟩ : ∃ p, ws[i]? = some p := ⟨_, List.getElem?_eq_getElem (by have := H0.out.2.2.2.2.2.2; omega)⟩
      obtain ⟨g, Q, m2, k2, rfl, hg, hAg, c0, c1, hl2, hbt, hmk, hk⟩ := (H0.out.2.2.2.2.1.below h3).at_ hp
      obtain ⟨q0, q1, q2⟩ := H0.out.2.2.2.2.2.1 p (List.mem_of_getElem? hp)
      obtain ⟨q, hq⟩ : ∃ q : Nat, p.1 = q := ⟨p.1.toNat, by omega⟩
      rw [hq] at c0
      have hqb : q ≤ 4294967296 := by omega
      obtain ⟨cells, ho, hcl, hxl, hcs⟩ := h1
      have hsz := h3.size
      have hb := new_below wr (.cells #[.int .i64 (q : Int), .slice Q m2 k2] 146)
      have ⟨k0, k1⟩ := blk_pair (Blk.new wr 146 [.int .i64 (q : Int), .slice Q m2 k2])
      have HR := Lib.hid (And.intro h2 (And.intro h3 (And.intro hp (And.intro hbt (And.intro ho (And.intro hcl (And.intro hxl hcs)))))))
      have HB := Lib.hid hb
      have HQ := Lib.hid hq
      clear h2 h3 hp hbt ho hcl hxl hcs hb q0 q1 q2 hq hl2
      go_wp2_with fail
      go_region_held3 (fun w' => w'.cell? ⟨wr.heap.size, 0, none⟩ = some (.int .i64 q) ∧ w'.cell? ⟨wr.heap.size, 1, none⟩ = some (.slice Q m2 k2)) (first | exact ⟨f0, f1⟩ | exact ⟨cell_below e0 (new_below _ _), cell_below e1 (new_below _ _)⟩ | exact ⟨e0, e1⟩ | exact ⟨k0, k1⟩)
        (first
          | (go_at_call 97; (with_reducible refine (inBytes4 _ q (by omega)).mono ?_); rintro e w5 ⟨rfl, hB, hW⟩; have e0 := cell_drew k0 hW; have e1 := cell_drew k1 hW; have H5 := Lib.hid (And.intro (show Blk w5 (wr.heap.size + 1) 5 (Vb (big 4 q)) from by have h := hB; simp only [World.size_drew, World.size_alloc] at h; exact h) (And.intro (below_drew HB.out hW) (blk_drew (Blk.new wr 146 [.int .i64 (q : Int), .slice Q m2 k2]) hW))); clear hB hW)
          | (refine step_append_lies _ rfl (.tmp 21) (.tmp 27) 171 rfl w.heap.size 40 i1 (.slice none 0 0) 1 24 Tryz.underlying171 HJ.out.1 HJ.out.2.1 HJ.out.2.2.1 HJ.out.2.2.2 rfl (by decide) u3 (2 + 2 * i) cells rfl ((own_below HR.out.2.2.2.2.1 H5.out.2.1).alloc _) ⟨w5.heap.size, 0, none⟩ 2 2 [.slice (some ⟨wr.heap.size + 1, 0, none⟩) 4 4, .slice Q m2 k2] rfl rfl (new_row w5 [_, _] 40) (slices_one _ _ _ _ _ _) (by decide) (by unfold maxLen; omega) (by omega) (by have := H5.out.2.1.size; simp; omega) (w5.heap.size + 1) (by simp) ?_; intro g3 cap3 w6 ho6 hg6 hw6 hl6; have hown5 := (own_below HR.out.2.2.2.2.1 H5.out.2.1).alloc (.cells #[.slice (some ⟨wr.heap.size + 1, 0, none⟩) 4 4, .slice Q m2 k2] 40); have hbk6 := (H5.out.2.2.alloc (.cells #[.slice (some ⟨wr.heap.size + 1, 0, none⟩) 4 4, .slice Q m2 k2] 40)).grown hg6 (fun e => own_blk_ne hown5 (H5.out.2.2.alloc _) (by decide) e.symm); have ⟨f0, f1⟩ := blk_pair hbk6; have H6 := Lib.hid (And.intro ho6 (And.intro hg6 hown5)); clear ho6 hg6 hw6 hl6 hown5 hbk6))
      go_wp2_with fail
      have hb5 := new_below w5 (.cells #[.slice (some ⟨wr.heap.size + 1, 0, none⟩) 4 4, .slice Q m2 k2] 40)
      have hbel5 := below_of H5.out.2.1 hb5
      have hbel6 : Below w.heap.size w w6 := (HR.out.2.1.trans (hbel5.mono hsz)).grown H6.out.2.1 (by have := hbel5.size; omega) (fun q hq => own_ge H6.out.2.2 q hq)
      have hres6 : Blk w6 (w.heap.size + 1) 168 (List.replicate 32 (.int .u8 0)) := (HR.out.1.below hbel5 HR.out.1.lt).grown H6.out.2.1 (fun e => own_blk_ne H6.out.2.2 (HR.out.1.below hbel5 HR.out.1.lt) (by decide) e.symm)
      have hop6 : OParts w.heap.size w6 (.slice (some ⟨g3, 0, none⟩) (2 + 2 * i + 2) cap3) (2 + 2 * i + 2) ((big 8 num :: big 4 m :: (ws.take i).flatMap fun p => [big 4 p.1.toNat, p.2]) ++ [big 4 q, p.2]) := by
        refine OParts.snoc2 HR.out.2.2.2.2.2.2.1 HR.out.2.2.2.2.2.1 (fun j x hx => ?_) H6.out.1 ?_ ?_
        · obtain ⟨u, hu, hbu⟩ := HR.out.2.2.2.2.2.2.2 j x hx
          exact ⟨u, hu, (hbu.below hbel5).grown H6.out.2.2 H6.out.2.1 (by decide) (by decide)⟩
        · exact ((Bts.whole H5.out.1 (.inl rfl) trivial (big_length _ _) (by omega)).below hb5).grown H6.out.2.2 H6.out.2.1 (by decide) (by decide)
        · exact ((HR.out.2.2.2.1.mono (fun _ _ _ => trivial)).below hbel5).grown H6.out.2.2 H6.out.2.1 (by decide) (by decide)
      have HE := Lib.hid (And.intro hop6 (And.intro hres6 hbel6))
      clear hb5 hbel5 hbel6 hres6 hop6
      go_wp2_with fail
      go_roundw
      case rel =>
        refine ⟨i + 1, by omega, by go_num, ?_, HE.out.2.1, HE.out.2.2⟩
        rw [take_snoc_ HR.out.2.2.1, txtsOf_snoc, show p.1.toNat = q by have := HQ.out; omega, show 2 + 2 * (i + 1) = 2 + 2 * i + 2 by omega]
        exact HE.out.1
      case measure => simp [intOf]; omega
    · obtain rfl : i = m := by omega
      rw [List.take_of_length_le (by have := H0.out.2.2.2.2.2.2; omega)] at h1
      have hpt := (h1.parts (by omega))
      obtain ⟨g1, cap1, vs1, e1, _, _, _, _, _, _⟩ := id hpt
      have hl1 : (txtsOf num ws).length = 2 + 2 * i := by obtain ⟨_, _, _, h, _⟩ := h1; unfold txtsOf; rw [H0.out.2.2.2.2.2.2]; exact h
      have hpt' : Parts (fun _ => True) wr u3 (txtsOf num ws) := by unfold txtsOf; rw [H0.out.2.2.2.2.2.2]; exact hpt
      have e1' : u3 = .slice (some ⟨g1, 0, none⟩) (2 + 2 * i) cap1 := by obtain ⟨_, _, _, h, _⟩ := h1; rw [← h]; exact e1
      rw [e1'] at hpt' ⊢
      have htx := hpt'.txts.1.txts
      have HX := Lib.hid (And.intro htx (And.intro h2 h3))
      have HT := Lib.hid (show digOf ks num ws = sha ks (framesOf (txtsOf num ws)) from rfl)
      have hall : ∀ x ∈ txtsOf num ws, x.length ≤ 300 := txts_small _ _ (fun p hp => by have := H0.out.2.2.2.2.2.1 p hp; omega)
      have HALL := Lib.hid hall
      clear h1 h2 h3 hpt e1 hpt' htx hl1 e1' hall
      go_wp2_with fail
      refine (framed_any ks wr _ (2 + 2 * i) cap1 (txtsOf num ws) (H0.out.2.2.2.1.below HX.out.2.2 hpos) HX.out.1 (by omega) HALL.out).mono ?_
      rintro e w7 ⟨rfl, h7⟩
      have H7 := Lib.hid (And.intro (HX.out.2.1.below h7 HX.out.2.1.lt) (HX.out.2.2.trans (h7.mono HX.out.2.2.size)))
      clear h7
      have hd := sha_length ks (framesOf (txtsOf num ws))
      generalize sha ks (framesOf (txtsOf num ws)) = d at hd HT ⊢
      have HD := Lib.hid hd
      clear hd HALL HX
      go_wp2_with (refine wpList_store_blk rfl 168 (.tmp 2) (.tmp 31) rfl (w.heap.size + 1) 0 (Vb d) rfl rfl H7.out.1 (by simp [Vb_length, HD.out]) (info31.trans (by simp [Vb_length, HD.out])) (Vb_oneCell _) ?_; intro w8 hA hO)
      rw [over_whole (by simp [Vb_length, HD.out])] at hA
      refine bodyPost_ret (v := .agg (Vb d).toArray) ?_ rfl ⟨by rw [HT.out], ?_⟩
      · exact ret_cell rfl rfl (run_loadVar_mid _ _ 0 168 _ _ hA.range Tryz.underlying168 rfl (info31.trans (by simp [Vb_length, HD.out])))
      · exact H7.out.2.trans (hO.below (B := w.heap.size) H7.out.2.size (by simp))
end Go.Proofs.YtkmkblhmjeeaeaaGreatDoor
end

/-
  note: the sector that the journal has ahead of a write's bytes. Conditions: numbers aren't below 0; the place is one of the writes'.
-/

section
set_option maxRecDepth 100000
set_option linter.unusedSimpArgs false
set_option linter.unusedVariables false
namespace Go.Proofs.YtkmkblhmjeeaeaaGreatDoor
open Go.RowKit

theorem slices5_one {A B C D E : Option Addr} {a b c d e a' b' c' d' e' : Nat} : ∀ u ∈ [Value.slice A a a', .slice B b b', .slice C c c', .slice D d d', .slice E e e'], u.oneCell' = true := by
  intro u hu
  simp only [List.mem_cons, List.not_mem_nil, or_false] at hu
  rcases hu with rfl | rfl | rfl | rfl | rfl <;> rfl

theorem parts5 {A : Nat → Prop} {w : World} {u0 u1 u2 u3 u4 : Value} {x0 x1 x2 x3 x4 : List B8} (h0 : Bts A w u0 x0) (h1 : Bts A w u1 x1) (h2 : Bts A w u2 x2) (h3 : Bts A w u3 x3) (h4 : Bts A w u4 x4) :
    ∀ (i : Nat) v x, [u0, u1, u2, u3, u4][i]? = some v → [x0, x1, x2, x3, x4][i]? = some x → Bts A w v x := by
  intro i v x hv hx
  match i, hv, hx with
  | 0, hv, hx => simp at hv hx; subst hv hx; exact h0
  | 1, hv, hx => simp at hv hx; subst hv hx; exact h1
  | 2, hv, hx => simp at hv hx; subst hv hx; exact h2
  | 3, hv, hx => simp at hv hx; subst hv hx; exact h3
  | 4, hv, hx => simp at hv hx; subst hv hx; exact h4
  | k + 5, hv, _ => simp at hv

set_option maxHeartbeats 2000000 in
theorem note_any (w : World) (A : Nat → Prop) (num m : Nat) (P : Option Addr) (c : Nat) (ws : List (Int × List B8)) (i : Nat) (p : Int × List B8) (q : Nat) (d : List B8) (hw : Wrs A w (.slice P m c) ws) (hp : ws[i]? = some p) (hq : p.1 = q) (hqb : q ≤ 4294967296) (hnum : num ≤ 9223372036854775807) (hm : m ≤ 1024) (hd : d.length = 32) :
    Calls Tryz.prog 92 #[.agg #[.int .i64 num, .slice P m c], .int .i64 i, .agg (Vb d).toArray] w fun e w' => ∃ g, e = .returned (.slice (some ⟨g, 0, none⟩) 64 64) ∧ w.heap.size ≤ g ∧ Blk w' g 5 (Vb (noteB num i m q d)) ∧ Below w.heap.size w w' := by
  have hz := zero32
  have hs32 := slice32
  have hlen := hw.len
  have him : i < m := by have := (List.getElem?_eq_some_iff.1 hp).1; omega
  obtain ⟨g0, Q, m2, k2, rfl, hg, hAg, c0, c1, hl2, hbt, hmk, hk⟩ := hw.at_ hp
  rw [hq] at c0
  have hb1 := new_below w (.cells #[.int .i64 num, .slice (some ⟨g0, 0, none⟩) m c] 141)
  have hk1 := Blk.new w 141 [.int .i64 num, .slice (some ⟨g0, 0, none⟩) m c]
  have hb2 := new_below (w.alloc (.cells #[.int .i64 num, .slice (some ⟨g0, 0, none⟩) m c] 141)) (.cells (Vb d).toArray 168)
  have hk2 := Blk.new (w.alloc (.cells #[.int .i64 num, .slice (some ⟨g0, 0, none⟩) m c] 141)) 168 (Vb d)
  rw [World.size_alloc] at hk2
  have hk1' := hk1.below hb2 hk1.lt
  have ⟨k0, k1⟩ := blk_pair hk1'
  have k2' := cell_below c0 (below_of hb1 hb2)
  have H0 := Lib.hid (And.intro (below_of hb1 hb2) (And.intro hk2 hd))
  clear hb1 hk1 hb2 hk2 hk1' hw hp hq hbt hl2 hlen c0 c1 hd
  go_enter Tryz.func92, Tryz.ntmps92
  go_wp2_with fail
  have hi0 : (0 : Int) ≤ (i : Int) := by omega
  have hi1 : (i : Int) < (m : Int) := by omega
  go_region_held3 (fun w' => w'.cell? ⟨w.heap.size, 0, none⟩ = some (.int .i64 num) ∧ w'.cell? ⟨w.heap.size, 1, none⟩ = some (.slice (some ⟨g0, 0, none⟩) m c) ∧ w'.cell? ⟨g0, i * 2, none⟩ = some (.int .i64 q))
    (first | exact ⟨k0, k1, k2'⟩ | exact ⟨a0, a1, a2⟩ | exact ⟨b0, b1, b2⟩ | exact ⟨c0, c1, c2⟩ | exact ⟨d0, d1, d2⟩ | exact ⟨cell_below d0 (new_below _ _), cell_below d1 (new_below _ _), cell_below d2 (new_below _ _)⟩ | exact ⟨f0, f1, f2⟩)
    (first
      | (go_at_call 97; (with_reducible refine (inBytes8 _ num hnum).mono ?_); rintro e w1 ⟨rfl, hB, hW⟩; have a0 := cell_drew k0 hW; have a1 := cell_drew k1 hW; have a2 := cell_drew k2' hW; have H1 := Lib.hid (And.intro (below_drew H0.out.1 hW) (And.intro (blk_drew H0.out.2.1 hW) (show Blk w1 (w.heap.size + 1 + 1) 5 (Vb (big 8 num)) from by have h := hB; simp only [World.size_drew, World.size_alloc] at h; exact h))); clear hB hW)
      | (go_at_call 97; (with_reducible refine (inBytes4 _ i (by omega)).mono ?_); rintro e w2 ⟨rfl, hB, hW⟩; have b0 := cell_below a0 hW; have b1 := cell_below a1 hW; have b2 := cell_below a2 hW; have H2 := Lib.hid (And.intro (below_of H1.out.1 hW) (And.intro (H1.out.2.1.below hW H1.out.2.1.lt) (And.intro (H1.out.2.2.below hW H1.out.2.2.lt) hB))); clear hB hW)
      | (go_at_call 97; (with_reducible refine (inBytes4 _ m (by omega)).mono ?_); rintro e w3 ⟨rfl, hB, hW⟩; have c0 := cell_below b0 hW; have c1 := cell_below b1 hW; have c2 := cell_below b2 hW; have H3 := Lib.hid (And.intro (below_of H2.out.1 hW) (And.intro (H2.out.2.1.below hW H2.out.2.1.lt) (And.intro (H2.out.2.2.1.below hW H2.out.2.2.1.lt) (And.intro (H2.out.2.2.2.below hW H2.out.2.2.2.lt) hB)))); clear hB hW)
      | (go_at_call 97; (with_reducible refine (inBytes4 _ q (by omega)).mono ?_); rintro e w4 ⟨rfl, hB, hW⟩; have d0 := cell_below c0 hW; have d1 := cell_below c1 hW; have d2 := cell_below c2 hW; have H4 := Lib.hid (And.intro (below_of H3.out.1 hW) (And.intro (H3.out.2.1.below hW H3.out.2.1.lt) (And.intro (H3.out.2.2.1.below hW H3.out.2.2.1.lt) (And.intro (H3.out.2.2.2.1.below hW H3.out.2.2.2.1.lt) (And.intro (H3.out.2.2.2.2.below hW H3.out.2.2.2.2.lt) hB))))); clear hB hW)
      | (go_at_call 59; refine (sector_join _ (fun _ => True) w4.heap.size 5 5 _ [big 8 num, big 4 i, big 4 m, big 4 q, d] (by omega) (by omega) rfl rfl (Blk.new w4 40 [.slice (some ⟨w.heap.size + 1 + 1, 0, none⟩) 8 8, .slice (some ⟨w1.heap.size, 0, none⟩) 4 4, .slice (some ⟨w2.heap.size, 0, none⟩) 4 4, .slice (some ⟨w3.heap.size, 0, none⟩) 4 4, .slice (some ⟨w.heap.size + 1, 0, none⟩) 32 32]) (parts5 (Bts.below (Bts.whole H4.out.2.2.1 (.inl rfl) trivial (big_length _ _) (by omega)) (new_below _ _)) (Bts.below (Bts.whole H4.out.2.2.2.1 (.inl rfl) trivial (big_length _ _) (by omega)) (new_below _ _)) (Bts.below (Bts.whole H4.out.2.2.2.2.1 (.inl rfl) trivial (big_length _ _) (by omega)) (new_below _ _)) (Bts.below (Bts.whole H4.out.2.2.2.2.2 (.inl rfl) trivial (big_length _ _) (by omega)) (new_below _ _)) (Bts.below (Bts.whole H4.out.2.1 (.inr rfl) trivial H0.out.2.2 (by omega)) (new_below _ _))) (Nat.le_refl _) (by simp [big_length, H0.out.2.2])).mono ?_; rintro e w5 ⟨rfl, hB, hW⟩; have f0 := cell_below (cell_below d0 (new_below _ _)) hW; have f1 := cell_below (cell_below d1 (new_below _ _)) hW; have f2 := cell_below (cell_below d2 (new_below _ _)) hW; have H5 := Lib.hid (And.intro hB (below_of (below_of H4.out.1 (new_below _ _)) hW)); have hs5 := H4.out.1.size; clear hB hW))
  go_wp2_with fail
  go_ret
  refine ⟨_, rfl, ?_, ?_, H5.out.2⟩
  · omega
  · have := H5.out.1
    unfold noteB
    simpa using this
end Go.Proofs.YtkmkblhmjeeaeaaGreatDoor
end

/-
  inJournal, inData: what a transaction writes to the journal and to the data. Conditions: the constants lie in their variable; the writes are known, sectors that are there, bytes of a sector.
-/

section
set_option maxRecDepth 100000
set_option linter.unusedSimpArgs false
set_option linter.unusedVariables false
namespace Go.Proofs.YtkmkblhmjeeaeaaGreatDoor
open Go.RowKit

/-- A list of writes in memory of the call's own. -/
def OWrs (N : Nat) (A : Nat → Prop) (w : World) (v : Value) (n : Nat) (X : List (Int × List B8)) : Prop := ∃ cells : List Value, w.ownsRow N 146 2 v n cells ∧ X.length = n ∧
  ∀ (j : Nat) p, X[j]? = some p → cells[j * 2]? = some (.int .i64 p.1) ∧ ∃ u, cells[j * 2 + 1]? = some u ∧ Bts A w u p.2
theorem OWrs.empty (N : Nat) (A : Nat → Prop) (w : World) : OWrs N A w (.slice none 0 0) 0 [] := ⟨[], World.ownsRow_nil _ _ _ _, rfl, fun j p h => by simp at h⟩
theorem OWrs.below {N n : Nat} {A : Nat → Prop} {w w' : World} {v : Value} {X : List (Int × List B8)} (h : OWrs N A w v n X) (hb : Below w.heap.size w w') : OWrs N A w' v n X := by
  obtain ⟨cells, h1, h3, h4⟩ := h
  refine ⟨cells, own_below h1 hb, h3, fun j p hp => ?_⟩
  obtain ⟨c0, u, c1, hu⟩ := h4 j p hp
  exact ⟨c0, u, c1, hu.below hb⟩
theorem OWrs.add {N n k : Nat} {A : Nat → Prop} {w w' : World} {v v' : Value} {X Y : List (Int × List B8)} {cells news : List Value} (ho : w.ownsRow N 146 2 v n cells) (hx : X.length = n) (hg : w.grownBy w' v.ownBlock)
    (h4 : ∀ (j : Nat) p, X[j]? = some p → cells[j * 2]? = some (.int .i64 p.1) ∧ ∃ u, cells[j * 2 + 1]? = some u ∧ Bts A w u p.2) (hy : Y.length = k) (ho' : w'.ownsRow N 146 2 v' (n + k) (cells ++ news))
    (h5 : ∀ (j : Nat) p, Y[j]? = some p → news[j * 2]? = some (.int .i64 p.1) ∧ ∃ u, news[j * 2 + 1]? = some u ∧ Bts A w u p.2) : OWrs N A w' v' (n + k) (X ++ Y) := by
  have hcl : cells.length = n * 2 := ho.1
  refine ⟨_, ho', by simp [hx, hy], fun j p hp => ?_⟩
  by_cases hj : j < n
  · rw [List.getElem?_append_left (by omega)] at hp
    obtain ⟨c0, u, c1, hu⟩ := h4 j p hp
    exact ⟨by rw [List.getElem?_append_left (by omega)]; exact c0, u, by rw [List.getElem?_append_left (by omega)]; exact c1, hu.grown ho hg (by decide) (by decide)⟩
  · rw [List.getElem?_append_right (by omega), hx] at hp
    obtain ⟨c0, u, c1, hu⟩ := h5 (j - n) p hp
    refine ⟨?_, u, ?_, hu.grown ho hg (by decide) (by decide)⟩
    · rw [List.getElem?_append_right (by omega), hcl, show j * 2 - n * 2 = (j - n) * 2 by omega]; exact c0
    · rw [List.getElem?_append_right (by omega), hcl, show j * 2 + 1 - n * 2 = (j - n) * 2 + 1 by omega]; exact c1
theorem OWrs.wrs {N n : Nat} {A : Nat → Prop} {w : World} {v : Value} {X : List (Int × List B8)} (h : OWrs N A w v n X) (hA : ∀ g, N ≤ g → A g) : Wrs A w v X := by
  obtain ⟨cells, h1, h3, h4⟩ := h
  rcases h1.2 with ⟨rfl, h0⟩ | ⟨g, cap, cur, rfl, hg, hb, hc1, hc2, hcs, ht⟩
  · exact .inl ⟨rfl, List.eq_nil_of_length_eq_zero (by omega)⟩
  · have hget : ∀ (k : Nat) u, cells[k]? = some u → cur.toList[k]? = some u := by
      intro k u hu
      rw [← ht, List.getElem?_take] at hu
      split at hu
      · exact hu
      · cases hu
    refine .inr ⟨g, cap, cur.toList, by rw [h3], hA g hg, by simpa [Blk] using hb, by omega, hc2, fun j p hp => ?_⟩
    obtain ⟨c0, u, c1, hu⟩ := h4 j p hp
    exact ⟨hget _ _ c0, u, hget _ _ c1, hu⟩

/-- What a transaction writes to the data. -/
def dataOf (j : Nat) (ws : List (Int × List B8)) : List (Int × List B8) := ws.map fun p => (((1 + j + p.1.toNat : Nat) : Int), p.2)
theorem dataOf_take {j k : Nat} {ws : List (Int × List B8)} {p : Int × List B8} (h : ws[k]? = some p) : dataOf j (ws.take (k + 1)) = dataOf j (ws.take k) ++ [(((1 + j + p.1.toNat : Nat) : Int), p.2)] := by
  unfold dataOf
  rw [take_snoc_ h, List.map_append]
  rfl
/-- What a transaction writes to the journal. -/
def jrnOf (num m : Nat) (d : List B8) (ws : List (Int × List B8)) : List (Int × List B8) := (ws.mapIdx fun i p => [(((1 + 2 * i : Nat) : Int), noteB num i m p.1.toNat d), (((1 + 2 * i + 1 : Nat) : Int), p.2)]).flatten
theorem jrnOf_take {num m k : Nat} {d : List B8} {ws : List (Int × List B8)} {p : Int × List B8} (h : ws[k]? = some p) :
    jrnOf num m d (ws.take (k + 1)) = jrnOf num m d (ws.take k) ++ [(((1 + 2 * k : Nat) : Int), noteB num k m p.1.toNat d), (((1 + 2 * k + 1 : Nat) : Int), p.2)] := by
  have hk := (List.getElem?_eq_some_iff.1 h).1
  unfold jrnOf
  rw [take_snoc_ h, List.mapIdx_concat, List.flatten_append, List.length_take, Nat.min_eq_left (by omega)]
  simp
theorem writeInfo : (Tryz.prog.info? 146).map (fun i => (i.zero, i.size, i.bytes)) = some (some (.agg #[.int .i64 0, .slice none 0 0]), 2, 32) := by kernel_rfl
theorem pair_one (n : Int) (Q : Option Addr) (m k : Nat) : ∀ u ∈ [Value.int .i64 n, .slice Q m k], u.oneCell' = true := by
  intro u hu
  simp only [List.mem_cons, List.not_mem_nil, or_false] at hu
  rcases hu with rfl | rfl <;> rfl

set_option maxHeartbeats 2000000 in
theorem inData_any (w : World) (A : Nat → Prop) (D j num m : Nat) (P : Option Addr) (c : Nat) (ws : List (Int × List B8)) (hw : Wrs A w (.slice P m c) ws) (hj : j ≤ 4096) (hm : m ≤ 1024) (hok : ∀ p ∈ ws, 0 ≤ p.1 ∧ p.1 ≤ 4096) :
    Calls Tryz.prog 93 #[lay_ D j, .agg #[.int .i64 num, .slice P m c]] w fun e w' => ∃ v, e = .returned v ∧ OWrs w.heap.size A w' v m (dataOf j ws) ∧ Below w.heap.size w w' := by
  have hlen := hw.len
  obtain ⟨i0, hi, hz0, hz1, hz2⟩ := info_parts writeInfo
  have HI := Lib.hid (And.intro hi (And.intro hz0 (And.intro hz1 hz2)))
  have hb1 := new_below w (.cells #[.pointer (some ⟨D, 0, none⟩), .int .i64 (j : Int)] 119)
  have hk1 := Blk.new w 119 [.pointer (some ⟨D, 0, none⟩), .int .i64 (j : Int)]
  have hb2 := new_below (w.alloc (.cells #[.pointer (some ⟨D, 0, none⟩), .int .i64 (j : Int)] 119)) (.cells #[.int .i64 num, .slice P m c] 141)
  have hk1' := hk1.below hb2 hk1.lt
  have H0 := Lib.hid (And.intro (below_of hb1 hb2) (And.intro hk1' (And.intro hw (And.intro hok hlen))))
  clear hb1 hk1 hb2 hk1' hw hok hlen hi hz0 hz1 hz2
  go_enter Tryz.func93, Tryz.ntmps93
  go_wp2_with fail
  go_loopw [11, 5] (fun iv tv wx => ∃ i : Nat, i ≤ m ∧ iv = .int .i64 i ∧ OWrs w.heap.size A wx tv i (dataOf j (ws.take i)) ∧ Blk wx w.heap.size 119 [.pointer (some ⟨D, 0, none⟩), .int .i64 (j : Int)] ∧ Below w.heap.size w wx) (fun iv _ _ => m - (intOf iv).toNat)
  case atStart => exact ⟨0, Nat.zero_le _, rfl, OWrs.empty _ _ _, H0.out.2.1, H0.out.1⟩
  case round =>
    obtain ⟨i, hi, rfl, h1, h2, h3⟩ := hrel
    by_cases hlt : i < m
    · obtain ⟨p, hp⟩ : ∃ p, ws[i]? = some p := ⟨_, List.getElem?_eq_getElem (by have := H0.out.2.2.2.2; omega)⟩
      obtain ⟨g, Q, m2, k2, rfl, hg, hAg, c0, c1, hl2, hbt, hmk, hk⟩ := (H0.out.2.2.1.below h3).at_ hp
      obtain ⟨q0, q1⟩ := H0.out.2.2.2.1 p (List.mem_of_getElem? hp)
      obtain ⟨q, hq⟩ : ∃ q : Nat, p.1 = q := ⟨p.1.toNat, by omega⟩
      rw [hq] at c0
      have hqb : q ≤ 4096 := by omega
      obtain ⟨cells, ho, hxl, hcs⟩ := h1
      have hsz := h3.size
      have hlw := h2.lt
      have hb := new_below wr (.cells #[.int .i64 (q : Int), .slice Q m2 k2] 146)
      have ⟨k0, k1⟩ := blk_pair (Blk.new wr 146 [.int .i64 (q : Int), .slice Q m2 k2])
      have ⟨k3, k4⟩ := blk_pair (h2.below hb h2.lt)
      have HR := Lib.hid (And.intro h2 (And.intro h3 (And.intro hp (And.intro hbt (And.intro ho (And.intro hxl hcs))))))
      have HB := Lib.hid hb
      have HQ := Lib.hid hq
      obtain ⟨a, ha⟩ : ∃ a : Nat, 1 + j + q = a := ⟨_, rfl⟩
      have hda := fun (w : World) => dataAt_any (D := D) (j := j) (w := w) q hj hqb
      rw [ha] at hda
      have HDA := Lib.hid hda
      have HA := Lib.hid ha
      have hab : a ≤ 10000 := by omega
      clear ha hda h2 h3 hp hbt ho hxl hcs hb q0 q1 hq hl2
      go_wp2_with fail
      go_region_held3 (fun w' => w'.cell? ⟨wr.heap.size, 0, none⟩ = some (.int .i64 q) ∧ w'.cell? ⟨wr.heap.size, 1, none⟩ = some (.slice Q m2 k2) ∧ w'.cell? ⟨w.heap.size, 0, none⟩ = some (.pointer (some ⟨D, 0, none⟩)) ∧ w'.cell? ⟨w.heap.size, 1, none⟩ = some (.int .i64 j))
        (first | exact ⟨f0, f1, f3, f4⟩ | exact ⟨cell_below e0 (new_below _ _), cell_below e1 (new_below _ _), cell_below e3 (new_below _ _), cell_below e4 (new_below _ _)⟩ | exact ⟨e0, e1, e3, e4⟩ | exact ⟨k0, k1, k3, k4⟩)
        (first
          | (go_at_call 67; refine (HDA.out _).mono ?_; rintro e w5 ⟨rfl, hW⟩; have e0 := cell_drew k0 hW; have e1 := cell_drew k1 hW; have e3 := cell_drew k3 hW; have e4 := cell_drew k4 hW; have H5 := Lib.hid (And.intro (below_drew HB.out hW) (blk_drew (Blk.new wr 146 [.int .i64 (q : Int), .slice Q m2 k2]) hW)); clear hW)
          | (refine step_append_lies _ rfl (.tmp 15) (.tmp 23) 85 rfl w.heap.size 146 i0 (.agg #[.int .i64 0, .slice none 0 0]) 2 32 Tryz.underlying85 HI.out.1 HI.out.2.1 HI.out.2.2.1 HI.out.2.2.2 rfl (by decide) u5 i cells rfl ((own_below HR.out.2.2.2.2.1 H5.out.1).alloc _) ⟨w5.heap.size, 0, none⟩ 1 1 [.int .i64 (a : Int), .slice Q m2 k2] rfl rfl (new_row w5 [_, _] 146) (pair_one _ _ _ _) (by decide) (by unfold maxLen; omega) (by omega) (by have := H5.out.1.size; simp; omega) (w5.heap.size + 1) (by simp) ?_; intro g3 cap3 w6 ho6 hg6 hw6 hl6; have hown5 := (own_below HR.out.2.2.2.2.1 H5.out.1).alloc (.cells #[.int .i64 (a : Int), .slice Q m2 k2] 146); have hbk6 := (H5.out.2.alloc (.cells #[.int .i64 (a : Int), .slice Q m2 k2] 146)).grown hg6 (fun e => by have := (HR.out.2.2.2.2.1.lt _ e.symm).2; omega); have hly5 := (HR.out.1.below H5.out.1 HR.out.1.lt).alloc (.cells #[.int .i64 (a : Int), .slice Q m2 k2] 146); have hly6 := hly5.grown hg6 (fun e => own_blk_ne hown5 hly5 (by decide) e.symm); have ⟨f0, f1⟩ := blk_pair hbk6; have ⟨f3, f4⟩ := blk_pair hly6; have H6 := Lib.hid (And.intro ho6 (And.intro hg6 (And.intro hown5 hly6))); clear ho6 hg6 hw6 hl6 hown5 hbk6 hly5 hly6))
      go_wp2_with fail
      have hb5 := new_below w5 (.cells #[.int .i64 (a : Int), .slice Q m2 k2] 146)
      have hbel5 := below_of H5.out.1 hb5
      have hbel6 : Below w.heap.size w w6 := (HR.out.2.1.trans (hbel5.mono hsz)).grown H6.out.2.1 (by have := hbel5.size; omega) (fun q hq => own_ge H6.out.2.2.1 q hq)
      have how6 : OWrs w.heap.size A w6 (.slice (some ⟨g3, 0, none⟩) (i + 1) cap3) (i + 1) (dataOf j (ws.take i) ++ [((a : Int), p.2)]) := by
        refine OWrs.add H6.out.2.2.1 HR.out.2.2.2.2.2.1 H6.out.2.1 (fun jj pp hpp => ?_) rfl H6.out.1 (fun jj pp hpp => ?_)
        · obtain ⟨c0, u, c1, hu⟩ := HR.out.2.2.2.2.2.2 jj pp hpp
          exact ⟨c0, u, c1, hu.below hbel5⟩
        · match jj, hpp with
          | 0, hpp =>
            simp only [List.getElem?_cons_zero, Option.some.injEq] at hpp
            subst hpp
            exact ⟨rfl, _, rfl, HR.out.2.2.2.1.below hbel5⟩
      have HE := Lib.hid (And.intro how6 (And.intro H6.out.2.2.2 hbel6))
      clear hb5 hbel5 hbel6 how6
      go_roundw
      case rel =>
        refine ⟨i + 1, by omega, by go_num, ?_, HE.out.2.1, HE.out.2.2⟩
        rw [dataOf_take HR.out.2.2.1, show (1 + j + p.1.toNat : Nat) = a by have := HQ.out; have := HA.out; omega]
        exact HE.out.1
      case measure => simp [intOf]; omega
    · obtain rfl : i = m := by omega
      rw [List.take_of_length_le (by have := H0.out.2.2.2.2; omega)] at h1
      have HF := Lib.hid (And.intro h1 h3)
      clear h1 h2 h3
      go_wp2_with fail
      go_ret
      exact ⟨_, rfl, HF.out.1, HF.out.2⟩

theorem quad_one (n n' : Int) (Q Q' : Option Addr) (m k m' k' : Nat) : ∀ u ∈ [Value.int .i64 n, .slice Q m k, .int .i64 n', .slice Q' m' k'], u.oneCell' = true := by
  intro u hu
  simp only [List.mem_cons, List.not_mem_nil, or_false] at hu
  rcases hu with rfl | rfl | rfl | rfl <;> rfl

set_option maxHeartbeats 2000000 in
theorem inJournal_any (ks : List B32) (w : World) (A : Nat → Prop) (D j num m : Nat) (P : Option Addr) (c : Nat) (ws : List (Int × List B8)) (hK : Roots ks w) (hw : Wrs A w (.slice P m c) ws) (hj : j ≤ 4096) (hm : m ≤ 15) (hnum : num ≤ 9223372036854775807)
    (hok : ∀ p ∈ ws, 0 ≤ p.1 ∧ p.1 ≤ 4294967296 ∧ p.2.length = 64) :
    Calls Tryz.prog 56 #[lay_ D j, .agg #[.int .i64 num, .slice P m c]] w fun e w' => ∃ v, e = .returned v ∧ OWrs w.heap.size (fun g => A g ∨ w.heap.size ≤ g) w' v (2 * m) (jrnOf num m (digOf ks num ws) ws) ∧ Below w.heap.size w w' := by
  have hlen := hw.len
  have hpos := hK.pos
  have hz := zero32
  obtain ⟨i0, hi, hz0, hz1, hz2⟩ := info_parts writeInfo
  have HI := Lib.hid (And.intro hi (And.intro hz0 (And.intro hz1 hz2)))
  have hb1 := new_below w (.cells #[.pointer (some ⟨D, 0, none⟩), .int .i64 (j : Int)] 119)
  have hk1 := Blk.new w 119 [.pointer (some ⟨D, 0, none⟩), .int .i64 (j : Int)]
  have hb2 := new_below (w.alloc (.cells #[.pointer (some ⟨D, 0, none⟩), .int .i64 (j : Int)] 119)) (.cells #[.int .i64 num, .slice P m c] 141)
  have hk2 := Blk.new (w.alloc (.cells #[.pointer (some ⟨D, 0, none⟩), .int .i64 (j : Int)] 119)) 141 [.int .i64 num, .slice P m c]
  rw [World.size_alloc] at hk2
  have hk1' := hk1.below hb2 hk1.lt
  have H0 := Lib.hid (And.intro (below_of hb1 hb2) (And.intro hk1' (And.intro hk2 (And.intro hK (And.intro hw (And.intro hok hlen))))))
  clear hb1 hk1 hb2 hk2 hk1' hK hw hok hlen hi hz0 hz1 hz2
  go_enter Tryz.func56, Tryz.ntmps56
  go_wp2_with fail
  refine (digest_any ks _ A num m P c ws (H0.out.2.2.2.1.below H0.out.1 hpos) (H0.out.2.2.2.2.1.below H0.out.1) hnum hm H0.out.2.2.2.2.2.1).mono ?_
  rintro e w1 ⟨rfl, h1⟩
  have hd := digOf_length ks num ws
  have H1 := Lib.hid (And.intro (below_of H0.out.1 h1) (And.intro (H0.out.2.1.below h1 H0.out.2.1.lt) (H0.out.2.2.1.below h1 H0.out.2.2.1.lt)))
  clear h1
  have HDD := Lib.hid (rfl : digOf ks num ws = digOf ks num ws)
  generalize hde : digOf ks num ws = d at hd ⊢
  have HD := Lib.hid hd
  have HDE := Lib.hid hde
  clear hd hde HDD
  go_wp2_with (refine wpList_store_blk rfl 168 (.tmp 6) (.tmp 11) rfl w1.heap.size 0 (Vb d) rfl rfl (Blk.new w1 168 (List.replicate 32 (.int .u8 0))) (by simp [Vb_length, HD.out]) (info31.trans (by simp [Vb_length, HD.out])) (Vb_oneCell _) ?_; intro w2 hA hO; rw [over_whole (by simp [Vb_length, HD.out])] at hA; have hb2 := (new_below w1 (.cells (List.replicate 32 (Value.int .u8 0)).toArray 168)).trans (hO.below (B := w1.heap.size) (by simp) (by simp)); have ⟨t0, t1⟩ := blk_pair (H1.out.2.2.below hb2 H1.out.2.2.lt); have H2 := Lib.hid (And.intro (below_of H1.out.1 hb2) (And.intro (H1.out.2.1.below hb2 H1.out.2.1.lt) (And.intro (H1.out.2.2.below hb2 H1.out.2.2.lt) hA))); clear hA hO hb2)
  clear t0 t1
  have hb6 : w.heap.size + 1 < w1.heap.size := H1.out.2.2.lt
  clear H1
  generalize w1.heap.size = b6 at *
  go_loopw [15, 5] (fun iv tv wx => ∃ i : Nat, i ≤ m ∧ iv = .int .i64 i ∧ OWrs w.heap.size (fun g => A g ∨ w.heap.size ≤ g) wx tv (2 * i) (jrnOf num m d (ws.take i)) ∧ Blk wx w.heap.size 119 [.pointer (some ⟨D, 0, none⟩), .int .i64 (j : Int)] ∧ Blk wx (w.heap.size + 1) 141 [.int .i64 num, .slice P m c] ∧ Blk wx b6 168 (Vb d) ∧ Below w.heap.size w wx) (fun iv _ _ => m - (intOf iv).toNat)
  case atStart => exact ⟨0, Nat.zero_le _, rfl, OWrs.empty _ _ _, H2.out.2.1, H2.out.2.2.1, H2.out.2.2.2, H2.out.1⟩
  case round =>
    clear H2
    obtain ⟨i, hi, rfl, h1, h2, h3, h5, h4⟩ := hrel
    by_cases hlt : i < m
    · obtain ⟨p, hp⟩ : ∃ p, ws[i]? = some p := ⟨_, List.getElem?_eq_getElem (by have := H0.out.2.2.2.2.2.2; omega)⟩
      have hwr := H0.out.2.2.2.2.1.below h4
      obtain ⟨g, Q, m2, k2, rfl, hg, hAg, c0, c1, hl2, hbt, hmk, hk⟩ := hwr.at_ hp
      obtain ⟨q0, q1, q2⟩ := H0.out.2.2.2.2.2.1 p (List.mem_of_getElem? hp)
      obtain ⟨q, hq⟩ : ∃ q : Nat, p.1 = q := ⟨p.1.toNat, by omega⟩
      rw [hq] at c0
      have hqb : q ≤ 4294967296 := by omega
      obtain ⟨cells, ho, hxl, hcs⟩ := h1
      have hsz := h4.size
      have hl0 := h2.lt
      have hl1 := h3.lt
      have hl6 := h5.lt
      have ⟨y0, y1⟩ := blk_pair h2
      have HR := Lib.hid (And.intro h2 (And.intro h3 (And.intro h5 (And.intro h4 (And.intro hp (And.intro hbt (And.intro ho (And.intro hxl (And.intro hcs hwr)))))))))
      have HQ := Lib.hid hq
      obtain ⟨a, ha⟩ : ∃ a : Nat, 1 + 2 * i = a := ⟨_, rfl⟩
      have hda := fun (w : World) => noteAt_any (D := D) (j := j) (w := w) i (by omega)
      rw [ha] at hda
      have HDA := Lib.hid hda
      have HA := Lib.hid ha
      have hab : a ≤ 10000 := by omega
      clear ha hda h2 h3 h5 h4 hp hbt ho hxl hcs q0 q1 hq hl2 q2 hwr
      go_wp2_with fail
      refine (HDA.out _).mono ?_
      rintro e w5 ⟨rfl, hW⟩
      have hb := below_of (new_below wr (.cells #[.int .i64 (q : Int), .slice Q m2 k2] 146)) hW
      have hkw := (Blk.new wr 146 [.int .i64 (q : Int), .slice Q m2 k2]).below hW (by simp)
      have ⟨k0, k1⟩ := blk_pair hkw
      have ⟨k3, k4⟩ := blk_pair (HR.out.2.1.below hb HR.out.2.1.lt)
      have k5 := (HR.out.2.2.1.below hb HR.out.2.2.1.lt).range
      have H5 := Lib.hid (And.intro hb (And.intro hkw (And.intro (HR.out.1.below hb HR.out.1.lt) (And.intro (HR.out.2.1.below hb HR.out.2.1.lt) (HR.out.2.2.1.below hb HR.out.2.2.1.lt)))))
      clear hW hb hkw y0 y1
      have hu32 := Tryz.underlying168
      have hi32 : (Tryz.prog.info? 168).map (·.size) = some (Vb d).length := info31.trans (by simp [Vb_length, HD.out])
      go_wp2_with fail
      have hm4 : m ≤ 1024 := by omega
      have h2p : 0 < 2 := by decide
      have h63 : 2 * i + 2 ≤ maxLen := by unfold maxLen; omega
      have hby : (2 * i + 2) * 32 ≤ 140737488355328 := by omega
      have hwa : IntKind.i64.wrap ((a : Int) + 1) = (a : Int) + 1 := IntWalk.i64_in _ (by omega)
      go_region_held3 (fun w' => w'.cell? ⟨w.heap.size + 1, 0, none⟩ = some (.int .i64 num) ∧ w'.cell? ⟨w.heap.size + 1, 1, none⟩ = some (.slice (some ⟨g, 0, none⟩) m c) ∧ w'.rangeAt b6 0 (Vb d) ∧ w'.cell? ⟨wr.heap.size, 1, none⟩ = some (.slice Q m2 k2))
        (first | exact ⟨f3, f4, f5, f1⟩ | exact ⟨cell_below e3 (new_below _ _), cell_below e4 (new_below _ _), (H7.out.2.2.2.2.1.alloc _).range, cell_below e1 (new_below _ _)⟩ | exact ⟨e3, e4, e5, e1⟩ | exact ⟨k3, k4, k5, k1⟩)
        (first
          | (go_at_call 92; refine (note_any _ A num m _ c ws i p q d (HR.out.2.2.2.2.2.2.2.2.2.below (H5.out.1.trans ((drew_below _).mono H5.out.1.size))) HR.out.2.2.2.2.1 HQ.out hqb hnum hm4 HD.out).mono ?_; rintro e w7 ⟨gn, rfl, hgn, hB, hW⟩; have e3 := cell_drew k3 hW; have e4 := cell_drew k4 hW; have e5 := (blk_drew H5.out.2.2.2.2 hW).range; have e1 := cell_drew k1 hW; have H7 := Lib.hid (And.intro (below_drew H5.out.1 hW) (And.intro (blk_drew H5.out.2.1 hW) (And.intro (blk_drew H5.out.2.2.1 hW) (And.intro (blk_drew H5.out.2.2.2.1 hW) (And.intro (blk_drew H5.out.2.2.2.2 hW) hB))))); have hgn' : w.heap.size ≤ gn := Nat.le_trans hsz (Nat.le_trans H5.out.1.size hgn); clear hB hW hgn)
          | (refine step_append_lies _ rfl (.tmp 23) (.tmp 35) 85 rfl w.heap.size 146 i0 (.agg #[.int .i64 0, .slice none 0 0]) 2 32 Tryz.underlying85 HI.out.1 HI.out.2.1 HI.out.2.2.1 HI.out.2.2.2 rfl (by decide) u5 (2 * i) cells rfl ((own_below HR.out.2.2.2.2.2.2.1 H7.out.1).alloc _) ⟨w7.heap.size, 0, none⟩ 2 2 [.int .i64 (a : Int), .slice (some ⟨gn, 0, none⟩) 64 64, .int .i64 ((a : Int) + 1), .slice Q m2 k2] rfl rfl (new_row w7 [_, _, _, _] 146) (quad_one _ _ _ _ _ _ _ _) h2p h63 hby (Nat.le_trans hsz (Nat.le_trans H7.out.1.size (new_below w7 _).size)) (w7.heap.size + 1) (by simp) ?_; intro g3 cap3 w8 ho8 hg8 hw8 hl8; have hown7 := (own_below HR.out.2.2.2.2.2.2.1 H7.out.1).alloc (.cells #[.int .i64 (a : Int), .slice (some ⟨gn, 0, none⟩) 64 64, .int .i64 ((a : Int) + 1), .slice Q m2 k2] 146); have hk8 := (H7.out.2.1.alloc (.cells #[.int .i64 (a : Int), .slice (some ⟨gn, 0, none⟩) 64 64, .int .i64 ((a : Int) + 1), .slice Q m2 k2] 146)).grown hg8 (fun e => Nat.lt_irrefl _ (HR.out.2.2.2.2.2.2.1.lt _ e.symm).2); have hy7 := H7.out.2.2.1.alloc (.cells #[.int .i64 (a : Int), .slice (some ⟨gn, 0, none⟩) 64 64, .int .i64 ((a : Int) + 1), .slice Q m2 k2] 146); have hy8 := hy7.grown hg8 (fun e => own_blk_ne hown7 hy7 (by decide) e.symm); have ht7 := H7.out.2.2.2.1.alloc (.cells #[.int .i64 (a : Int), .slice (some ⟨gn, 0, none⟩) 64 64, .int .i64 ((a : Int) + 1), .slice Q m2 k2] 146); have ht8 := ht7.grown hg8 (fun e => own_blk_ne hown7 ht7 (by decide) e.symm); have hd7 := H7.out.2.2.2.2.1.alloc (.cells #[.int .i64 (a : Int), .slice (some ⟨gn, 0, none⟩) 64 64, .int .i64 ((a : Int) + 1), .slice Q m2 k2] 146); have hd8 := hd7.grown hg8 (fun e => own_blk_ne hown7 hd7 (by decide) e.symm); have ⟨f0, f1⟩ := blk_pair hk8; have ⟨f3, f4⟩ := blk_pair ht8; have f5 := hd8.range; have H8 := Lib.hid (And.intro ho8 (And.intro hg8 (And.intro hown7 (And.intro hy8 (And.intro ht8 hd8))))); clear ho8 hg8 hw8 hl8 hown7 hk8 hy7 hy8 ht7 ht8 hd7 hd8))
      clear hwa
      go_wp2_with fail
      have hb7 := new_below w7 (.cells #[.int .i64 (a : Int), .slice (some ⟨gn, 0, none⟩) 64 64, .int .i64 ((a : Int) + 1), .slice Q m2 k2] 146)
      have hbel7 := below_of H7.out.1 hb7
      have hbel8 : Below w.heap.size w w8 := (HR.out.2.2.2.1.trans (hbel7.mono hsz)).grown H8.out.2.1 (by have := hbel7.size; omega) (fun q hq => own_ge H8.out.2.2.1 q hq)
      have how8 : OWrs w.heap.size (fun g => A g ∨ w.heap.size ≤ g) w8 (.slice (some ⟨g3, 0, none⟩) (2 * i + 2) cap3) (2 * i + 2) (jrnOf num m d (ws.take i) ++ [((a : Int), noteB num i m q d), ((a : Int) + 1, p.2)]) := by
        refine OWrs.add H8.out.2.2.1 HR.out.2.2.2.2.2.2.2.1 H8.out.2.1 (fun jj pp hpp => ?_) rfl H8.out.1 (fun jj pp hpp => ?_)
        · obtain ⟨c0, u, c1, hu⟩ := HR.out.2.2.2.2.2.2.2.2.1 jj pp hpp
          exact ⟨c0, u, c1, hu.below hbel7⟩
        · match jj, hpp with
          | 0, hpp =>
            simp only [List.getElem?_cons_zero, Option.some.injEq] at hpp
            subst hpp
            exact ⟨rfl, _, rfl, (Bts.whole H7.out.2.2.2.2.2 (.inl rfl) (.inr hgn') (noteB_length _ _ _ _ HD.out) (by omega)).below hb7⟩
          | 1, hpp =>
            simp only [List.getElem?_cons_zero, List.getElem?_cons_succ, Option.some.injEq] at hpp
            subst hpp
            exact ⟨rfl, _, rfl, (HR.out.2.2.2.2.2.1.mono (fun g h _ => .inl h)).below hbel7⟩
      have HE := Lib.hid (And.intro how8 (And.intro H8.out.2.2.2.1 (And.intro H8.out.2.2.2.2.1 (And.intro H8.out.2.2.2.2.2 hbel8))))
      clear hb7 hbel7 hbel8 how8
      go_roundw
      case rel =>
        refine ⟨i + 1, by omega, by go_num, ?_, HE.out.2.1, HE.out.2.2.1, HE.out.2.2.2.1, HE.out.2.2.2.2⟩
        have e1 : ((1 + 2 * i : Nat) : Int) = (a : Int) := by rw [HA.out]
        have e2 : ((1 + 2 * i + 1 : Nat) : Int) = (a : Int) + 1 := by rw [HA.out]; rfl
        rw [jrnOf_take HR.out.2.2.2.2.1, e1, e2, show p.1.toNat = q by have := HQ.out; omega, show 2 * (i + 1) = 2 * i + 2 by omega]
        exact HE.out.1
      case measure => simp [intOf]; omega
    · obtain rfl : i = m := by omega
      rw [List.take_of_length_le (by have := H0.out.2.2.2.2.2.2; omega)] at h1
      have HF := Lib.hid (And.intro h1 h4)
      clear h1 h2 h3 h5 h4
      go_wp2_with fail
      go_ret
      refine ⟨_, rfl, ?_, HF.out.2⟩
      rw [HDE.out]
      exact HF.out.1
end Go.Proofs.YtkmkblhmjeeaeaaGreatDoor
end

/-
  lay: sectors of a disk, written in order, and flushed. Conditions: the disk has power that never goes; the sectors are there, the bytes are a sector's.
-/

section
set_option maxRecDepth 100000
set_option linter.unusedSimpArgs false
set_option linter.unusedVariables false
namespace Go.Proofs.YtkmkblhmjeeaeaaGreatDoor
open Go.RowKit

/-- Sectors behind writes, in order. -/
def layS (S : Nat → List B8) (ws : List (Int × List B8)) : Nat → List B8 := ws.foldl (fun S p => upd S p.1.toNat p.2) S
theorem layS_snoc (S : Nat → List B8) (ws : List (Int × List B8)) (p : Int × List B8) : layS S (ws ++ [p]) = upd (layS S ws) p.1.toNat p.2 := by simp [layS]
set_option maxHeartbeats 1000000 in
theorem jlay_any (B : Nat) (w : World) (D L n j : Nat) (S : Nat → List B8) (cw cf : Nat) (A : Nat → Prop) (P : Option Addr) (m c : Nat) (ws : List (Int × List B8)) (hd : Idle B D L n S cw cf w) (hB : B ≤ w.heap.size)
    (hw : Wrs A w (.slice P m c) ws) (hA : ∀ g, A g → g ∉ [D, L]) (hok : ∀ p ∈ ws, 0 ≤ p.1 ∧ p.1 < n ∧ p.2.length = 64) (hcw : cw + m < 1000000) (hcf : cf < 1000000) :
    Calls Tryz.prog 55 #[lay_ D j, .slice P m c] w fun e w' => e = .returned (.int .i64 0) ∧ Idle B D L n (layS S ws) (cw + m) (cf + 1) w' ∧ Stp B [D, L] w w' := by
  have hlen := hw.len
  have hm : m ≤ 9223372036854775807 := by obtain ⟨P', c', e, h1, h2⟩ := hw.form; cases e; omega
  have hb := new_below w (.cells #[.pointer (some ⟨D, 0, none⟩), .int .i64 (j : Int)] 119)
  have hblk := Blk.new w 119 [.pointer (some ⟨D, 0, none⟩), .int .i64 (j : Int)]
  have hDs := hd.lt.2.2.1
  have hLs := hd.lt.2.2.2
  have H := Lib.hid (And.intro (hd.below hb).calm (And.intro (hw.below hb) (And.intro hblk (And.intro (Stp.of_below (X := [D, L]) hB hb) (And.intro hA (And.intro hok hlen))))))
  clear hd hw hb hblk hA hok hlen
  go_enter Tryz.func55, Tryz.ntmps55
  go_wp2_with fail
  go_loopw [10] (fun iv wx => ∃ i : Nat, i ≤ m ∧ iv = .int .i64 i ∧ Calm B D L n (layS S (ws.take i)) (cw + i) cf wx ∧ Blk wx w.heap.size 119 [.pointer (some ⟨D, 0, none⟩), .int .i64 (j : Int)] ∧ Wrs A wx (.slice P m c) ws ∧ Stp B [D, L] w wx) (fun iv _ => m - (intOf iv).toNat)
  case atStart => exact ⟨0, Nat.zero_le _, rfl, H.out.1, H.out.2.2.1, H.out.2.1, H.out.2.2.2.1⟩
  case round =>
    obtain ⟨i, hi, rfl, h1, h2, h3, h4⟩ := hrel
    have cD := h2.cell 0
    have hs := h2.lt
    have HR := Lib.hid (And.intro h1 (And.intro h2 (And.intro h3 h4)))
    clear h1 h2 h3 h4
    by_cases hlt : i < m
    · obtain ⟨p, hp⟩ : ∃ p, ws[i]? = some p := ⟨_, List.getElem?_eq_getElem (by have := H.out.2.2.2.2.2.2; omega)⟩
      obtain ⟨g, Q, m2, k2, rfl, hg, hAg, c0, c1, hl2, hbt, hmk, hk⟩ := HR.out.2.2.1.at_ hp
      obtain ⟨q0, q1, q2⟩ := H.out.2.2.2.2.2.1 p (List.mem_of_getElem? hp)
      have HP := Lib.hid (And.intro hp (And.intro hbt (And.intro q1 q2)))
      clear hp hbt q1 q2 hl2
      go_wp2_with fail
      have hb := new_below wr (.cells #[.int .i64 p.1, .slice Q m2 k2] 146)
      have hsB : B ≤ wr.heap.size := Nat.le_trans hB HR.out.2.2.2.size
      refine (write_calm (HR.out.1.below hb) (Nat.le_trans hsB hb.size) (HP.out.2.1.below hb) (fun g hg e => H.out.2.2.2.2.1 g hg (by simp [e])) q0 HP.out.2.2.1 HP.out.2.2.2 (by omega)).mono ?_
      rintro e w2 ⟨rfl, h1, h2⟩
      have hst := (Stp.of_below (X := [D, L]) hsB hb).trans h2
      have H2 := Lib.hid (And.intro h1 (And.intro (hst.keep _ _ _ (by decide) (by simp; omega) HR.out.2.1) (And.intro (HR.out.2.2.1.stp hst H.out.2.2.2.2.1) (HR.out.2.2.2.trans hst))))
      clear h1 h2 hst hb
      go_wp2_with fail
      go_roundw
      case rel =>
        refine ⟨i + 1, by omega, by go_num, ?_, H2.out.2.1, H2.out.2.2.1, H2.out.2.2.2⟩
        rw [take_snoc_ HP.out.1, layS_snoc]
        exact H2.out.1
      case measure => simp [intOf]; omega
    · obtain rfl : i = m := by omega
      go_wp2_with fail
      refine (flush_calm HR.out.1 (Nat.le_trans hB HR.out.2.2.2.size) hcf).mono ?_
      rintro e w2 ⟨rfl, h1, h2⟩
      have HE := Lib.hid (And.intro h1 (HR.out.2.2.2.trans h2))
      clear h1 h2
      go_wp2_with fail
      go_ret
      refine ⟨rfl, ?_, HE.out.2⟩
      have := HE.out.1
      rw [List.take_of_length_le (by have := H.out.2.2.2.2.2.2; omega)] at this
      exact this
end Go.Proofs.YtkmkblhmjeeaeaaGreatDoor
end

/-
  finish: a transaction's writes to the data, then the head. Conditions: the disk has power that never goes; the sectors are there.
-/

section
set_option maxRecDepth 100000
set_option linter.unusedSimpArgs false
set_option linter.unusedVariables false
namespace Go.Proofs.YtkmkblhmjeeaeaaGreatDoor
open Go.RowKit

/-- The cells of a log. -/
def logCells (D j : Nat) (x : Int × Int) (done : Nat) (red : Bool) : List Value := [.pointer (some ⟨D, 0, none⟩), .int .i64 (j : Int), .int .u32 x.1, .int .i32 x.2, .int .u32 0, .int .i64 (done : Int), .bool red]
theorem log_cells {w : World} {G D j done : Nat} {x : Int × Int} {red : Bool} {t : TypeId} (h : Blk w G t (logCells D j x done red)) :
    w.cell? ⟨G, 0, none⟩ = some (.pointer (some ⟨D, 0, none⟩)) ∧ w.cell? ⟨G, 1, none⟩ = some (.int .i64 (j : Int)) ∧ w.cell? ⟨G, 5, none⟩ = some (.int .i64 (done : Int)) ∧ w.cell? ⟨G, 6, none⟩ = some (.bool red) :=
  ⟨h.cell 0, h.cell 1, h.cell 5, h.cell 6⟩

theorem OWrs.toWrs {N n : Nat} {A : Nat → Prop} {w : World} {v : Value} {X : List (Int × List B8)} (h : OWrs N A w v n X) : Wrs (fun g => A g ∨ N ≤ g) w v X := by
  obtain ⟨cells, h1, h3, h4⟩ := h
  exact OWrs.wrs (A := fun g => A g ∨ N ≤ g) ⟨cells, h1, h3, fun j p hp => by
    obtain ⟨c0, u, c1, hu⟩ := h4 j p hp
    exact ⟨c0, u, c1, hu.mono (fun g hg _ => .inl hg)⟩⟩ (fun g hg => .inr hg)
theorem OWrs.form {N n : Nat} {A : Nat → Prop} {w : World} {v : Value} {X : List (Int × List B8)} (h : OWrs N A w v n X) : ∃ P c, v = .slice P n c := by
  obtain ⟨P, c, e, _⟩ := h.toWrs.form
  obtain ⟨_, _, h3, _⟩ := h
  exact ⟨P, c, by rw [e, h3]⟩
theorem idle_drew {B D L n : Nat} {S : Nat → List B8} {cw cf : Nat} {w w' : World} (h : Idle B D L n S cw cf w) (hb : Below w.drew.heap.size w.drew w') : Idle B D L n S cw cf w' := (h.below (drew_below w)).below hb
theorem dataOf_ok {n j : Nat} {ws : List (Int × List B8)} (hj : j + 1 < n) (hok : ∀ p ∈ ws, 0 ≤ p.1 ∧ p.1 < (n - j - 1 : Nat) ∧ p.2.length = 64) : ∀ p ∈ dataOf j ws, 0 ≤ p.1 ∧ p.1 < n ∧ p.2.length = 64 := by
  intro p hp
  unfold dataOf at hp
  obtain ⟨q, hq, rfl⟩ := List.mem_map.1 hp
  obtain ⟨h1, h2, h3⟩ := hok q hq
  refine ⟨?_, ?_, h3⟩
  · show (0 : Int) ≤ ((1 + j + q.1.toNat : Nat) : Int)
    omega
  · show ((1 + j + q.1.toNat : Nat) : Int) < (n : Int)
    omega

theorem Wrs.one {A : Nat → Prop} {w : World} {g : Nat} {no : Int} {Q : Option Addr} {m k : Nat} {b : List B8} (hb : Blk w g 146 [.int .i64 no, .slice Q m k]) (hA : A g) (hu : Bts A w (.slice Q m k) b) : Wrs A w (.slice (some ⟨g, 0, none⟩) 1 1) [(no, b)] := by
  refine .inr ⟨g, 1, _, rfl, hA, hb, Nat.le_refl _, by unfold maxLen; decide, fun i p hp => ?_⟩
  match i, hp with
  | 0, hp =>
    simp only [List.getElem?_cons_zero, Option.some.injEq] at hp
    subst hp
    exact ⟨rfl, _, rfl, hu⟩

theorem stp_set {B G o : Nat} {w : World} (hB : B ≤ w.heap.size) (hG : B ≤ G) (u : Value) : Stp B [G] w (w.setCell ⟨G, o, none⟩ u) :=
  ⟨((Only.refl [G] w).setCell (.inl (by simp)) u).below hB (fun k hk => by simp only [List.mem_singleton] at hk; omega), fun g t cs _ h2 hb => hb.only ((Only.refl [G] w).setCell (.inl (by simp)) u) h2, (KeepsOthers.setCell w _ u).same⟩

set_option maxHeartbeats 2000000 in
theorem finish_any (ks : List B32) (B : Nat) (w : World) (D L G n j : Nat) (S : Nat → List B8) (cw cf : Nat) (A : Nat → Prop) (P : Option Addr) (m c num done : Nat) (x : Int × Int) (red : Bool) (ws : List (Int × List B8))
    (hd : Idle B D L n S cw cf w) (hB : B ≤ w.heap.size) (hK : Roots ks w) (hG : Blk w G 131 (logCells D j x done red)) (hKB : 1 < B) (hBG : B ≤ G) (hw : Wrs A w (.slice P m c) ws) (hA : ∀ g, A g → g ∉ [D, L, G])
    (hj : j + 1 < n) (hok : ∀ p ∈ ws, 0 ≤ p.1 ∧ p.1 < (n - j - 1 : Nat) ∧ p.2.length = 64) (hm : m ≤ 1024) (hnum : num ≤ 9223372036854775807) (hcw : cw + m + 1 < 1000000) (hcf : cf + 1 < 1000000) :
    Calls Tryz.prog 57 #[.pointer (some ⟨G, 0, none⟩), .agg #[.int .i64 num, .slice P m c]] w fun e w' => e = .returned (.int .i64 0) ∧
      Idle B D L n (upd (layS S (dataOf j ws)) 0 (headB ks num)) (cw + m + 1) (cf + 2) w' ∧ Blk w' G 131 (logCells D j x num red) ∧ Stp B [D, L, G] w w' := by
  have hnb := hd.bound
  have hlen := hw.len
  have hb1 := new_below w (.cells #[.int .i64 num, .slice P m c] 141)
  have hk1 := Blk.new w 141 [.int .i64 num, .slice P m c]
  have ⟨t0, t1⟩ := blk_pair hk1
  have ⟨g0, g1, g5, g6⟩ := log_cells (hG.below hb1 hG.lt)
  have hlt := hd.lt
  have hGl := hG.lt
  have hDG : D ≠ G := by
    rintro rfl
    obtain ⟨s, hs, _⟩ := hd
    exact absurd (hG.same hs.disk).1 (by decide)
  have hLG : L ≠ G := by
    rintro rfl
    obtain ⟨s, hs, _⟩ := hd
    exact absurd (hG.same hs.laid).1 (by decide)
  have H0 := Lib.hid (And.intro hb1 (And.intro hk1 (And.intro (hd.below hb1) (And.intro (hG.below hb1 hG.lt) (And.intro hK (And.intro (hw.below hb1) (And.intro hA (And.intro hok hlen))))))))
  have HN := Lib.hid (And.intro hDG hLG)
  clear hb1 hk1 hd hG hK hw hA hok hlen hDG hLG
  go_enter Tryz.func57, Tryz.ntmps57
  go_wp2_with fail
  go_region_held3 (fun w' => w'.cell? ⟨w.heap.size, 0, none⟩ = some (.int .i64 num) ∧ w'.cell? ⟨w.heap.size, 1, none⟩ = some (.slice P m c) ∧ w'.cell? ⟨G, 0, none⟩ = some (.pointer (some ⟨D, 0, none⟩)) ∧ w'.cell? ⟨G, 1, none⟩ = some (.int .i64 (j : Int)))
    (first | exact ⟨f0, f1, f3, f4⟩ | exact ⟨e0, e1, e3, e4⟩ | exact ⟨t0, t1, g0, g1⟩)
    (first
      | (go_at_call 93; refine (inData_any _ A D j num m P c ws (H0.out.2.2.2.2.2.1.below (drew_below _)) (by omega) hm (fun p hp => by have := H0.out.2.2.2.2.2.2.2.1 p hp; omega)).mono ?_; rintro e w2 ⟨v, rfl, hO, hW⟩; obtain ⟨Pv, cv, rfl⟩ := hO.form; have e0 := cell_drew t0 hW; have e1 := cell_drew t1 hW; have e3 := cell_drew g0 hW; have e4 := cell_drew g1 hW; have H2 := Lib.hid (And.intro (idle_drew H0.out.2.2.1 hW) (And.intro hO.toWrs (And.intro (below_drew H0.out.1 hW) (And.intro (blk_drew H0.out.2.1 hW) (blk_drew H0.out.2.2.2.1 hW))))); clear hO hW)
      | (go_at_call 55; refine (jlay_any B _ D L n j S cw cf _ Pv m cv (dataOf j ws) H2.out.1 (Nat.le_trans hB H2.out.2.2.1.size) H2.out.2.1 (fun g hg => by rcases hg with hg | hg; exact (fun h => H0.out.2.2.2.2.2.2.1 g hg (by simp at h ⊢; rcases h with h | h <;> simp [h])); exact (fun h => by have h2 := hg; simp only [World.size_drew, World.size_alloc] at h2; simp at h; omega)) (dataOf_ok hj H0.out.2.2.2.2.2.2.2.1) (by omega) (by omega)).mono ?_; rintro e w3 ⟨rfl, h1, h2⟩; have hk3 := h2.keep _ _ _ (by decide) (by simp; omega) H2.out.2.2.2.1; have hG3 := h2.keep _ _ _ (by decide) (by have h1 := HN.out.1; have h2 := HN.out.2; simp; omega) H2.out.2.2.2.2; have ⟨f0, f1⟩ := blk_pair hk3; have ⟨f3, f4, _, _⟩ := log_cells hG3; have H3 := Lib.hid (And.intro h1 (And.intro hk3 (And.intro hG3 ((Stp.of_below (X := [D, L]) hB H2.out.2.2.1).trans h2)))); clear h1 h2 hk3 hG3))
  go_wp2_with fail
  clear t0 t1 g0 g1 g5 g6 e0 e1 e3 e4
  have hd3 : D < w3.heap.size ∧ L < w3.heap.size := ⟨H3.out.1.lt.2.2.1, H3.out.1.lt.2.2.2⟩
  go_region_held3 (fun w' => w'.cell? ⟨w.heap.size, 0, none⟩ = some (.int .i64 num) ∧ w'.cell? ⟨G, 0, none⟩ = some (.pointer (some ⟨D, 0, none⟩)) ∧ w'.cell? ⟨G, 1, none⟩ = some (.int .i64 (j : Int)))
    (first | exact ⟨q0, q3, q4⟩ | exact ⟨cell_below e0 (new_below _ _), cell_below e3 (new_below _ _), cell_below e4 (new_below _ _)⟩ | exact ⟨e0, e3, e4⟩ | exact ⟨f0, f3, f4⟩)
    (first
      | (go_at_call 94; refine (head_any ks _ num (H0.out.2.2.2.2.1.below (H3.out.2.2.2.below.trans ((drew_below _).mono (Nat.le_trans hB H3.out.2.2.2.size))) hKB) hnum).mono ?_; rintro e w4 ⟨gh, rfl, hgh, hH, hW⟩; have e0 := cell_drew f0 hW; have e3 := cell_drew f3 hW; have e4 := cell_drew f4 hW; have H4 := Lib.hid (And.intro (idle_drew H3.out.1 hW) (And.intro (blk_drew H3.out.2.1 hW) (And.intro (blk_drew H3.out.2.2.1 hW) (And.intro hH (below_drew (Below.refl _ _) hW))))); have hgh' : w3.heap.size ≤ gh := hgh; clear hH hW hgh)
      | (go_at_call 55; refine (jlay_any B _ D L n j _ (cw + m) (cf + 1) (fun g => w3.heap.size ≤ g) _ 1 1 [(0, headB ks num)] (H4.out.1.below (new_below _ (.cells #[.int .i64 0, .slice (some ⟨gh, 0, none⟩) 64 64] 146))) (by have h1 := (new_below w4 (.cells #[.int .i64 0, .slice (some ⟨gh, 0, none⟩) 64 64] 146)).size; have h2 := H4.out.2.2.2.2.size; have h3 := H3.out.2.2.2.size; omega) (Wrs.one (Blk.new w4 146 [.int .i64 0, .slice (some ⟨gh, 0, none⟩) 64 64]) H4.out.2.2.2.2.size ((Bts.whole H4.out.2.2.2.1 (.inl rfl) hgh' (headB_length _ _) (by omega)).below (new_below _ _))) (fun g hg h => by simp at h; omega) (fun p hp => by simp only [List.mem_singleton] at hp; subst hp; exact ⟨Int.le_refl 0, by show (0 : Int) < n; omega, headB_length _ _⟩) (by omega) (by omega)).mono ?_; rintro e w5 ⟨rfl, h1, h2⟩; have hbb := new_below w4 (.cells #[.int .i64 0, .slice (some ⟨gh, 0, none⟩) 64 64] 146); have hk5 := h2.keep _ _ _ (by decide) (by simp; omega) (H4.out.2.1.below hbb H4.out.2.1.lt); have hG5 := h2.keep _ _ _ (by decide) (by have h1 := HN.out.1; have h2 := HN.out.2; simp; omega) (H4.out.2.2.1.below hbb H4.out.2.2.1.lt); have ⟨q0, _⟩ := blk_pair hk5; have ⟨q3, q4, q5, _⟩ := log_cells hG5; have qf := hG5.frozen 5; have H5 := Lib.hid (And.intro h1 (And.intro hk5 (And.intro hG5 (H3.out.2.2.2.trans ((Stp.of_below (X := [D, L]) (by have h3 := H3.out.2.2.2.size; omega) (below_of H4.out.2.2.2.2 hbb)).trans h2))))); clear h1 h2 hk5 hG5 hbb))
  clear f0 f1 f3 f4 e0 e3 e4
  go_wp2_with fail
  go_ret
  have hs5 := H5.out.2.2.2.size
  have hset := stp_set (o := 5) (Nat.le_trans hB hs5) hBG (.int .i64 num)
  refine ⟨rfl, ?_, H5.out.2.2.1.set_ 5 (.int .i64 num), ?_⟩
  · have h := H5.out.1.stp hset (by have := HN.out.1; simpa using this) (by have := HN.out.2; simpa using this)
    have e : layS (layS S (dataOf j ws)) [(0, headB ks num)] = upd (layS S (dataOf j ws)) 0 (headB ks num) := rfl
    rw [e] at h
    exact h
  · exact (H5.out.2.2.2.mono (by intro k hk _; simp at hk ⊢; rcases hk with h | h <;> simp [h])).trans (hset.mono (by intro k hk _; simp at hk ⊢; simp [hk]))
end Go.Proofs.YtkmkblhmjeeaeaaGreatDoor
end

/-
  hasAll: whether all sectors that are written are there. Conditions: the disk has power that never goes; they are there.
-/

section
set_option maxRecDepth 100000
set_option linter.unusedSimpArgs false
set_option linter.unusedVariables false
namespace Go.Proofs.YtkmkblhmjeeaeaaGreatDoor
open Go.RowKit

theorem hasOne (B D L n j : Nat) (S : Nat → List B8) (cw cf : Nat) (w : World) (b : Nat) (no : Int) (Q : Option Addr) (m k : Nat) (hd : Calm B D L n S cw cf w) (hb : Blk w b 119 [.pointer (some ⟨D, 0, none⟩), .int .i64 (j : Int)]) (hj : j + 1 < n) (hn : n ≤ 4096)
    (h0 : 0 ≤ no) (h1 : no < (n - j - 1 : Nat)) :
    Calls Tryz.prog 117 #[.agg #[.int .i64 no, .slice Q m k], .pointer (some ⟨b, 0, none⟩)] w fun e w' => e = .returned (.bool false) ∧ Below w.heap.size w w' := by
  have hB := new_below w (.cells #[.int .i64 no, .slice Q m k] 146)
  have c0 := hb.cell 0
  have c1 := hb.cell 1
  have hlt := hb.lt
  have HD := Lib.hid (hd.below hB)
  have HB := Lib.hid hB
  clear hd hb hB
  go_enter Tryz.func117, Tryz.ntmps117
  go_wp2_with (go_at_call 65; refine (has_yes HD.out hj hn no h0 h1).mono ?_; rintro e w' ⟨rfl, hb2⟩; have HB2 := Lib.hid (HB.out.trans (hb2.mono HB.out.size)); clear hb2)
  go_ret
  exact ⟨rfl, HB2.out⟩

theorem indexNone (B D L n j : Nat) (S : Nat → List B8) (cw cf : Nat) (w : World) (b : Nat) (A : Nat → Prop) (P : Option Addr) (m c : Nat) (ws : List (Int × List B8)) (hd : Calm B D L n S cw cf w) (hb : Blk w b 119 [.pointer (some ⟨D, 0, none⟩), .int .i64 (j : Int)]) (hj : j + 1 < n) (hn : n ≤ 4096)
    (hw : Wrs A w (.slice P m c) ws) (hok : ∀ p ∈ ws, 0 ≤ p.1 ∧ p.1 < (n - j - 1 : Nat)) :
    Calls Tryz.prog 143 #[.slice P m c, .func (.func 117) #[] #[.pointer (some ⟨b, 0, none⟩)]] w fun e w' => e = .returned (.int .i64 (-1)) ∧ Below w.heap.size w w' := by
  have hlen := hw.len
  have hm : m ≤ 9223372036854775807 := by obtain ⟨P', c', e, h1, h2⟩ := hw.form; cases e; omega
  have H := Lib.hid (And.intro hd (And.intro hb (And.intro hw (And.intro hok hlen))))
  clear hd hb hw hok hlen
  go_enter Tryz.func143, Tryz.ntmps143
  go_wp2_with fail
  go_loopw [8] (fun iv wx => ∃ i : Nat, i ≤ m ∧ iv = .int .i64 i ∧ Below w.heap.size w wx) (fun iv _ => m - (intOf iv).toNat)
  case atStart => exact ⟨0, Nat.zero_le _, rfl, Below.refl _ _⟩
  case round =>
    obtain ⟨i, hi, rfl, h1⟩ := hrel
    have HR := Lib.hid h1
    clear h1
    by_cases hlt : i < m
    · obtain ⟨p, hp⟩ : ∃ p, ws[i]? = some p := ⟨_, List.getElem?_eq_getElem (by have := H.out.2.2.2.2; omega)⟩
      obtain ⟨g, Q, m2, k2, rfl, hg, hAg, c0, c1, hl2, hbt, hmk, hk⟩ := (H.out.2.2.1.below HR.out).at_ hp
      obtain ⟨q0, q1⟩ := H.out.2.2.2.1 p (List.mem_of_getElem? hp)
      clear hp hbt hl2
      go_wp2_with fail
      refine (hasOne B D L n j S cw cf wr b p.1 Q m2 k2 (H.out.1.below HR.out) (H.out.2.1.below HR.out H.out.2.1.lt) hj hn q0 q1).mono ?_
      rintro e w2 ⟨rfl, h1⟩
      have H2 := Lib.hid (HR.out.trans (h1.mono HR.out.size))
      clear h1
      go_wp2_with fail
      go_roundw
      case rel => exact ⟨i + 1, by omega, by go_num, H2.out⟩
      case measure => simp [intOf]; omega
    · obtain rfl : i = m := by omega
      go_wp2_with fail
      go_ret
      exact ⟨rfl, HR.out⟩

theorem hasAll_yes (B D L n j : Nat) (S : Nat → List B8) (cw cf : Nat) (w : World) (A : Nat → Prop) (P : Option Addr) (m c : Nat) (ws : List (Int × List B8)) (hd : Calm B D L n S cw cf w) (hj : j + 1 < n) (hn : n ≤ 4096)
    (hw : Wrs A w (.slice P m c) ws) (hok : ∀ p ∈ ws, 0 ≤ p.1 ∧ p.1 < (n - j - 1 : Nat)) :
    Calls Tryz.prog 86 #[lay_ D j, .slice P m c] w fun e w' => e = .returned (.bool true) ∧ Below w.heap.size w w' := by
  have hB := new_below w (.cells #[.pointer (some ⟨D, 0, none⟩), .int .i64 (j : Int)] 119)
  have hblk := Blk.new w 119 [.pointer (some ⟨D, 0, none⟩), .int .i64 (j : Int)]
  have hmf : ∀ (fn : Fn) (first cap : Array Value) (w : World), (Instr.makeFunc fn first cap).run Tryz.prog w = .ok (.func fn first cap) w := fun _ _ _ _ => rfl
  have H := Lib.hid (And.intro (hd.below hB) (And.intro hblk (And.intro (hw.below hB) (And.intro hok hB))))
  clear hd hw hok hB hblk
  go_enter Tryz.func86, Tryz.ntmps86
  go_wp2_with (first
    | (go_at_call 116; go_in)
    | (go_at_call 143; refine (indexNone B D L n j S cw cf _ w.heap.size A P m c ws H.out.1 H.out.2.1 hj hn H.out.2.2.1 H.out.2.2.2.1).mono ?_; rintro e w' ⟨rfl, hb2⟩; have HB2 := Lib.hid (H.out.2.2.2.2.trans (hb2.mono H.out.2.2.2.2.size)); clear hb2))
  go_ret
  exact ⟨rfl, HB2.out⟩
end Go.Proofs.YtkmkblhmjeeaeaaGreatDoor
end

/-
  Check: whether two writes are to one sector. Conditions: no sector is below 0, the bytes are a sector's.
-/

section
set_option maxRecDepth 100000
set_option linter.unusedSimpArgs false
set_option linter.unusedVariables false
namespace Go.Proofs.YtkmkblhmjeeaeaaGreatDoor
open Go.RowKit Go.Maps

def secs (ws : List (Int × List B8)) : List Int := ws.map (·.1)
/-- The sectors of the first k writes, as a set. -/
def SecSet (ws : List (Int × List B8)) (k : Nat) : DataW Unit := setOf (.agg []) ((secs (ws.take k)).map (Lit.int .i64))
theorem SecSet_zero (ws : List (Int × List B8)) : SecSet ws 0 = .map [] := by simp [SecSet, secs, setOf]
theorem secs_take {ws : List (Int × List B8)} {k : Nat} {p : Int × List B8} (h : ws[k]? = some p) : secs (ws.take (k + 1)) = secs (ws.take k) ++ [p.1] := by
  unfold secs
  rw [take_snoc_ h, List.map_append]
  rfl
theorem SecSet_succ {ws : List (Int × List B8)} {k : Nat} {p : Int × List B8} (h : ws[k]? = some p) : SecSet ws (k + 1) = (SecSet ws k).put (.int .i64 p.1) (.agg []) := by
  unfold SecSet
  rw [secs_take h, List.map_append, List.map_cons, List.map_nil, setOf_snoc]
theorem any_sec (x : Int) : ∀ l : List Int, l.any ((fun y : Lit => y.sameKey (.int .i64 x)) ∘ Lit.int .i64) = l.contains x
  | [] => rfl
  | a :: r => by
    rw [List.any_cons, List.contains_cons, any_sec x r]
    congr 1
    show decide (IntKind.i64 = IntKind.i64 ∧ a = x) = (x == a)
    by_cases e : a = x
    · subst e
      simp
    · have e' : ¬ x = a := fun h => e h.symm
      simp [e, e']
theorem has_sec (ws : List (Int × List B8)) (k : Nat) (x : Int) : Maps.has (SecSet ws k) (.int .i64 x) = (secs (ws.take k)).contains x := by
  unfold SecSet
  rw [has_setOf _ _ _ (fun y hy => by obtain ⟨_, _, rfl⟩ := List.mem_map.1 hy; trivial), List.any_map]
  exact any_sec x _

/-- What Check answers. -/
def ChkPost (ws : List (Int × List B8)) (w : World) (e : Ending) (w' : World) : Prop := ((e = .returned (.int .i64 0) ∧ (secs ws).Nodup) ∨ (e = .returned (.int .i64 8) ∧ ¬ (secs ws).Nodup)) ∧ Below w.heap.size w w'
theorem nodup_snoc {l : List Int} {x : Int} (h : l.Nodup) (hx : l.contains x = false) : (l ++ [x]).Nodup := by
  rw [List.nodup_append]
  refine ⟨h, by simp, fun a ha b hb => ?_⟩
  simp only [List.mem_singleton] at hb
  subst hb
  rintro rfl
  rw [List.contains_eq_mem] at hx
  simp [ha] at hx
theorem not_nodup {ws : List (Int × List B8)} {k : Nat} {p : Int × List B8} (h : ws[k]? = some p) (hx : (secs (ws.take k)).contains p.1 = true) : ¬ (secs ws).Nodup := by
  intro hn
  have hk : k < ws.length := (List.getElem?_eq_some_iff.1 h).1
  have e : secs ws = secs (ws.take (k + 1)) ++ secs (ws.drop (k + 1)) := by unfold secs; rw [← List.map_append, List.take_append_drop]
  rw [e, secs_take h] at hn
  have := (List.nodup_append.1 hn).1
  have h2 := (List.nodup_append.1 this).2.2
  rw [List.contains_eq_mem] at hx
  exact h2 p.1 (by simpa using hx) p.1 (by simp) rfl
theorem lawInt : Keyed Tryz.prog 3 := int_keyed Tryz.underlying3
theorem zeroUnit (w : World) : (zeroValue 111).run Tryz.prog w = .ok (.agg #[]) w := by kernel_rfl

set_option maxHeartbeats 1000000 in
theorem check_any (w : World) (A : Nat → Prop) (P : Option Addr) (m c : Nat) (ws : List (Int × List B8)) (hw : Wrs A w (.slice P m c) ws) (hok : ∀ p ∈ ws, 0 ≤ p.1 ∧ p.1 ≤ 4294967296 ∧ p.2.length = 64) :
    Calls Tryz.prog 85 #[.slice P m c] w (ChkPost ws w) := by
  have hlen := hw.len
  have hm : m ≤ 9223372036854775807 := by obtain ⟨P', c', e, h1, h2⟩ := hw.form; cases e; omega
  have H := Lib.hid (And.intro hw (And.intro hok hlen))
  have hmm := @run_makeMap Tryz.prog
  clear hw hok hlen
  go_enter Tryz.func85, Tryz.ntmps85
  go_wp2_with fail
  go_loopw [12] (fun iv wx => ∃ i : Nat, i ≤ m ∧ iv = .int .i64 i ∧ Below w.heap.size w wx) (fun iv _ => m - (intOf iv).toNat)
  case atStart => exact ⟨0, Nat.zero_le _, rfl, Below.refl _ _⟩
  case round =>
    obtain ⟨i, hi, rfl, h1⟩ := hrel
    have HR := Lib.hid h1
    clear h1
    by_cases hlt : i < m
    · obtain ⟨p, hp⟩ : ∃ p, ws[i]? = some p := ⟨_, List.getElem?_eq_getElem (by have := H.out.2.2; omega)⟩
      obtain ⟨g, Q, m2, k2, rfl, hg, hAg, c0, c1, hl2, hbt, hmk, hk⟩ := (H.out.1.below HR.out).at_ hp
      obtain ⟨q0, q1, q2⟩ := H.out.2.1 p (List.mem_of_getElem? hp)
      obtain rfl : m2 = 64 := by omega
      have hsz := HR.out.size
      clear hp hbt hl2 q2
      go_wp2_with fail
      go_roundw
      case rel => exact ⟨i + 1, by omega, by go_num, HR.out.alloc hsz _⟩
      case measure => simp [intOf]; omega
    · obtain rfl : i = m := by omega
      obtain ⟨wo, rfl⟩ : ∃ wo : World, wo = wr := ⟨_, rfl⟩
      have hb2 := HR.out.alloc HR.out.size (.map #[] 0)
      have HM := Lib.hid (And.intro (World.ownsMap_made (P := Tryz.prog) (k := 3) (R := unitElem (H := Unit)) wo) hb2)
      have hs := HR.out.size
      clear hb2
      go_wp2_with fail
      go_loopw [29] (fun iv wx => ∃ k : Nat, k ≤ i ∧ iv = .int .i64 k ∧ wx.ownsMap Tryz.prog 3 unitElem wo.heap.size k (SecSet ws k) ∧ (secs (ws.take k)).Nodup ∧ Below w.heap.size w wx) (fun iv _ => i - (intOf iv).toNat)
      case atStart => exact ⟨0, Nat.zero_le _, rfl, by rw [SecSet_zero]; exact HM.out.1, List.nodup_nil, HM.out.2⟩
      case round =>
        obtain ⟨k, hk, rfl, h1, h2, h3⟩ := hrel
        have HS := Lib.hid (And.intro h2 h3)
        have HO := Lib.hid h1
        clear h1 h2 h3 HM
        by_cases hlt2 : k < i
        · obtain ⟨p, hp⟩ : ∃ p, ws[k]? = some p := ⟨_, List.getElem?_eq_getElem (by have := H.out.2.2; omega)⟩
          obtain ⟨g, Q, m2, k2, rfl, hg, hAg, c0, c1, hl2, hbt, hmk, hk2⟩ := (H.out.1.below HS.out.2).at_ hp
          obtain ⟨q0, q1, q2⟩ := H.out.2.1 p (List.mem_of_getElem? hp)
          have hkey := keyOf_int_mk Tryz.underlying3 (a := p.1) (WalkArith.wf_i64 (by omega))
          have HP := Lib.hid hp
          have hh := has_sec ws k p.1
          have hsy := HS.out.2.size
          clear hp hbt hl2 q2
          cases hc : (secs (ws.take k)).contains p.1 with
          | true =>
            rw [hc] at hh
            have HC := Lib.hid hc
            clear hc
            go_wp2_with (first
              | (at_lookup; (refine wpList_lookup_own_unit _ rfl _ _ 133 rfl 3 111 lawInt Tryz.underlying133 (zeroUnit _) wo.heap.size k _ rfl (HO.out.alloc _) _ _ rfl hkey ?_))
              | (at_mapUpdate; refine wpList_mapUpdate_own _ rfl _ _ _ 133 rfl 3 111 lawInt Tryz.underlying133 (unitElem (H := Unit)) wo.heap.size k _ rfl ((HO.out.alloc _).alloc _) (by unfold maxLen; omega) _ _ _ rfl rfl hkey _ [] unitElem_mk ?_; intro w1 hown1 hgrow1))
            go_ret
            exact ⟨.inr ⟨rfl, not_nodup HP.out HC.out⟩, (HS.out.2.alloc hsy _).alloc (by simp; omega) _⟩
          | false =>
            rw [hc] at hh
            have HC := Lib.hid hc
            clear hc
            go_wp2_with (first
              | (at_lookup; (refine wpList_lookup_own_unit _ rfl _ _ 133 rfl 3 111 lawInt Tryz.underlying133 (zeroUnit _) wo.heap.size k _ rfl (HO.out.alloc _) _ _ rfl hkey ?_))
              | (at_mapUpdate; refine wpList_mapUpdate_own _ rfl _ _ _ 133 rfl 3 111 lawInt Tryz.underlying133 (unitElem (H := Unit)) wo.heap.size k _ rfl ((HO.out.alloc _).alloc _) (by unfold maxLen; omega) _ _ _ rfl rfl hkey _ [] unitElem_mk ?_; intro w1 hown1 hgrow1))
            go_roundw
            case rel =>
              refine ⟨k + 1, by omega, by go_num, ?_, ?_, ((HS.out.2.alloc hsy _).alloc (by simp; omega) _).grown hgrow1 (by simp; omega) (fun q hq => by cases hq; exact hs)⟩
              · rw [SecSet_succ HP.out]
                exact hown1
              · rw [secs_take HP.out]
                exact nodup_snoc HS.out.1 HC.out
            case measure => simp [intOf]; omega
        · obtain rfl : k = i := by omega
          go_wp2_with fail
          go_ret
          refine ⟨.inl ⟨rfl, ?_⟩, HS.out.2⟩
          have := HS.out.1
          rw [List.take_of_length_le (by have := H.out.2.2; omega)] at this
          exact this
end Go.Proofs.YtkmkblhmjeeaeaaGreatDoor
end
