/-
  inJournal, inData: what a transaction writes to the journal and to the data. Conditions: the constants lie in their variable; the writes are known, sectors that are there, bytes of a sector.
-/
import Derived.Test.YtfkdpndcoegfpaaDoorM5
import Derived.Tactics
import Derived.Tactics2
import Derived.Defers
import Derived.Laws.Pointers
import Derived.Laws.LoneSync
import Derived.RegionTactic
import Derived.RegionCalls
import Derived.ChangeAlike
import Derived.Maps.OwnSet
import Derived.Maps.OwnOps
import Derived.Maps.Own
import Derived.SliceStrings
section
set_option maxRecDepth 100000
set_option linter.unusedSimpArgs false
set_option linter.unusedVariables false
namespace Go.Proofs.YtfkdpndcoegfpaaDoor
open Go.RowKit

/-- A list of writes in memory of the call's own. -/
def OWrs (N : Nat) (A : Nat → Prop) (w : World) (v : Value) (n : Nat) (X : List (Int × List B8)) : Prop := ∃ cells : List Value, w.ownsRow N 55 2 v n cells ∧ X.length = n ∧
  ∀ (j : Nat) p, X[j]? = some p → cells[j * 2]? = some (.int .i64 p.1) ∧ ∃ u, cells[j * 2 + 1]? = some u ∧ Bts A w u p.2
theorem OWrs.empty (N : Nat) (A : Nat → Prop) (w : World) : OWrs N A w (.slice none 0 0) 0 [] := ⟨[], World.ownsRow_nil _ _ _ _, rfl, fun j p h => by simp at h⟩
theorem OWrs.below {N n : Nat} {A : Nat → Prop} {w w' : World} {v : Value} {X : List (Int × List B8)} (h : OWrs N A w v n X) (hb : Below w.heap.size w w') : OWrs N A w' v n X := by
  obtain ⟨cells, h1, h3, h4⟩ := h
  refine ⟨cells, own_below h1 hb, h3, fun j p hp => ?_⟩
  obtain ⟨c0, u, c1, hu⟩ := h4 j p hp
  exact ⟨c0, u, c1, hu.below hb⟩
theorem OWrs.add {N n k : Nat} {A : Nat → Prop} {w w' : World} {v v' : Value} {X Y : List (Int × List B8)} {cells news : List Value} (ho : w.ownsRow N 55 2 v n cells) (hx : X.length = n) (hg : w.grownBy w' v.ownBlock)
    (h4 : ∀ (j : Nat) p, X[j]? = some p → cells[j * 2]? = some (.int .i64 p.1) ∧ ∃ u, cells[j * 2 + 1]? = some u ∧ Bts A w u p.2) (hy : Y.length = k) (ho' : w'.ownsRow N 55 2 v' (n + k) (cells ++ news))
    (h5 : ∀ (j : Nat) p, Y[j]? = some p → news[j * 2]? = some (.int .i64 p.1) ∧ ∃ u, news[j * 2 + 1]? = some u ∧ Bts A w u p.2) : OWrs N A w' v' (n + k) (X ++ Y) := by
  have hcl : cells.length = n * 2 := ho.1
  refine ⟨_, ho', by simp [hx, hy], fun j p hp => ?_⟩
  by_cases hj : j < n
  · rw [List.getElem?_append_left (by omega)] at hp
    obtain ⟨c0, u, c1, hu⟩ := h4 j p hp
    exact ⟨by rw [List.getElem?_append_left (by omega)]; exact c0, u, by rw [List.getElem?_append_left (by omega)]; exact c1, hu.grown ho hg (by decide) (by decide)⟩
  · rw [List.getElem?_append_right (by omega), hx] at hp
    obtain ⟨c0, u, c1, hu⟩ := h5 (j - n) p hp
    refine ⟨?_, u, ?_, hu.grown ho hg (by decide) (by decide)⟩
    · rw [List.getElem?_append_right (by omega), hcl, show j * 2 - n * 2 = (j - n) * 2 by omega]; exact c0
    · rw [List.getElem?_append_right (by omega), hcl, show j * 2 + 1 - n * 2 = (j - n) * 2 + 1 by omega]; exact c1
theorem OWrs.wrs {N n : Nat} {A : Nat → Prop} {w : World} {v : Value} {X : List (Int × List B8)} (h : OWrs N A w v n X) (hA : ∀ g, N ≤ g → A g) : Wrs A w v X := by
  obtain ⟨cells, h1, h3, h4⟩ := h
  rcases h1.2 with ⟨rfl, h0⟩ | ⟨g, cap, cur, rfl, hg, hb, hc1, hc2, hcs, ht⟩
  · exact .inl ⟨rfl, List.eq_nil_of_length_eq_zero (by omega)⟩
  · have hget : ∀ (k : Nat) u, cells[k]? = some u → cur.toList[k]? = some u := by
      intro k u hu
      rw [← ht, List.getElem?_take] at hu
      split at hu
      · exact hu
      · cases hu
    refine .inr ⟨g, cap, cur.toList, by rw [h3], hA g hg, by simpa [Blk] using hb, by omega, hc2, fun j p hp => ?_⟩
    obtain ⟨c0, u, c1, hu⟩ := h4 j p hp
    exact ⟨hget _ _ c0, u, hget _ _ c1, hu⟩

/-- What a transaction writes to the data. -/
def dataOf (j : Nat) (ws : List (Int × List B8)) : List (Int × List B8) := ws.map fun p => (((1 + j + p.1.toNat : Nat) : Int), p.2)
theorem dataOf_take {j k : Nat} {ws : List (Int × List B8)} {p : Int × List B8} (h : ws[k]? = some p) : dataOf j (ws.take (k + 1)) = dataOf j (ws.take k) ++ [(((1 + j + p.1.toNat : Nat) : Int), p.2)] := by
  unfold dataOf
  rw [take_snoc_ h, List.map_append]
  rfl
/-- What a transaction writes to the journal. -/
def jrnOf (num m : Nat) (d : List B8) (ws : List (Int × List B8)) : List (Int × List B8) := (ws.mapIdx fun i p => [(((1 + 2 * i : Nat) : Int), noteB num i m p.1.toNat d), (((1 + 2 * i + 1 : Nat) : Int), p.2)]).flatten
theorem jrnOf_take {num m k : Nat} {d : List B8} {ws : List (Int × List B8)} {p : Int × List B8} (h : ws[k]? = some p) :
    jrnOf num m d (ws.take (k + 1)) = jrnOf num m d (ws.take k) ++ [(((1 + 2 * k : Nat) : Int), noteB num k m p.1.toNat d), (((1 + 2 * k + 1 : Nat) : Int), p.2)] := by
  have hk := (List.getElem?_eq_some_iff.1 h).1
  unfold jrnOf
  rw [take_snoc_ h, List.mapIdx_concat, List.flatten_append, List.length_take, Nat.min_eq_left (by omega)]
  simp
theorem writeInfo : (Tryd.prog.info? 55).map (fun i => (i.zero, i.size, i.bytes)) = some (some (.agg #[.int .i64 0, .slice none 0 0]), 2, 32) := by kernel_rfl
theorem pair_one (n : Int) (Q : Option Addr) (m k : Nat) : ∀ u ∈ [Value.int .i64 n, .slice Q m k], u.oneCell' = true := by
  intro u hu
  simp only [List.mem_cons, List.not_mem_nil, or_false] at hu
  rcases hu with rfl | rfl <;> rfl

set_option maxHeartbeats 2000000 in
theorem inData_any (w : World) (A : Nat → Prop) (D j num m : Nat) (P : Option Addr) (c : Nat) (ws : List (Int × List B8)) (hw : Wrs A w (.slice P m c) ws) (hj : j ≤ 4096) (hm : m ≤ 1024) (hok : ∀ p ∈ ws, 0 ≤ p.1 ∧ p.1 ≤ 4096) :
    Calls Tryd.prog 40 #[lay_ D j, .agg #[.int .i64 num, .slice P m c]] w fun e w' => ∃ v, e = .returned v ∧ OWrs w.heap.size A w' v m (dataOf j ws) ∧ Below w.heap.size w w' := by
  have hlen := hw.len
  obtain ⟨i0, hi, hz0, hz1, hz2⟩ := info_parts writeInfo
  have HI := Lib.hid (And.intro hi (And.intro hz0 (And.intro hz1 hz2)))
  have hb1 := new_below w (.cells #[.pointer (some ⟨D, 0, none⟩), .int .i64 (j : Int)] 35)
  have hk1 := Blk.new w 35 [.pointer (some ⟨D, 0, none⟩), .int .i64 (j : Int)]
  have hb2 := new_below (w.alloc (.cells #[.pointer (some ⟨D, 0, none⟩), .int .i64 (j : Int)] 35)) (.cells #[.int .i64 num, .slice P m c] 60)
  have hk1' := hk1.below hb2 hk1.lt
  have H0 := Lib.hid (And.intro (below_of hb1 hb2) (And.intro hk1' (And.intro hw (And.intro hok hlen))))
  clear hb1 hk1 hb2 hk1' hw hok hlen hi hz0 hz1 hz2
  go_enter Tryd.func40, Tryd.ntmps40
  go_wp2_with fail
  go_loopw [11, 5] (fun iv tv wx => ∃ i : Nat, i ≤ m ∧ iv = .int .i64 i ∧ OWrs w.heap.size A wx tv i (dataOf j (ws.take i)) ∧ Blk wx w.heap.size 35 [.pointer (some ⟨D, 0, none⟩), .int .i64 (j : Int)] ∧ Below w.heap.size w wx) (fun iv _ _ => m - (intOf iv).toNat)
  case atStart => exact ⟨0, Nat.zero_le _, rfl, OWrs.empty _ _ _, H0.out.2.1, H0.out.1⟩
  case round =>
    obtain ⟨i, hi, rfl, h1, h2, h3⟩ := hrel
    by_cases hlt : i < m
    · obtain ⟨p, hp⟩ : ∃ p, ws[i]? = some p := ⟨_, List.getElem?_eq_getElem (by have := H0.out.2.2.2.2; omega)⟩
      obtain ⟨g, Q, m2, k2, rfl, hg, hAg, c0, c1, hl2, hbt, hmk, hk⟩ := (H0.out.2.2.1.below h3).at_ hp
      obtain ⟨q0, q1⟩ := H0.out.2.2.2.1 p (List.mem_of_getElem? hp)
      obtain ⟨q, hq⟩ : ∃ q : Nat, p.1 = q := ⟨p.1.toNat, by omega⟩
      rw [hq] at c0
      have hqb : q ≤ 4096 := by omega
      obtain ⟨cells, ho, hxl, hcs⟩ := h1
      have hsz := h3.size
      have hlw := h2.lt
      have hb := new_below wr (.cells #[.int .i64 (q : Int), .slice Q m2 k2] 55)
      have ⟨k0, k1⟩ := blk_pair (Blk.new wr 55 [.int .i64 (q : Int), .slice Q m2 k2])
      have ⟨k3, k4⟩ := blk_pair (h2.below hb h2.lt)
      have HR := Lib.hid (And.intro h2 (And.intro h3 (And.intro hp (And.intro hbt (And.intro ho (And.intro hxl hcs))))))
      have HB := Lib.hid hb
      have HQ := Lib.hid hq
      obtain ⟨a, ha⟩ : ∃ a : Nat, 1 + j + q = a := ⟨_, rfl⟩
      have hda := fun (w : World) => dataAt_any (D := D) (j := j) (w := w) q hj hqb
      rw [ha] at hda
      have HDA := Lib.hid hda
      have HA := Lib.hid ha
      have hab : a ≤ 10000 := by omega
      clear ha hda h2 h3 hp hbt ho hxl hcs hb q0 q1 hq hl2
      go_wp2_with fail
      go_region_held3 (fun w' => w'.cell? ⟨wr.heap.size, 0, none⟩ = some (.int .i64 q) ∧ w'.cell? ⟨wr.heap.size, 1, none⟩ = some (.slice Q m2 k2) ∧ w'.cell? ⟨w.heap.size, 0, none⟩ = some (.pointer (some ⟨D, 0, none⟩)) ∧ w'.cell? ⟨w.heap.size, 1, none⟩ = some (.int .i64 j))
        (first | exact ⟨f0, f1, f3, f4⟩ | exact ⟨cell_below e0 (new_below _ _), cell_below e1 (new_below _ _), cell_below e3 (new_below _ _), cell_below e4 (new_below _ _)⟩ | exact ⟨e0, e1, e3, e4⟩ | exact ⟨k0, k1, k3, k4⟩)
        (first
          | (go_at_call 15; refine (HDA.out _).mono ?_; rintro e w5 ⟨rfl, hW⟩; have e0 := cell_drew k0 hW; have e1 := cell_drew k1 hW; have e3 := cell_drew k3 hW; have e4 := cell_drew k4 hW; have H5 := Lib.hid (And.intro (below_drew HB.out hW) (blk_drew (Blk.new wr 55 [.int .i64 (q : Int), .slice Q m2 k2]) hW)); clear hW)
          | (refine step_append_lies _ rfl (.tmp 15) (.tmp 23) 57 rfl w.heap.size 55 i0 (.agg #[.int .i64 0, .slice none 0 0]) 2 32 Tryd.underlying57 HI.out.1 HI.out.2.1 HI.out.2.2.1 HI.out.2.2.2 rfl (by decide) u5 i cells rfl ((own_below HR.out.2.2.2.2.1 H5.out.1).alloc _) ⟨w5.heap.size, 0, none⟩ 1 1 [.int .i64 (a : Int), .slice Q m2 k2] rfl rfl (new_row w5 [_, _] 55) (pair_one _ _ _ _) (by decide) (by unfold maxLen; omega) (by omega) (by have := H5.out.1.size; simp; omega) (w5.heap.size + 1) (by simp) ?_; intro g3 cap3 w6 ho6 hg6 hw6 hl6; have hown5 := (own_below HR.out.2.2.2.2.1 H5.out.1).alloc (.cells #[.int .i64 (a : Int), .slice Q m2 k2] 55); have hbk6 := (H5.out.2.alloc (.cells #[.int .i64 (a : Int), .slice Q m2 k2] 55)).grown hg6 (fun e => by have := (HR.out.2.2.2.2.1.lt _ e.symm).2; omega); have hly5 := (HR.out.1.below H5.out.1 HR.out.1.lt).alloc (.cells #[.int .i64 (a : Int), .slice Q m2 k2] 55); have hly6 := hly5.grown hg6 (fun e => own_blk_ne hown5 hly5 (by decide) e.symm); have ⟨f0, f1⟩ := blk_pair hbk6; have ⟨f3, f4⟩ := blk_pair hly6; have H6 := Lib.hid (And.intro ho6 (And.intro hg6 (And.intro hown5 hly6))); clear ho6 hg6 hw6 hl6 hown5 hbk6 hly5 hly6))
      go_wp2_with fail
      have hb5 := new_below w5 (.cells #[.int .i64 (a : Int), .slice Q m2 k2] 55)
      have hbel5 := below_of H5.out.1 hb5
      have hbel6 : Below w.heap.size w w6 := (HR.out.2.1.trans (hbel5.mono hsz)).grown H6.out.2.1 (by have := hbel5.size; omega) (fun q hq => own_ge H6.out.2.2.1 q hq)
      have how6 : OWrs w.heap.size A w6 (.slice (some ⟨g3, 0, none⟩) (i + 1) cap3) (i + 1) (dataOf j (ws.take i) ++ [((a : Int), p.2)]) := by
        refine OWrs.add H6.out.2.2.1 HR.out.2.2.2.2.2.1 H6.out.2.1 (fun jj pp hpp => ?_) rfl H6.out.1 (fun jj pp hpp => ?_)
        · obtain ⟨c0, u, c1, hu⟩ := HR.out.2.2.2.2.2.2 jj pp hpp
          exact ⟨c0, u, c1, hu.below hbel5⟩
        · match jj, hpp with
          | 0, hpp =>
            simp only [List.getElem?_cons_zero, Option.some.injEq] at hpp
            subst hpp
            exact ⟨rfl, _, rfl, HR.out.2.2.2.1.below hbel5⟩
      have HE := Lib.hid (And.intro how6 (And.intro H6.out.2.2.2 hbel6))
      clear hb5 hbel5 hbel6 how6
      go_roundw
      case rel =>
        refine ⟨i + 1, by omega, by go_num, ?_, HE.out.2.1, HE.out.2.2⟩
        rw [dataOf_take HR.out.2.2.1, show (1 + j + p.1.toNat : Nat) = a by have := HQ.out; have := HA.out; omega]
        exact HE.out.1
      case measure => simp [intOf]; omega
    · obtain rfl : i = m := by omega
      rw [List.take_of_length_le (by have := H0.out.2.2.2.2; omega)] at h1
      have HF := Lib.hid (And.intro h1 h3)
      clear h1 h2 h3
      go_wp2_with fail
      go_ret
      exact ⟨_, rfl, HF.out.1, HF.out.2⟩

theorem quad_one (n n' : Int) (Q Q' : Option Addr) (m k m' k' : Nat) : ∀ u ∈ [Value.int .i64 n, .slice Q m k, .int .i64 n', .slice Q' m' k'], u.oneCell' = true := by
  intro u hu
  simp only [List.mem_cons, List.not_mem_nil, or_false] at hu
  rcases hu with rfl | rfl | rfl | rfl <;> rfl

set_option maxHeartbeats 2000000 in
theorem inJournal_any (ks : List B32) (w : World) (A : Nat → Prop) (D j num m : Nat) (P : Option Addr) (c : Nat) (ws : List (Int × List B8)) (hK : Roots ks w) (hw : Wrs A w (.slice P m c) ws) (hj : j ≤ 4096) (hm : m ≤ 15) (hnum : num ≤ 9223372036854775807)
    (hok : ∀ p ∈ ws, 0 ≤ p.1 ∧ p.1 ≤ 4294967296 ∧ p.2.length = 64) :
    Calls Tryd.prog 22 #[lay_ D j, .agg #[.int .i64 num, .slice P m c]] w fun e w' => ∃ v, e = .returned v ∧ OWrs w.heap.size (fun g => A g ∨ w.heap.size ≤ g) w' v (2 * m) (jrnOf num m (digOf ks num ws) ws) ∧ Below w.heap.size w w' := by
  have hlen := hw.len
  have hpos := hK.pos
  have hz := zero32
  obtain ⟨i0, hi, hz0, hz1, hz2⟩ := info_parts writeInfo
  have HI := Lib.hid (And.intro hi (And.intro hz0 (And.intro hz1 hz2)))
  have hb1 := new_below w (.cells #[.pointer (some ⟨D, 0, none⟩), .int .i64 (j : Int)] 35)
  have hk1 := Blk.new w 35 [.pointer (some ⟨D, 0, none⟩), .int .i64 (j : Int)]
  have hb2 := new_below (w.alloc (.cells #[.pointer (some ⟨D, 0, none⟩), .int .i64 (j : Int)] 35)) (.cells #[.int .i64 num, .slice P m c] 60)
  have hk2 := Blk.new (w.alloc (.cells #[.pointer (some ⟨D, 0, none⟩), .int .i64 (j : Int)] 35)) 60 [.int .i64 num, .slice P m c]
  rw [World.size_alloc] at hk2
  have hk1' := hk1.below hb2 hk1.lt
  have H0 := Lib.hid (And.intro (below_of hb1 hb2) (And.intro hk1' (And.intro hk2 (And.intro hK (And.intro hw (And.intro hok hlen))))))
  clear hb1 hk1 hb2 hk2 hk1' hK hw hok hlen hi hz0 hz1 hz2
  go_enter Tryd.func22, Tryd.ntmps22
  go_wp2_with fail
  refine (digest_any ks _ A num m P c ws (H0.out.2.2.2.1.below H0.out.1 hpos) (H0.out.2.2.2.2.1.below H0.out.1) hnum hm H0.out.2.2.2.2.2.1).mono ?_
  rintro e w1 ⟨rfl, h1⟩
  have hd := digOf_length ks num ws
  have H1 := Lib.hid (And.intro (below_of H0.out.1 h1) (And.intro (H0.out.2.1.below h1 H0.out.2.1.lt) (H0.out.2.2.1.below h1 H0.out.2.2.1.lt)))
  clear h1
  have HDD := Lib.hid (rfl : digOf ks num ws = digOf ks num ws)
  generalize hde : digOf ks num ws = d at hd ⊢
  have HD := Lib.hid hd
  have HDE := Lib.hid hde
  clear hd hde HDD
  go_wp2_with (refine wpList_store_blk rfl 80 (.tmp 6) (.tmp 11) rfl w1.heap.size 0 (Vb d) rfl rfl (Blk.new w1 80 (List.replicate 32 (.int .u8 0))) (by simp [Vb_length, HD.out]) (info31.trans (by simp [Vb_length, HD.out])) (Vb_oneCell _) ?_; intro w2 hA hO; rw [over_whole (by simp [Vb_length, HD.out])] at hA; have hb2 := (new_below w1 (.cells (List.replicate 32 (Value.int .u8 0)).toArray 80)).trans (hO.below (B := w1.heap.size) (by simp) (by simp)); have ⟨t0, t1⟩ := blk_pair (H1.out.2.2.below hb2 H1.out.2.2.lt); have H2 := Lib.hid (And.intro (below_of H1.out.1 hb2) (And.intro (H1.out.2.1.below hb2 H1.out.2.1.lt) (And.intro (H1.out.2.2.below hb2 H1.out.2.2.lt) hA))); clear hA hO hb2)
  clear t0 t1
  have hb6 : w.heap.size + 1 < w1.heap.size := H1.out.2.2.lt
  clear H1
  generalize w1.heap.size = b6 at *
  go_loopw [15, 5] (fun iv tv wx => ∃ i : Nat, i ≤ m ∧ iv = .int .i64 i ∧ OWrs w.heap.size (fun g => A g ∨ w.heap.size ≤ g) wx tv (2 * i) (jrnOf num m d (ws.take i)) ∧ Blk wx w.heap.size 35 [.pointer (some ⟨D, 0, none⟩), .int .i64 (j : Int)] ∧ Blk wx (w.heap.size + 1) 60 [.int .i64 num, .slice P m c] ∧ Blk wx b6 80 (Vb d) ∧ Below w.heap.size w wx) (fun iv _ _ => m - (intOf iv).toNat)
  case atStart => exact ⟨0, Nat.zero_le _, rfl, OWrs.empty _ _ _, H2.out.2.1, H2.out.2.2.1, H2.out.2.2.2, H2.out.1⟩
  case round =>
    clear H2
    obtain ⟨i, hi, rfl, h1, h2, h3, h5, h4⟩ := hrel
    by_cases hlt : i < m
    · obtain ⟨p, hp⟩ : ∃ p, ws[i]? = some p := ⟨_, List.getElem?_eq_getElem (by have := H0.out.2.2.2.2.2.2; omega)⟩
      have hwr := H0.out.2.2.2.2.1.below h4
      obtain ⟨g, Q, m2, k2, rfl, hg, hAg, c0, c1, hl2, hbt, hmk, hk⟩ := hwr.at_ hp
      obtain ⟨q0, q1, q2⟩ := H0.out.2.2.2.2.2.1 p (List.mem_of_getElem? hp)
      obtain ⟨q, hq⟩ : ∃ q : Nat, p.1 = q := ⟨p.1.toNat, by omega⟩
      rw [hq] at c0
      have hqb : q ≤ 4294967296 := by omega
      obtain ⟨cells, ho, hxl, hcs⟩ := h1
      have hsz := h4.size
      have hl0 := h2.lt
      have hl1 := h3.lt
      have hl6 := h5.lt
      have ⟨y0, y1⟩ := blk_pair h2
      have HR := Lib.hid (And.intro h2 (And.intro h3 (And.intro h5 (And.intro h4 (And.intro hp (And.intro hbt (And.intro ho (And.intro hxl (And.intro hcs hwr)))))))))
      have HQ := Lib.hid hq
      obtain ⟨a, ha⟩ : ∃ a : Nat, 1 + 2 * i = a := ⟨_, rfl⟩
      have hda := fun (w : World) => noteAt_any (D := D) (j := j) (w := w) i (by omega)
      rw [ha] at hda
      have HDA := Lib.hid hda
      have HA := Lib.hid ha
      have hab : a ≤ 10000 := by omega
      clear ha hda h2 h3 h5 h4 hp hbt ho hxl hcs q0 q1 hq hl2 q2 hwr
      go_wp2_with fail
      refine (HDA.out _).mono ?_
      rintro e w5 ⟨rfl, hW⟩
      have hb := below_of (new_below wr (.cells #[.int .i64 (q : Int), .slice Q m2 k2] 55)) hW
      have hkw := (Blk.new wr 55 [.int .i64 (q : Int), .slice Q m2 k2]).below hW (by simp)
      have ⟨k0, k1⟩ := blk_pair hkw
      have ⟨k3, k4⟩ := blk_pair (HR.out.2.1.below hb HR.out.2.1.lt)
      have k5 := (HR.out.2.2.1.below hb HR.out.2.2.1.lt).range
      have H5 := Lib.hid (And.intro hb (And.intro hkw (And.intro (HR.out.1.below hb HR.out.1.lt) (And.intro (HR.out.2.1.below hb HR.out.2.1.lt) (HR.out.2.2.1.below hb HR.out.2.2.1.lt)))))
      clear hW hb hkw y0 y1
      have hu32 := Tryd.underlying80
      have hi32 : (Tryd.prog.info? 80).map (·.size) = some (Vb d).length := info31.trans (by simp [Vb_length, HD.out])
      go_wp2_with fail
      have hm4 : m ≤ 1024 := by omega
      have h2p : 0 < 2 := by decide
      have h63 : 2 * i + 2 ≤ maxLen := by unfold maxLen; omega
      have hby : (2 * i + 2) * 32 ≤ 140737488355328 := by omega
      have hwa : IntKind.i64.wrap ((a : Int) + 1) = (a : Int) + 1 := IntWalk.i64_in _ (by omega)
      go_region_held3 (fun w' => w'.cell? ⟨w.heap.size + 1, 0, none⟩ = some (.int .i64 num) ∧ w'.cell? ⟨w.heap.size + 1, 1, none⟩ = some (.slice (some ⟨g, 0, none⟩) m c) ∧ w'.rangeAt b6 0 (Vb d) ∧ w'.cell? ⟨wr.heap.size, 1, none⟩ = some (.slice Q m2 k2))
        (first | exact ⟨f3, f4, f5, f1⟩ | exact ⟨cell_below e3 (new_below _ _), cell_below e4 (new_below _ _), (H7.out.2.2.2.2.1.alloc _).range, cell_below e1 (new_below _ _)⟩ | exact ⟨e3, e4, e5, e1⟩ | exact ⟨k3, k4, k5, k1⟩)
        (first
          | (go_at_call 39; refine (note_any _ A num m _ c ws i p q d (HR.out.2.2.2.2.2.2.2.2.2.below (H5.out.1.trans ((drew_below _).mono H5.out.1.size))) HR.out.2.2.2.2.1 HQ.out hqb hnum hm4 HD.out).mono ?_; rintro e w7 ⟨gn, rfl, hgn, hB, hW⟩; have e3 := cell_drew k3 hW; have e4 := cell_drew k4 hW; have e5 := (blk_drew H5.out.2.2.2.2 hW).range; have e1 := cell_drew k1 hW; have H7 := Lib.hid (And.intro (below_drew H5.out.1 hW) (And.intro (blk_drew H5.out.2.1 hW) (And.intro (blk_drew H5.out.2.2.1 hW) (And.intro (blk_drew H5.out.2.2.2.1 hW) (And.intro (blk_drew H5.out.2.2.2.2 hW) hB))))); have hgn' : w.heap.size ≤ gn := Nat.le_trans hsz (Nat.le_trans H5.out.1.size hgn); clear hB hW hgn)
          | (refine step_append_lies _ rfl (.tmp 23) (.tmp 35) 57 rfl w.heap.size 55 i0 (.agg #[.int .i64 0, .slice none 0 0]) 2 32 Tryd.underlying57 HI.out.1 HI.out.2.1 HI.out.2.2.1 HI.out.2.2.2 rfl (by decide) u5 (2 * i) cells rfl ((own_below HR.out.2.2.2.2.2.2.1 H7.out.1).alloc _) ⟨w7.heap.size, 0, none⟩ 2 2 [.int .i64 (a : Int), .slice (some ⟨gn, 0, none⟩) 64 64, .int .i64 ((a : Int) + 1), .slice Q m2 k2] rfl rfl (new_row w7 [_, _, _, _] 55) (quad_one _ _ _ _ _ _ _ _) h2p h63 hby (Nat.le_trans hsz (Nat.le_trans H7.out.1.size (new_below w7 _).size)) (w7.heap.size + 1) (by simp) ?_; intro g3 cap3 w8 ho8 hg8 hw8 hl8; have hown7 := (own_below HR.out.2.2.2.2.2.2.1 H7.out.1).alloc (.cells #[.int .i64 (a : Int), .slice (some ⟨gn, 0, none⟩) 64 64, .int .i64 ((a : Int) + 1), .slice Q m2 k2] 55); have hk8 := (H7.out.2.1.alloc (.cells #[.int .i64 (a : Int), .slice (some ⟨gn, 0, none⟩) 64 64, .int .i64 ((a : Int) + 1), .slice Q m2 k2] 55)).grown hg8 (fun e => Nat.lt_irrefl _ (HR.out.2.2.2.2.2.2.1.lt _ e.symm).2); have hy7 := H7.out.2.2.1.alloc (.cells #[.int .i64 (a : Int), .slice (some ⟨gn, 0, none⟩) 64 64, .int .i64 ((a : Int) + 1), .slice Q m2 k2] 55); have hy8 := hy7.grown hg8 (fun e => own_blk_ne hown7 hy7 (by decide) e.symm); have ht7 := H7.out.2.2.2.1.alloc (.cells #[.int .i64 (a : Int), .slice (some ⟨gn, 0, none⟩) 64 64, .int .i64 ((a : Int) + 1), .slice Q m2 k2] 55); have ht8 := ht7.grown hg8 (fun e => own_blk_ne hown7 ht7 (by decide) e.symm); have hd7 := H7.out.2.2.2.2.1.alloc (.cells #[.int .i64 (a : Int), .slice (some ⟨gn, 0, none⟩) 64 64, .int .i64 ((a : Int) + 1), .slice Q m2 k2] 55); have hd8 := hd7.grown hg8 (fun e => own_blk_ne hown7 hd7 (by decide) e.symm); have ⟨f0, f1⟩ := blk_pair hk8; have ⟨f3, f4⟩ := blk_pair ht8; have f5 := hd8.range; have H8 := Lib.hid (And.intro ho8 (And.intro hg8 (And.intro hown7 (And.intro hy8 (And.intro ht8 hd8))))); clear ho8 hg8 hw8 hl8 hown7 hk8 hy7 hy8 ht7 ht8 hd7 hd8))
      clear hwa
      go_wp2_with fail
      have hb7 := new_below w7 (.cells #[.int .i64 (a : Int), .slice (some ⟨gn, 0, none⟩) 64 64, .int .i64 ((a : Int) + 1), .slice Q m2 k2] 55)
      have hbel7 := below_of H7.out.1 hb7
      have hbel8 : Below w.heap.size w w8 := (HR.out.2.2.2.1.trans (hbel7.mono hsz)).grown H8.out.2.1 (by have := hbel7.size; omega) (fun q hq => own_ge H8.out.2.2.1 q hq)
      have how8 : OWrs w.heap.size (fun g => A g ∨ w.heap.size ≤ g) w8 (.slice (some ⟨g3, 0, none⟩) (2 * i + 2) cap3) (2 * i + 2) (jrnOf num m d (ws.take i) ++ [((a : Int), noteB num i m q d), ((a : Int) + 1, p.2)]) := by
        refine OWrs.add H8.out.2.2.1 HR.out.2.2.2.2.2.2.2.1 H8.out.2.1 (fun jj pp hpp => ?_) rfl H8.out.1 (fun jj pp hpp => ?_)
        · obtain ⟨c0, u, c1, hu⟩ := HR.out.2.2.2.2.2.2.2.2.1 jj pp hpp
          exact ⟨c0, u, c1, hu.below hbel7⟩
        · match jj, hpp with
          | 0, hpp =>
            simp only [List.getElem?_cons_zero, Option.some.injEq] at hpp
            subst hpp
            exact ⟨rfl, _, rfl, (Bts.whole H7.out.2.2.2.2.2 (.inl rfl) (.inr hgn') (noteB_length _ _ _ _ HD.out) (by omega)).below hb7⟩
          | 1, hpp =>
            simp only [List.getElem?_cons_zero, List.getElem?_cons_succ, Option.some.injEq] at hpp
            subst hpp
            exact ⟨rfl, _, rfl, (HR.out.2.2.2.2.2.1.mono (fun g h _ => .inl h)).below hbel7⟩
      have HE := Lib.hid (And.intro how8 (And.intro H8.out.2.2.2.1 (And.intro H8.out.2.2.2.2.1 (And.intro H8.out.2.2.2.2.2 hbel8))))
      clear hb7 hbel7 hbel8 how8
      go_roundw
      case rel =>
        refine ⟨i + 1, by omega, by go_num, ?_, HE.out.2.1, HE.out.2.2.1, HE.out.2.2.2.1, HE.out.2.2.2.2⟩
        have e1 : ((1 + 2 * i : Nat) : Int) = (a : Int) := by rw [HA.out]
        have e2 : ((1 + 2 * i + 1 : Nat) : Int) = (a : Int) + 1 := by rw [HA.out]; rfl
        rw [jrnOf_take HR.out.2.2.2.2.1, e1, e2, show p.1.toNat = q by have := HQ.out; omega, show 2 * (i + 1) = 2 * i + 2 by omega]
        exact HE.out.1
      case measure => simp [intOf]; omega
    · obtain rfl : i = m := by omega
      rw [List.take_of_length_le (by have := H0.out.2.2.2.2.2.2; omega)] at h1
      have HF := Lib.hid (And.intro h1 h4)
      clear h1 h2 h3 h5 h4
      go_wp2_with fail
      go_ret
      refine ⟨_, rfl, ?_, HF.out.2⟩
      rw [HDE.out]
      exact HF.out.1
end Go.Proofs.YtfkdpndcoegfpaaDoor
end

/-
  lay: sectors of a disk, written in order, and flushed. Conditions: the disk has power that never goes; the sectors are there, the bytes are a sector's.
-/

section
set_option maxRecDepth 100000
set_option linter.unusedSimpArgs false
set_option linter.unusedVariables false
namespace Go.Proofs.YtfkdpndcoegfpaaDoor
open Go.RowKit

/-- Sectors behind writes, in order. -/
def layS (S : Nat → List B8) (ws : List (Int × List B8)) : Nat → List B8 := ws.foldl (fun S p => upd S p.1.toNat p.2) S
theorem layS_snoc (S : Nat → List B8) (ws : List (Int × List B8)) (p : Int × List B8) : layS S (ws ++ [p]) = upd (layS S ws) p.1.toNat p.2 := by simp [layS]
set_option maxHeartbeats 1000000 in
theorem jlay_any (B : Nat) (w : World) (D L n j : Nat) (S : Nat → List B8) (cw cf : Nat) (A : Nat → Prop) (P : Option Addr) (m c : Nat) (ws : List (Int × List B8)) (hd : Idle B D L n S cw cf w) (hB : B ≤ w.heap.size)
    (hw : Wrs A w (.slice P m c) ws) (hA : ∀ g, A g → g ∉ [D, L]) (hok : ∀ p ∈ ws, 0 ≤ p.1 ∧ p.1 < n ∧ p.2.length = 64) (hcw : cw + m < 1000000) (hcf : cf < 1000000) :
    Calls Tryd.prog 21 #[lay_ D j, .slice P m c] w fun e w' => e = .returned (.int .i64 0) ∧ Idle B D L n (layS S ws) (cw + m) (cf + 1) w' ∧ Stp B [D, L] w w' := by
  have hlen := hw.len
  have hm : m ≤ 9223372036854775807 := by obtain ⟨P', c', e, h1, h2⟩ := hw.form; cases e; omega
  have hb := new_below w (.cells #[.pointer (some ⟨D, 0, none⟩), .int .i64 (j : Int)] 35)
  have hblk := Blk.new w 35 [.pointer (some ⟨D, 0, none⟩), .int .i64 (j : Int)]
  have hDs := hd.lt.2.2.1
  have hLs := hd.lt.2.2.2
  have H := Lib.hid (And.intro (hd.below hb).calm (And.intro (hw.below hb) (And.intro hblk (And.intro (Stp.of_below (X := [D, L]) hB hb) (And.intro hA (And.intro hok hlen))))))
  clear hd hw hb hblk hA hok hlen
  go_enter Tryd.func21, Tryd.ntmps21
  go_wp2_with fail
  go_loopw [10] (fun iv wx => ∃ i : Nat, i ≤ m ∧ iv = .int .i64 i ∧ Calm B D L n (layS S (ws.take i)) (cw + i) cf wx ∧ Blk wx w.heap.size 35 [.pointer (some ⟨D, 0, none⟩), .int .i64 (j : Int)] ∧ Wrs A wx (.slice P m c) ws ∧ Stp B [D, L] w wx) (fun iv _ => m - (intOf iv).toNat)
  case atStart => exact ⟨0, Nat.zero_le _, rfl, H.out.1, H.out.2.2.1, H.out.2.1, H.out.2.2.2.1⟩
  case round =>
    obtain ⟨i, hi, rfl, h1, h2, h3, h4⟩ := hrel
    have cD := h2.cell 0
    have hs := h2.lt
    have HR := Lib.hid (And.intro h1 (And.intro h2 (And.intro h3 h4)))
    clear h1 h2 h3 h4
    by_cases hlt : i < m
    · obtain ⟨p, hp⟩ : ∃ p, ws[i]? = some p := ⟨_, List.getElem?_eq_getElem (by have := H.out.2.2.2.2.2.2; omega)⟩
      obtain ⟨g, Q, m2, k2, rfl, hg, hAg, c0, c1, hl2, hbt, hmk, hk⟩ := HR.out.2.2.1.at_ hp
      obtain ⟨q0, q1, q2⟩ := H.out.2.2.2.2.2.1 p (List.mem_of_getElem? hp)
      have HP := Lib.hid (And.intro hp (And.intro hbt (And.intro q1 q2)))
      clear hp hbt q1 q2 hl2
      go_wp2_with fail
      have hb := new_below wr (.cells #[.int .i64 p.1, .slice Q m2 k2] 55)
      have hsB : B ≤ wr.heap.size := Nat.le_trans hB HR.out.2.2.2.size
      refine (write_calm (HR.out.1.below hb) (Nat.le_trans hsB hb.size) (HP.out.2.1.below hb) (fun g hg e => H.out.2.2.2.2.1 g hg (by simp [e])) q0 HP.out.2.2.1 HP.out.2.2.2 (by omega)).mono ?_
      rintro e w2 ⟨rfl, h1, h2⟩
      have hst := (Stp.of_below (X := [D, L]) hsB hb).trans h2
      have H2 := Lib.hid (And.intro h1 (And.intro (hst.keep _ _ _ (by decide) (by simp; omega) HR.out.2.1) (And.intro (HR.out.2.2.1.stp hst H.out.2.2.2.2.1) (HR.out.2.2.2.trans hst))))
      clear h1 h2 hst hb
      go_wp2_with fail
      go_roundw
      case rel =>
        refine ⟨i + 1, by omega, by go_num, ?_, H2.out.2.1, H2.out.2.2.1, H2.out.2.2.2⟩
        rw [take_snoc_ HP.out.1, layS_snoc]
        exact H2.out.1
      case measure => simp [intOf]; omega
    · obtain rfl : i = m := by omega
      go_wp2_with fail
      refine (flush_calm HR.out.1 (Nat.le_trans hB HR.out.2.2.2.size) hcf).mono ?_
      rintro e w2 ⟨rfl, h1, h2⟩
      have HE := Lib.hid (And.intro h1 (HR.out.2.2.2.trans h2))
      clear h1 h2
      go_wp2_with fail
      go_ret
      refine ⟨rfl, ?_, HE.out.2⟩
      have := HE.out.1
      rw [List.take_of_length_le (by have := H.out.2.2.2.2.2.2; omega)] at this
      exact this
end Go.Proofs.YtfkdpndcoegfpaaDoor
end

/-
  finish: a transaction's writes to the data, then the head. Conditions: the disk has power that never goes; the sectors are there.
-/

section
set_option maxRecDepth 100000
set_option linter.unusedSimpArgs false
set_option linter.unusedVariables false
namespace Go.Proofs.YtfkdpndcoegfpaaDoor
open Go.RowKit

/-- The cells of a log. -/
def logCells (D j : Nat) (x : Int × Int) (done : Nat) (red : Bool) : List Value := [.pointer (some ⟨D, 0, none⟩), .int .i64 (j : Int), .int .u32 x.1, .int .i32 x.2, .int .u32 0, .int .i64 (done : Int), .bool red]
theorem log_cells {w : World} {G D j done : Nat} {x : Int × Int} {red : Bool} {t : TypeId} (h : Blk w G t (logCells D j x done red)) :
    w.cell? ⟨G, 0, none⟩ = some (.pointer (some ⟨D, 0, none⟩)) ∧ w.cell? ⟨G, 1, none⟩ = some (.int .i64 (j : Int)) ∧ w.cell? ⟨G, 5, none⟩ = some (.int .i64 (done : Int)) ∧ w.cell? ⟨G, 6, none⟩ = some (.bool red) :=
  ⟨h.cell 0, h.cell 1, h.cell 5, h.cell 6⟩

theorem OWrs.toWrs {N n : Nat} {A : Nat → Prop} {w : World} {v : Value} {X : List (Int × List B8)} (h : OWrs N A w v n X) : Wrs (fun g => A g ∨ N ≤ g) w v X := by
  obtain ⟨cells, h1, h3, h4⟩ := h
  exact OWrs.wrs (A := fun g => A g ∨ N ≤ g) ⟨cells, h1, h3, fun j p hp => by
    obtain ⟨c0, u, c1, hu⟩ := h4 j p hp
    exact ⟨c0, u, c1, hu.mono (fun g hg _ => .inl hg)⟩⟩ (fun g hg => .inr hg)
theorem OWrs.form {N n : Nat} {A : Nat → Prop} {w : World} {v : Value} {X : List (Int × List B8)} (h : OWrs N A w v n X) : ∃ P c, v = .slice P n c := by
  obtain ⟨P, c, e, _⟩ := h.toWrs.form
  obtain ⟨_, _, h3, _⟩ := h
  exact ⟨P, c, by rw [e, h3]⟩
theorem idle_drew {B D L n : Nat} {S : Nat → List B8} {cw cf : Nat} {w w' : World} (h : Idle B D L n S cw cf w) (hb : Below w.drew.heap.size w.drew w') : Idle B D L n S cw cf w' := (h.below (drew_below w)).below hb
theorem dataOf_ok {n j : Nat} {ws : List (Int × List B8)} (hj : j + 1 < n) (hok : ∀ p ∈ ws, 0 ≤ p.1 ∧ p.1 < (n - j - 1 : Nat) ∧ p.2.length = 64) : ∀ p ∈ dataOf j ws, 0 ≤ p.1 ∧ p.1 < n ∧ p.2.length = 64 := by
  intro p hp
  unfold dataOf at hp
  obtain ⟨q, hq, rfl⟩ := List.mem_map.1 hp
  obtain ⟨h1, h2, h3⟩ := hok q hq
  refine ⟨?_, ?_, h3⟩
  · show (0 : Int) ≤ ((1 + j + q.1.toNat : Nat) : Int)
    omega
  · show ((1 + j + q.1.toNat : Nat) : Int) < (n : Int)
    omega

theorem Wrs.one {A : Nat → Prop} {w : World} {g : Nat} {no : Int} {Q : Option Addr} {m k : Nat} {b : List B8} (hb : Blk w g 55 [.int .i64 no, .slice Q m k]) (hA : A g) (hu : Bts A w (.slice Q m k) b) : Wrs A w (.slice (some ⟨g, 0, none⟩) 1 1) [(no, b)] := by
  refine .inr ⟨g, 1, _, rfl, hA, hb, Nat.le_refl _, by unfold maxLen; decide, fun i p hp => ?_⟩
  match i, hp with
  | 0, hp =>
    simp only [List.getElem?_cons_zero, Option.some.injEq] at hp
    subst hp
    exact ⟨rfl, _, rfl, hu⟩

theorem stp_set {B G o : Nat} {w : World} (hB : B ≤ w.heap.size) (hG : B ≤ G) (u : Value) : Stp B [G] w (w.setCell ⟨G, o, none⟩ u) :=
  ⟨((Only.refl [G] w).setCell (.inl (by simp)) u).below hB (fun k hk => by simp only [List.mem_singleton] at hk; omega), fun g t cs _ h2 hb => hb.only ((Only.refl [G] w).setCell (.inl (by simp)) u) h2, (KeepsOthers.setCell w _ u).same⟩

set_option maxHeartbeats 2000000 in
theorem finish_any (ks : List B32) (B : Nat) (w : World) (D L G n j : Nat) (S : Nat → List B8) (cw cf : Nat) (A : Nat → Prop) (P : Option Addr) (m c num done : Nat) (x : Int × Int) (red : Bool) (ws : List (Int × List B8))
    (hd : Idle B D L n S cw cf w) (hB : B ≤ w.heap.size) (hK : Roots ks w) (hG : Blk w G 49 (logCells D j x done red)) (hKB : 1 < B) (hBG : B ≤ G) (hw : Wrs A w (.slice P m c) ws) (hA : ∀ g, A g → g ∉ [D, L, G])
    (hj : j + 1 < n) (hok : ∀ p ∈ ws, 0 ≤ p.1 ∧ p.1 < (n - j - 1 : Nat) ∧ p.2.length = 64) (hm : m ≤ 1024) (hnum : num ≤ 9223372036854775807) (hcw : cw + m + 1 < 1000000) (hcf : cf + 1 < 1000000) :
    Calls Tryd.prog 23 #[.pointer (some ⟨G, 0, none⟩), .agg #[.int .i64 num, .slice P m c]] w fun e w' => e = .returned (.int .i64 0) ∧
      Idle B D L n (upd (layS S (dataOf j ws)) 0 (headB ks num)) (cw + m + 1) (cf + 2) w' ∧ Blk w' G 49 (logCells D j x num red) ∧ Stp B [D, L, G] w w' := by
  have hnb := hd.bound
  have hlen := hw.len
  have hb1 := new_below w (.cells #[.int .i64 num, .slice P m c] 60)
  have hk1 := Blk.new w 60 [.int .i64 num, .slice P m c]
  have ⟨t0, t1⟩ := blk_pair hk1
  have ⟨g0, g1, g5, g6⟩ := log_cells (hG.below hb1 hG.lt)
  have hlt := hd.lt
  have hGl := hG.lt
  have hDG : D ≠ G := by
    rintro rfl
    obtain ⟨s, hs, _⟩ := hd
    exact absurd (hG.same hs.disk).1 (by decide)
  have hLG : L ≠ G := by
    rintro rfl
    obtain ⟨s, hs, _⟩ := hd
    exact absurd (hG.same hs.laid).1 (by decide)
  have H0 := Lib.hid (And.intro hb1 (And.intro hk1 (And.intro (hd.below hb1) (And.intro (hG.below hb1 hG.lt) (And.intro hK (And.intro (hw.below hb1) (And.intro hA (And.intro hok hlen))))))))
  have HN := Lib.hid (And.intro hDG hLG)
  clear hb1 hk1 hd hG hK hw hA hok hlen hDG hLG
  go_enter Tryd.func23, Tryd.ntmps23
  go_wp2_with fail
  go_region_held3 (fun w' => w'.cell? ⟨w.heap.size, 0, none⟩ = some (.int .i64 num) ∧ w'.cell? ⟨w.heap.size, 1, none⟩ = some (.slice P m c) ∧ w'.cell? ⟨G, 0, none⟩ = some (.pointer (some ⟨D, 0, none⟩)) ∧ w'.cell? ⟨G, 1, none⟩ = some (.int .i64 (j : Int)))
    (first | exact ⟨f0, f1, f3, f4⟩ | exact ⟨e0, e1, e3, e4⟩ | exact ⟨t0, t1, g0, g1⟩)
    (first
      | (go_at_call 40; refine (inData_any _ A D j num m P c ws (H0.out.2.2.2.2.2.1.below (drew_below _)) (by omega) hm (fun p hp => by have := H0.out.2.2.2.2.2.2.2.1 p hp; omega)).mono ?_; rintro e w2 ⟨v, rfl, hO, hW⟩; obtain ⟨Pv, cv, rfl⟩ := hO.form; have e0 := cell_drew t0 hW; have e1 := cell_drew t1 hW; have e3 := cell_drew g0 hW; have e4 := cell_drew g1 hW; have H2 := Lib.hid (And.intro (idle_drew H0.out.2.2.1 hW) (And.intro hO.toWrs (And.intro (below_drew H0.out.1 hW) (And.intro (blk_drew H0.out.2.1 hW) (blk_drew H0.out.2.2.2.1 hW))))); clear hO hW)
      | (go_at_call 21; refine (jlay_any B _ D L n j S cw cf _ Pv m cv (dataOf j ws) H2.out.1 (Nat.le_trans hB H2.out.2.2.1.size) H2.out.2.1 (fun g hg => by rcases hg with hg | hg; exact (fun h => H0.out.2.2.2.2.2.2.1 g hg (by simp at h ⊢; rcases h with h | h <;> simp [h])); exact (fun h => by have h2 := hg; simp only [World.size_drew, World.size_alloc] at h2; simp at h; omega)) (dataOf_ok hj H0.out.2.2.2.2.2.2.2.1) (by omega) (by omega)).mono ?_; rintro e w3 ⟨rfl, h1, h2⟩; have hk3 := h2.keep _ _ _ (by decide) (by simp; omega) H2.out.2.2.2.1; have hG3 := h2.keep _ _ _ (by decide) (by have h1 := HN.out.1; have h2 := HN.out.2; simp; omega) H2.out.2.2.2.2; have ⟨f0, f1⟩ := blk_pair hk3; have ⟨f3, f4, _, _⟩ := log_cells hG3; have H3 := Lib.hid (And.intro h1 (And.intro hk3 (And.intro hG3 ((Stp.of_below (X := [D, L]) hB H2.out.2.2.1).trans h2)))); clear h1 h2 hk3 hG3))
  go_wp2_with fail
  clear t0 t1 g0 g1 g5 g6 e0 e1 e3 e4
  have hd3 : D < w3.heap.size ∧ L < w3.heap.size := ⟨H3.out.1.lt.2.2.1, H3.out.1.lt.2.2.2⟩
  go_region_held3 (fun w' => w'.cell? ⟨w.heap.size, 0, none⟩ = some (.int .i64 num) ∧ w'.cell? ⟨G, 0, none⟩ = some (.pointer (some ⟨D, 0, none⟩)) ∧ w'.cell? ⟨G, 1, none⟩ = some (.int .i64 (j : Int)))
    (first | exact ⟨q0, q3, q4⟩ | exact ⟨cell_below e0 (new_below _ _), cell_below e3 (new_below _ _), cell_below e4 (new_below _ _)⟩ | exact ⟨e0, e3, e4⟩ | exact ⟨f0, f3, f4⟩)
    (first
      | (go_at_call 41; refine (head_any ks _ num (H0.out.2.2.2.2.1.below (H3.out.2.2.2.below.trans ((drew_below _).mono (Nat.le_trans hB H3.out.2.2.2.size))) hKB) hnum).mono ?_; rintro e w4 ⟨gh, rfl, hgh, hH, hW⟩; have e0 := cell_drew f0 hW; have e3 := cell_drew f3 hW; have e4 := cell_drew f4 hW; have H4 := Lib.hid (And.intro (idle_drew H3.out.1 hW) (And.intro (blk_drew H3.out.2.1 hW) (And.intro (blk_drew H3.out.2.2.1 hW) (And.intro hH (below_drew (Below.refl _ _) hW))))); have hgh' : w3.heap.size ≤ gh := hgh; clear hH hW hgh)
      | (go_at_call 21; refine (jlay_any B _ D L n j _ (cw + m) (cf + 1) (fun g => w3.heap.size ≤ g) _ 1 1 [(0, headB ks num)] (H4.out.1.below (new_below _ (.cells #[.int .i64 0, .slice (some ⟨gh, 0, none⟩) 64 64] 55))) (by have h1 := (new_below w4 (.cells #[.int .i64 0, .slice (some ⟨gh, 0, none⟩) 64 64] 55)).size; have h2 := H4.out.2.2.2.2.size; have h3 := H3.out.2.2.2.size; omega) (Wrs.one (Blk.new w4 55 [.int .i64 0, .slice (some ⟨gh, 0, none⟩) 64 64]) H4.out.2.2.2.2.size ((Bts.whole H4.out.2.2.2.1 (.inl rfl) hgh' (headB_length _ _) (by omega)).below (new_below _ _))) (fun g hg h => by simp at h; omega) (fun p hp => by simp only [List.mem_singleton] at hp; subst hp; exact ⟨Int.le_refl 0, by show (0 : Int) < n; omega, headB_length _ _⟩) (by omega) (by omega)).mono ?_; rintro e w5 ⟨rfl, h1, h2⟩; have hbb := new_below w4 (.cells #[.int .i64 0, .slice (some ⟨gh, 0, none⟩) 64 64] 55); have hk5 := h2.keep _ _ _ (by decide) (by simp; omega) (H4.out.2.1.below hbb H4.out.2.1.lt); have hG5 := h2.keep _ _ _ (by decide) (by have h1 := HN.out.1; have h2 := HN.out.2; simp; omega) (H4.out.2.2.1.below hbb H4.out.2.2.1.lt); have ⟨q0, _⟩ := blk_pair hk5; have ⟨q3, q4, q5, _⟩ := log_cells hG5; have qf := hG5.frozen 5; have H5 := Lib.hid (And.intro h1 (And.intro hk5 (And.intro hG5 (H3.out.2.2.2.trans ((Stp.of_below (X := [D, L]) (by have h3 := H3.out.2.2.2.size; omega) (below_of H4.out.2.2.2.2 hbb)).trans h2))))); clear h1 h2 hk5 hG5 hbb))
  clear f0 f1 f3 f4 e0 e3 e4
  go_wp2_with fail
  go_ret
  have hs5 := H5.out.2.2.2.size
  have hset := stp_set (o := 5) (Nat.le_trans hB hs5) hBG (.int .i64 num)
  refine ⟨rfl, ?_, H5.out.2.2.1.set_ 5 (.int .i64 num), ?_⟩
  · have h := H5.out.1.stp hset (by have := HN.out.1; simpa using this) (by have := HN.out.2; simpa using this)
    have e : layS (layS S (dataOf j ws)) [(0, headB ks num)] = upd (layS S (dataOf j ws)) 0 (headB ks num) := rfl
    rw [e] at h
    exact h
  · exact (H5.out.2.2.2.mono (by intro k hk _; simp at hk ⊢; rcases hk with h | h <;> simp [h])).trans (hset.mono (by intro k hk _; simp at hk ⊢; simp [hk]))
end Go.Proofs.YtfkdpndcoegfpaaDoor
end

/-
  sync.Once's slow road, the lock free and nothing done yet: the lock is taken, the function is called, 'done' is stored, the lock is let go. Conditions: the once's cells.
-/

section
set_option maxRecDepth 100000
set_option linter.unusedSimpArgs false
set_option linter.unusedVariables false
namespace Go.Proofs.YtfkdpndcoegfpaaDoor

theorem race_disable (w : World) : (callFunc 81 #[]).run Tryd.prog w = .ok (.value (.tuple #[])) w := run_call_mark0 Tryd.func81 (by kernel_rfl) (by kernel_rfl) (by kernel_rfl) .disable (by kernel_rfl) w
theorem race_enable (w : World) : (callFunc 83 #[]).run Tryd.prog w = .ok (.value (.tuple #[])) w := run_call_mark0 Tryd.func83 (by kernel_rfl) (by kernel_rfl) (by kernel_rfl) .enable (by kernel_rfl) w
theorem race_acquire (a : Addr) (w : World) : (callFunc 84 #[.pointer (some a)]).run Tryd.prog w = .ok (.value (.tuple #[])) w := run_call_marked Tryd.func84 (by kernel_rfl) (by kernel_rfl) (by kernel_rfl) .acquire (by kernel_rfl) a w
theorem race_releaseMerge (a : Addr) (w : World) : (callFunc 86 #[.pointer (some a)]).run Tryd.prog w = .ok (.value (.tuple #[])) w := run_call_marked Tryd.func86 (by kernel_rfl) (by kernel_rfl) (by kernel_rfl) .releaseMerge (by kernel_rfl) a w

/-- 'Store(true)' of an atomic bool, entered as a deferred call. -/
theorem store_deferred (a : Addr) (x : Value) (u : FrameMode) (w : World) (hc : w.cell? a = some x) (hz : w.frozen? a = false) :
    CallsD Tryd.prog 58 #[.pointer (some a), .bool true] u w fun e u' w' => u' = u ∧ (e = .returned (.tuple #[]) ∧ w' = w.drew.setCell a (.int .u32 1)) := by
  have hc' : w.drew.cell? a = some x := by go_simp
  have hz' : w.drew.frozen? a = false := by go_simp
  have hst := run_call_store (P := Tryd.prog) Tryd.func73 (by kernel_rfl) (by kernel_rfl) (by kernel_rfl) (by kernel_rfl) (k := .u32) (y := 1) hc' hz'
  go_enter_d Tryd.func58, Tryd.ntmps58
  go_wp2
  go_region_calls
  all_goals (go_end0; exact ⟨rfl, rfl⟩)

/-- Unlock, entered as a deferred call, the lock held and nobody waiting. -/
theorem unlock_deferred (a : Addr) (u : FrameMode) (w : World) (hc : w.cell? a = some (.int .i32 1)) (hz : w.frozen? a = false) :
    CallsD Tryd.prog 57 #[.pointer (some a)] u w fun e u' w' => u' = u ∧ (e = .returned (.tuple #[]) ∧ w' = w.setCell a (.int .i32 0)) := by
  have hd := race_disable
  have he := race_enable
  have hr := race_releaseMerge
  have hadd := run_call_add (P := Tryd.prog) Tryd.func87 (by kernel_rfl) (by kernel_rfl) (by kernel_rfl) .i32 (by kernel_rfl) (y := -1) (s := 0) hc hz (by simp [go_sem]; rfl)
  have hcv := run_convert_to_unsafe (P := Tryd.prog) (src := 128) (dst := 132) Tryd.underlying128 Tryd.underlying132 (by kernel_rfl) hc
  go_enter_d Tryd.func57, Tryd.ntmps57
  go_wp2
  go_end0
  go_wp2
  go_end0
  exact ⟨rfl, rfl⟩

/-- Lock, the lock free. -/
theorem lock_free (a : Addr) (w : World) (hc : w.cell? a = some (.int .i32 0)) (hz : w.frozen? a = false) :
    Calls Tryd.prog 56 #[.pointer (some a)] w fun e w' => e = .returned (.tuple #[]) ∧ w' = w.setCell a (.int .i32 1) := by
  have hd := race_disable
  have he := race_enable
  have ha := race_acquire
  have hcas := run_call_cas_hit (P := Tryd.prog) Tryd.func82 (by kernel_rfl) (by kernel_rfl) (by kernel_rfl) .i32 (by kernel_rfl) (y := 1) hc hz
  have hc' : (w.setCell a (.int .i32 1)).cell? a = some (.int .i32 1) := World.cell?_setCell_same w a _ hc
  have hcv := run_convert_to_unsafe (P := Tryd.prog) (src := 128) (dst := 132) Tryd.underlying128 Tryd.underlying132 (by kernel_rfl) hc'
  go_enter Tryd.func56, Tryd.ntmps56
  go_wp2
  first | go_end0 | (simp only [Exit.inBlock, Exit.then]; refine bodyPost_ret (results_none rfl _ _ _) rfl ?_) | refine bodyPost_ret (results_none rfl _ _ _) rfl ?_
  go_wp2
  go_end0
  exact ⟨rfl, rfl⟩
/-- 'Load' of an atomic bool. -/
theorem once_load (a : Addr) (x : Int) (w : World) (hc : w.cell? a = some (.int .u32 x)) :
    Calls Tryd.prog 43 #[.pointer (some a)] w fun e w' => e = .returned (.bool (x != 0)) ∧ w' = w := by
  have hl := run_call_load (P := Tryd.prog) Tryd.func55 (by kernel_rfl) (by kernel_rfl) (by kernel_rfl) .u32 (by kernel_rfl) hc
  go_enter Tryd.func43, Tryd.ntmps43
  go_wp2
  go_ret
  exact ⟨rfl, rfl⟩
end Go.Proofs.YtfkdpndcoegfpaaDoor
end

/-
  A log is recovered once: Do, over whatever recovering does. Conditions: recovering answers r and leaves the log's own cells; nothing was done yet.
-/

section
set_option maxRecDepth 100000
set_option linter.unusedSimpArgs false
set_option linter.unusedVariables false
namespace Go.Proofs.YtfkdpndcoegfpaaDoor
open Go.RowKit

/-- What recovering leaves. -/
def mendPost (B D L G n j : Nat) (S : Nat → List B8) (cw cf : Nat) (x : Int × Int) (done : Nat) (red : Bool) (r : Int) (w : World) (e : Ending) (w' : World) : Prop :=
  e = .returned (.int .i64 r) ∧ Idle B D L n S cw cf w' ∧ Blk w' G 49 (logCells D j x done red) ∧ Stp B [D, L, G] w w'

section
variable {B D L G n j : Nat} {S : Nat → List B8} {cw cf : Nat} {w : World} {done : Nat} {red : Bool} {r : Int} {p q : Nat} {u : Value}
theorem rec1_any {x : Int × Int} (hm : Calls Tryd.prog 31 #[.pointer (some ⟨G, 0, none⟩)] w (mendPost B D L G n j S cw cf x done red r w)) (hp : Blk w p 22 [.pointer (some ⟨G, 0, none⟩)]) (hq : Blk w q 24 [u])
    (hpX : p ∉ [D, L, G]) (hqX : q ∉ [D, L, G]) (hB : B ≤ w.heap.size) (hBq : B ≤ q) :
    Calls Tryd.prog 30 #[.pointer (some ⟨p, 0, none⟩), .pointer (some ⟨q, 0, none⟩)] w fun e w' => e = .returned (.tuple #[]) ∧ Idle B D L n S cw cf w' ∧ Blk w' G 49 (logCells D j x done red) ∧ Blk w' q 24 [.int .i64 r] ∧ Stp B [D, L, G, q] w w' := by
  have c0 := hp.cell 0
  have H := Lib.hid (And.intro hm (And.intro hp (And.intro hq (And.intro hpX hqX))))
  clear hm hp hq hpX hqX
  simp only [List.getElem?_cons_zero] at c0
  go_enter Tryd.func30, Tryd.ntmps30
  go_wp2_with (go_at_call 31; refine H.out.1.mono ?_; rintro e w2 ⟨rfl, hI, hG, hS⟩; have hq2 := hS.keep q _ _ (by decide) H.out.2.2.2.2 H.out.2.2.1; have q0 := hq2.cell 0; have q1 := hq2.frozen 0; simp only [List.getElem?_cons_zero] at q0; have H2 := Lib.hid (And.intro hI (And.intro hG (And.intro hS hq2))); clear hI hG hS hq2)
  go_end0
  have hs := H2.out.2.2.1.size
  have hset := stp_set (o := 0) (Nat.le_trans hB hs) hBq (.int .i64 r)
  have hqX := H.out.2.2.2.2
  simp only [List.mem_cons, List.not_mem_nil, or_false, not_or] at hqX
  refine ⟨rfl, H2.out.1.stp hset (by simp; exact fun h => hqX.1 h.symm) (by simp; exact fun h => hqX.2.1 h.symm), hset.keep G _ _ (by decide) (by simp; exact fun h => hqX.2.2 h.symm) H2.out.2.1, H2.out.2.2.2.set_ 0 (.int .i64 r), ?_⟩
  exact (H2.out.2.2.1.mono (by intro k hk _; simp at hk ⊢; rcases hk with h | h | h <;> simp [h])).trans (hset.mono (by intro k hk _; simp at hk ⊢; simp [hk]))

set_option maxHeartbeats 1600000 in
theorem slow_any {d0 : Nat} {red0 : Bool} (hG : Blk w G 49 (logCells D j (0, 0) d0 red0)) (hm : Calls Tryd.prog 31 #[.pointer (some ⟨G, 0, none⟩)] (w.setCell ⟨G, 3, none⟩ (.int .i32 1)) (mendPost B D L G n j S cw cf (0, 1) done red r (w.setCell ⟨G, 3, none⟩ (.int .i32 1))))
    (hp : Blk w p 22 [.pointer (some ⟨G, 0, none⟩)]) (hq : Blk w q 24 [u]) (hpX : p ∉ [D, L, G]) (hqX : q ∉ [D, L, G]) (hB : B ≤ w.heap.size) (hBq : B ≤ q) (hBG : B ≤ G) (hDG : D ≠ G) (hLG : L ≠ G) :
    Calls Tryd.prog 44 #[.pointer (some ⟨G, 2, none⟩), .func (.func 30) #[] #[.pointer (some ⟨p, 0, none⟩), .pointer (some ⟨q, 0, none⟩)]] w fun e w' => e = .returned (.tuple #[]) ∧ Idle B D L n S cw cf w' ∧ Blk w' G 49 (logCells D j (1, 0) done red) ∧ Blk w' q 24 [.int .i64 r] ∧ Stp B [D, L, G, q] w w' := by
  have hset := stp_set (w := w) (o := 3) hB hBG (.int .i32 1)
  have hG1 : Blk (w.setCell ⟨G, 3, none⟩ (.int .i32 1)) G 49 (logCells D j (0, 1) d0 red0) := hG.set_ 3 (.int .i32 1)
  have l2 : w.cell? ⟨G, 2, none⟩ = some (.int .u32 0) := hG.cell 2
  have l3 : w.cell? ⟨G, 3, none⟩ = some (.int .i32 0) := hG.cell 3
  have z3 := hG.frozen 3
  have hGp : p ∉ [G] := fun h => hpX (by simp at h ⊢; simp [h])
  have hGq : q ∉ [G] := fun h => hqX (by simp at h ⊢; simp [h])
  have HR := Lib.hid (rec1_any hm (hset.keep p _ _ (by decide) hGp hp) (hset.keep q _ _ (by decide) hGq hq) hpX hqX (by simpa using hB) hBq)
  have HS := Lib.hid (And.intro hset (And.intro hDG (And.intro hLG hqX)))
  have k2 : (w.setCell ⟨G, 3, none⟩ (.int .i32 1)).cell? ⟨G, 2, none⟩ = some (.int .u32 0) := hG1.cell 2
  have hnot : ∀ (x : Bool) (w : World), (Op.unary .not (.bool x)).run Tryd.prog w = .ok (.bool (!x)) w := fun _ _ => rfl
  clear hset hG hG1 hm hp hq hpX hqX hGp hGq
  go_enter_defers Tryd.func44, Tryd.ntmps44
  go_wp2_with (go_at_call 56; refine (lock_free ⟨G, 3, none⟩ _ l3 z3).mono ?_; rintro e w' ⟨rfl, rfl⟩)
  go_wp2_with (go_at_call 43; refine (once_load ⟨G, 2, none⟩ 0 _ k2).mono ?_; rintro e w' ⟨rfl, rfl⟩)
  refine HR.out.mono ?_
  rintro e w2 ⟨rfl, hI, hG2, hq2, hS2⟩
  have m2 : w2.cell? ⟨G, 2, none⟩ = some (.int .u32 0) := hG2.cell 2
  have m3 : w2.cell? ⟨G, 3, none⟩ = some (.int .i32 1) := hG2.cell 3
  have y2 := hG2.frozen 2
  have y3 := hG2.frozen 3
  have H2 := Lib.hid (And.intro hI (And.intro hG2 (And.intro hq2 hS2)))
  clear hI hG2 hq2 hS2
  go_wp2_with fail
  refine leaves_cons (f := 58) (args := #[.pointer (some ⟨G, 2, none⟩), .bool true]) (by simp) (by simp [go_sem]) ?_
  refine (store_deferred ⟨G, 2, none⟩ (.int .u32 0) .returning _ m2 y2).mono ?_
  rintro e u' w'' ⟨rfl, rfl, rfl⟩
  refine leaves_cons (f := 57) (args := #[.pointer (some ⟨G, 3, none⟩)]) (by simp [settle]) (by simp [go_sem]) ?_
  refine (unlock_deferred ⟨G, 3, none⟩ _ _ ?_ (by simp [y3])).mono ?_
  · refine (World.cell?_setCell_other _ ⟨G, 2, none⟩ ⟨G, 3, none⟩ _ (by simp)).trans ?_
    rw [World.cell?_drew]
    exact m3
  rintro e u' w'' ⟨rfl, rfl, rfl⟩
  simp [Leaves, settle, results, Tryd.results44]
  have hs2 := H2.out.2.2.2.size
  have hsz : (w.setCell ⟨G, 3, none⟩ (.int .i32 1)).heap.size = w.heap.size := by simp
  have hB2 : B ≤ w2.heap.size := by omega
  have a1 : Stp B [G] w2 w2.drew := Stp.of_below hB2 (drew_below w2)
  have a2 := stp_set (B := B) (G := G) (w := w2.drew) (o := 2) (by simpa using hB2) hBG (.int .u32 1)
  have a3 := stp_set (B := B) (G := G) (w := w2.drew.setCell ⟨G, 2, none⟩ (.int .u32 1)) (o := 3) (by simpa using hB2) hBG (.int .i32 0)
  have a := (a1.trans a2).trans a3
  have hqX := HS.out.2.2.2
  simp only [List.mem_cons, List.not_mem_nil, or_false, not_or] at hqX
  refine ⟨H2.out.1.stp a (by simp; exact HS.out.2.1) (by simp; exact HS.out.2.2.1), ?_, a.keep q _ _ (by decide) (by simp; exact hqX.2.2) H2.out.2.2.1, ?_⟩
  · exact ((H2.out.2.1.below (drew_below w2) H2.out.2.1.lt).set_ 2 (.int .u32 1)).set_ 3 (.int .i32 0)
  · refine ((HS.out.1.mono (by intro k hk _; simp at hk ⊢; simp [hk])).trans H2.out.2.2.2).trans (a.mono (by intro k hk _; simp at hk ⊢; simp [hk]))

theorem do_any {d0 : Nat} {red0 : Bool} (hG : Blk w G 49 (logCells D j (0, 0) d0 red0)) (hm : Calls Tryd.prog 31 #[.pointer (some ⟨G, 0, none⟩)] (w.setCell ⟨G, 3, none⟩ (.int .i32 1)) (mendPost B D L G n j S cw cf (0, 1) done red r (w.setCell ⟨G, 3, none⟩ (.int .i32 1))))
    (hp : Blk w p 22 [.pointer (some ⟨G, 0, none⟩)]) (hq : Blk w q 24 [u]) (hpX : p ∉ [D, L, G]) (hqX : q ∉ [D, L, G]) (hB : B ≤ w.heap.size) (hBq : B ≤ q) (hBG : B ≤ G) (hDG : D ≠ G) (hLG : L ≠ G) :
    Calls Tryd.prog 29 #[.pointer (some ⟨G, 2, none⟩), .func (.func 30) #[] #[.pointer (some ⟨p, 0, none⟩), .pointer (some ⟨q, 0, none⟩)]] w fun e w' => e = .returned (.tuple #[]) ∧ Idle B D L n S cw cf w' ∧ Blk w' G 49 (logCells D j (1, 0) done red) ∧ Blk w' q 24 [.int .i64 r] ∧ Stp B [D, L, G, q] w w' := by
  have l2 : w.cell? ⟨G, 2, none⟩ = some (.int .u32 0) := hG.cell 2
  have HM := Lib.hid (slow_any hG hm hp hq hpX hqX hB hBq hBG hDG hLG)
  have hnot : ∀ (x : Bool) (w : World), (Op.unary .not (.bool x)).run Tryd.prog w = .ok (.bool (!x)) w := fun _ _ => rfl
  clear hG hm hp hq hpX hqX
  go_enter Tryd.func29, Tryd.ntmps29
  go_wp2_with (first
    | (go_at_call 43; refine (once_load ⟨G, 2, none⟩ 0 _ l2).mono ?_; rintro e w' ⟨rfl, rfl⟩)
    | (go_at_call 44; refine HM.out.mono ?_; rintro e w2 ⟨rfl, hI⟩; have H2 := Lib.hid hI; clear hI))
  go_end0
  exact ⟨rfl, H2.out⟩

set_option maxHeartbeats 1600000 in
theorem recovered_any {d0 : Nat} {red0 : Bool} (hG : Blk w G 49 (logCells D j (0, 0) d0 red0)) (hD : D < w.heap.size) (hL : L < w.heap.size) (hB : B ≤ w.heap.size) (hBG : B ≤ G) (hDG : D ≠ G) (hLG : L ≠ G)
    (hm : ∀ w1, Stp B [G] w w1 → Blk w1 G 49 (logCells D j (0, 1) d0 red0) → Calls Tryd.prog 31 #[.pointer (some ⟨G, 0, none⟩)] w1 (mendPost B D L G n j S cw cf (0, 1) done red r w1)) :
    Calls Tryd.prog 17 #[.pointer (some ⟨G, 0, none⟩)] w fun e w' => e = .returned (.int .i64 r) ∧ Idle B D L n S cw cf w' ∧ Blk w' G 49 (logCells D j (1, 0) done red) ∧ Stp B [D, L, G] w w' := by
  have hmf : ∀ (fn : Fn) (first cap : Array Value) (w : World), (Instr.makeFunc fn first cap).run Tryd.prog w = .ok (.func fn first cap) w := fun _ _ _ _ => rfl
  have hGl := hG.lt
  have b1 := new_below w (.cells #[.pointer (some ⟨G, 0, none⟩)] 22)
  have k1 := Blk.new w 22 [.pointer (some ⟨G, 0, none⟩)]
  have b2 := new_below (w.alloc (.cells #[.pointer (some ⟨G, 0, none⟩)] 22)) (.cells #[.int .i64 0] 24)
  have k2 := Blk.new (w.alloc (.cells #[.pointer (some ⟨G, 0, none⟩)] 22)) 24 [.int .i64 0]
  simp only [World.size_alloc] at k2
  have k1' := k1.below b2 k1.lt
  have hG2 := hG.below (below_of b1 b2) hGl
  have p0 := k1'.cell 0
  simp only [List.getElem?_cons_zero] at p0
  have hs : Stp B [G] ((w.alloc (.cells #[.pointer (some ⟨G, 0, none⟩)] 22)).alloc (.cells #[.int .i64 0] 24)) (((w.alloc (.cells #[.pointer (some ⟨G, 0, none⟩)] 22)).alloc (.cells #[.int .i64 0] 24)).setCell ⟨G, 3, none⟩ (.int .i32 1)) := stp_set (by simp; omega) hBG _
  have HDo := Lib.hid (do_any (p := w.heap.size) (q := w.heap.size + 1) hG2 (hm _ ((Stp.of_below hB (below_of b1 b2)).trans hs) (hG2.set_ 3 (.int .i32 1))) k1' k2 (by simp; omega) (by simp; omega) (by simp; omega) (by omega) hBG hDG hLG)
  have HB := Lib.hid (below_of b1 b2)
  clear hm hG b1 k1 b2 k2 k1' hG2 hs
  go_enter Tryd.func17, Tryd.ntmps17
  go_wp2_with (go_at_call 29; refine HDo.out.mono ?_; rintro e w2 ⟨rfl, hI, hG2, hq2, hS2⟩; have q0 := hq2.cell 0; have q1 := hq2.frozen 0; simp only [List.getElem?_cons_zero] at q0; have H2 := Lib.hid (And.intro hI (And.intro hG2 (And.intro hq2 hS2))); clear hI hG2 hq2 hS2)
  have hsz : (w.alloc (.cells #[.pointer (some ⟨G, 0, none⟩)] 22)).heap.size = w.heap.size + 1 := by simp
  have hs2 := H2.out.2.2.2.size
  simp only [World.size_alloc] at hs2
  have hset := stp_set (B := B) (G := w.heap.size + 1) (o := 0) (w := w2) (by omega) (by omega) (.int .i64 r)
  have hc0 := ((H2.out.2.2.1).set_ 0 (.int .i64 r)).cell 0
  simp only [List.set_cons_zero, List.getElem?_cons_zero] at hc0
  refine bodyPost_ret (v := .int .i64 r) ?_ rfl ⟨rfl, ?_, ?_, ?_⟩
  · simp [results, Tryd.results17, go_sem, hc0]
  · exact H2.out.1.stp hset (by simp; omega) (by simp; omega)
  · exact hset.keep G _ _ (by decide) (by simp; omega) H2.out.2.1
  · refine (((Stp.of_below (X := [D, L, G, w.heap.size + 1]) hB HB.out).trans H2.out.2.2.2).trans (hset.mono (Y := [D, L, G, w.heap.size + 1]) (by intro k hk _; simp at hk ⊢; simp [hk]))).mono ?_
    intro k hk hlt
    simp only [List.mem_cons, List.not_mem_nil, or_false] at hk ⊢
    omega
end
end Go.Proofs.YtfkdpndcoegfpaaDoor
end

/-
  begun, mend, where the journal doesn't begin with the next number: nothing is done. Conditions: the disk has power that never goes; the head is right.
-/

section
set_option maxRecDepth 100000
set_option linter.unusedSimpArgs false
set_option linter.unusedVariables false
namespace Go.Proofs.YtfkdpndcoegfpaaDoor
open Go.RowKit

theorem zeroTrans (w : World) : (zeroValue 60).run Tryd.prog w = .ok (.agg #[.int .i64 0, .slice none 0 0]) w := by kernel_rfl

theorem two_read {wk : World} {b : Nat} {t : TypeId} {p q : Value} (h : Blk wk b t [p, q]) (x y : Value) :
    ((wk.setCell ⟨b, 0, none⟩ x).setCell ⟨b, 1, none⟩ y).cell? ⟨b, 0, none⟩ = some x ∧ ((wk.setCell ⟨b, 0, none⟩ x).setCell ⟨b, 1, none⟩ y).cell? ⟨b, 1, none⟩ = some y := by
  have := (h.set_ 0 x).set_ 1 y
  exact ⟨this.cell 0, this.cell 1⟩
theorem two_only (wk : World) (b : Nat) (x y : Value) : Only [b] wk ((wk.setCell ⟨b, 0, none⟩ x).setCell ⟨b, 1, none⟩ y) := ((Only.refl _ wk).setCell (p := ⟨b, 0, none⟩) (.inl (by simp)) x).setCell (p := ⟨b, 1, none⟩) (.inl (by simp)) y
theorem two_below {w wk : World} {b : Nat} {x y : Value} (h : Below w.heap.size w wk) (hb : w.heap.size ≤ b) : Below w.heap.size w ((wk.setCell ⟨b, 0, none⟩ x).setCell ⟨b, 1, none⟩ y) :=
  h.trans ((two_only wk b x y).below (B := w.heap.size) h.size (by simpa using hb))
theorem doneB_le {ks : List B32} {b : List B8} {k : Nat} (h : doneB ks b = some k) : k ≤ top60 := by
  unfold doneB at h
  split at h
  · cases h; exact Nat.zero_le _
  · split at h
    · rename_i h1; cases h; exact h1.1
    · cases h

set_option maxHeartbeats 1600000 in
theorem begun_none (B : Nat) (w : World) (D L n j : Nat) (S : Nat → List B8) (cw cf num : Nat) (hd : Idle B D L n S cw cf w) (hj : j + 1 < n) (hj1 : 1 ≤ j) (hnum : num ≤ 9223372036854775807) (hno : fromB (sub (S 1) 0 8) ≠ num) :
    Calls Tryd.prog 46 #[lay_ D j, .int .i64 num] w fun e w' => e = .returned (.tuple #[.agg #[.int .i64 0, .slice none 0 0], .int .i64 7]) ∧ Below w.heap.size w w' := by
  have hnb := hd.bound
  have hz := zeroTrans
  have b1 := new_below w (.cells #[.pointer (some ⟨D, 0, none⟩), .int .i64 (j : Int)] 35)
  have k1 := Blk.new w 35 [.pointer (some ⟨D, 0, none⟩), .int .i64 (j : Int)]
  have b2 := new_below (w.alloc (.cells #[.pointer (some ⟨D, 0, none⟩), .int .i64 (j : Int)] 35)) (.cells #[.int .i64 0, .slice none 0 0] 60)
  have k2 := Blk.new (w.alloc (.cells #[.pointer (some ⟨D, 0, none⟩), .int .i64 (j : Int)] 35)) 60 [.int .i64 0, .slice none 0 0]
  simp only [World.size_alloc] at k2
  have ⟨l0, l1⟩ := blk_pair (k1.below b2 k1.lt)
  have H := Lib.hid (And.intro (hd.below (below_of b1 b2)) (And.intro (k1.below b2 k1.lt) (And.intro k2 (below_of b1 b2))))
  have hf : ((fromB (sub (S 1) 0 8) : Int) != (num : Int)) = true := by simp; omega
  obtain ⟨f0, hf0⟩ : ∃ f, fromB (sub (S 1) 0 8) = f := ⟨_, rfl⟩
  rw [hf0] at hf
  have HF := Lib.hid hf0
  clear hd b1 k1 b2 k2 hno hf0
  go_enter Tryd.func46, Tryd.ntmps46
  go_wp2_with fail
  go_region_held3 (fun w' => w'.cell? ⟨w.heap.size, 0, none⟩ = some (.pointer (some ⟨D, 0, none⟩)) ∧ w'.cell? ⟨w.heap.size, 1, none⟩ = some (.int .i64 (j : Int)))
    (first | exact ⟨c0, c1⟩ | exact ⟨e0, e1⟩ | exact ⟨l0, l1⟩)
    (first
      | (go_at_call 38; refine (noteAt_any (D := D) (j := j) 0 (by omega)).mono ?_; rintro e w2 ⟨rfl, hW⟩; have e0 := cell_drew l0 hW; have e1 := cell_drew l1 hW; have H2 := Lib.hid (And.intro (idle_drew H.out.1 hW) (And.intro (blk_drew H.out.2.1 hW) (And.intro (blk_drew H.out.2.2.1 hW) (below_drew H.out.2.2.2 hW)))); clear hW)
      | (go_at_call 14; refine (read_calm H2.out.1.calm (k := 1) (by omega)).mono ?_; rintro e w3 ⟨v, rfl, hv, hW⟩; have c0 := cell_below e0 hW; have c1 := cell_below e1 hW; have hs64 := H2.out.1.sec (k := 1) (by omega); obtain ⟨Q, k3, rfl, hk64, hk3⟩ := hv.form; rw [hs64] at hk64 hv ⊢; obtain ⟨g, o, rfl, _, _, _⟩ := hv.cells.2 (by omega); have H3 := Lib.hid (And.intro hv (And.intro (H2.out.2.1.below hW H2.out.2.1.lt) (And.intro (H2.out.2.2.1.below hW H2.out.2.2.1.lt) (below_of H2.out.2.2.2 hW)))); clear hW hv))
  go_wp2_with fail
  refine (noted_any _ _ g o k3 (S 1) H3.out.1 hk64 hk3).mono ?_
  rintro e w4 ⟨rfl, hW⟩
  have hr := H3.out.2.2.1.below hW H3.out.2.2.1.lt
  have ⟨r0, r1⟩ := blk_pair hr
  have rf0 := hr.frozen 0
  have rf1 := hr.frozen 1
  have H4 := Lib.hid (And.intro hr (below_of H3.out.2.2.2 hW))
  clear hW hr l0 l1 e0 e1 c0 c1
  rw [HF.out]
  clear HF
  go_wp2_with fail
  have HC := two_read H4.out.1 (.int .i64 0) (.slice none 0 0)
  refine bodyPost_ret (v := .tuple #[.agg #[.int .i64 0, .slice none 0 0], .int .i64 7]) ?_ rfl ⟨rfl, two_below H4.out.2 (Nat.le_succ _)⟩
  have hc0 := HC.1
  have hc1 := HC.2
  simp [results, Tryd.results46, go_sem, hc0, hc1]

set_option maxHeartbeats 1600000 in
theorem mend_none (ks : List B32) (B : Nat) (w : World) (D L G n j : Nat) (S : Nat → List B8) (cw cf done done' : Nat) (x : Int × Int) (red : Bool) (hd : Idle B D L n S cw cf w) (hB : B ≤ w.heap.size) (hBG : B ≤ G) (hK : Roots ks w) (hG : Blk w G 49 (logCells D j x done red))
    (hj : j + 1 < n) (hj1 : 1 ≤ j) (hdn : doneB ks (S 0) = some done') (hno : fromB (sub (S 1) 0 8) ≠ done' + 1) :
    Calls Tryd.prog 31 #[.pointer (some ⟨G, 0, none⟩)] w (mendPost B D L G n j S cw cf x done' red 0 w) := by
  have hnb := hd.bound
  have hpos := hK.pos
  have htop : done' ≤ top60 := doneB_le hdn
  have hdb : done' + 1 ≤ 9223372036854775807 := by unfold top60 at htop; omega
  clear htop
  have hlt := hd.lt
  have hGl := hG.lt
  have hDG : D ≠ G := by
    rintro rfl
    obtain ⟨s, hs, _⟩ := hd
    exact absurd (hG.same hs.disk).1 (by decide)
  have hLG : L ≠ G := by
    rintro rfl
    obtain ⟨s, hs, _⟩ := hd
    exact absurd (hG.same hs.laid).1 (by decide)
  obtain ⟨g0, g1, g5, g6⟩ := log_cells hG
  have H := Lib.hid (And.intro hd (And.intro hG (And.intro hK (And.intro hdn (And.intro hno (And.intro hDG hLG))))))
  clear hd hG hK hdn hno hDG hLG
  go_enter Tryd.func31, Tryd.ntmps31
  go_wp2_with (first
    | (go_at_call 14; refine (read_calm H.out.1.calm (k := 0) (by omega)).mono ?_; rintro e w1 ⟨v, rfl, hv, hW⟩; have hs64 := H.out.1.sec (k := 0) (by omega); obtain ⟨Q, k3, rfl, hk64, hk3⟩ := hv.form; rw [hs64] at hk64 hv ⊢; obtain ⟨g, o, rfl, _, _, _⟩ := hv.cells.2 (by omega); have H1 := Lib.hid (And.intro hv hW); clear hW hv))
  refine (doneBy_any ks _ _ g o k3 (S 0) (H.out.2.2.1.below H1.out.2 hpos) H1.out.1 hk64 hk3).mono ?_
  rw [H.out.2.2.2.1]
  rintro e w2 ⟨rfl, hW⟩
  have hb2 := below_of H1.out.2 hW
  have hG2 := H.out.2.1.below hb2 hGl
  have hset := stp_set (B := B) (G := G) (w := w2) (o := 5) (Nat.le_trans hB hb2.size) hBG (.int .i64 (done' : Int))
  have hG3 : Blk (w2.setCell ⟨G, 5, none⟩ (.int .i64 (done' : Int))) G 49 (logCells D j x done' red) := hG2.set_ 5 (.int .i64 (done' : Int))
  have hd3 := (H.out.1.below hb2).stp hset (by simpa using H.out.2.2.2.2.2.1) (by simpa using H.out.2.2.2.2.2.2)
  obtain ⟨g0, g1, g5, g6⟩ := log_cells hG2
  have gf := hG2.frozen 5
  obtain ⟨m0, m1, m5, m6⟩ := log_cells hG3
  have H2 := Lib.hid (And.intro hd3 (And.intro hG3 ((Stp.of_below (X := [D, L, G]) hB hb2).trans (hset.mono (by intro k hk _; simp at hk ⊢; simp [hk])))))
  clear hW hb2 hG2 hset hG3 hd3
  go_wp2_with (first
    | (go_at_call 46; refine (begun_none B _ D L n j S cw cf (done' + 1) H2.out.1 hj hj1 hdb H.out.2.2.2.2.1).mono ?_; rintro e w4 ⟨rfl, hW⟩; have H4 := Lib.hid (And.intro (H2.out.1.below hW) (And.intro (H2.out.2.1.below hW H2.out.2.1.lt) (H2.out.2.2.trans (Stp.of_below (Nat.le_trans hB H2.out.2.2.size) hW)))); clear hW))
  have hb := new_below w4 (.cells #[.int .i64 0, .slice none 0 0] 60)
  go_ret
  exact ⟨rfl, H4.out.1.below hb, H4.out.2.1.below hb H4.out.2.1.lt, H4.out.2.2.trans (Stp.of_below (Nat.le_trans hB H4.out.2.2.size) hb)⟩

/-- A log, opened. -/
def openPost (B D L n j : Nat) (S : Nat → List B8) (cw cf done : Nat) (red : Bool) (w : World) (e : Ending) (w' : World) : Prop :=
  e = .returned (.tuple #[.pointer (some ⟨w.heap.size, 0, none⟩), .int .i64 0]) ∧ Idle B D L n S cw cf w' ∧ Blk w' w.heap.size 49 (logCells D j (1, 0) done red) ∧ Stp B [D, L] w w'

set_option maxHeartbeats 1600000 in
theorem open_any (B : Nat) (w : World) (D L n j : Nat) (S S' : Nat → List B8) (cw cf cw' cf' done : Nat) (red : Bool) (hd : Idle B D L n S cw cf w) (hB : B ≤ w.heap.size) (hj : j + 1 < n) (h2 : 2 ≤ j) (h3 : j ≤ 1024) (h4 : j % 2 = 0)
    (hm : ∀ w1, Stp B [] w w1 → w.heap.size ≤ w1.heap.size → Blk w1 w.heap.size 49 (logCells D j (0, 1) 0 false) → Calls Tryd.prog 31 #[.pointer (some ⟨w.heap.size, 0, none⟩)] w1 (mendPost B D L w.heap.size n j S' cw' cf' (0, 1) done red 0 w1)) :
    Calls Tryd.prog 5 #[.pointer (some ⟨D, 0, none⟩), .int .i64 j] w (openPost B D L n j S' cw' cf' done red w) := by
  have hnb := hd.bound
  have hlt := hd.lt
  have b1 := new_below w (.cells #[.pointer (some ⟨D, 0, none⟩), .int .i64 (j : Int), .int .u32 0, .int .i32 0, .int .u32 0, .int .i64 0, .bool false] 49)
  have k1 : Blk (w.alloc (.cells #[.pointer (some ⟨D, 0, none⟩), .int .i64 (j : Int), .int .u32 0, .int .i32 0, .int .u32 0, .int .i64 0, .bool false] 49)) w.heap.size 49 (logCells D j (0, 0) 0 false) := Blk.new w 49 [.pointer (some ⟨D, 0, none⟩), .int .i64 (j : Int), .int .u32 0, .int .i32 0, .int .u32 0, .int .i64 0, .bool false]
  obtain ⟨g0, g1, g5, g6⟩ := log_cells k1
  have H := Lib.hid (And.intro (hd.below b1) (And.intro k1 (And.intro b1 hm)))
  clear hd b1 k1 hm
  go_enter Tryd.func5, Tryd.ntmps5
  go_wp2_with (first
    | (go_at_call 12; refine (on_idle H.out.1.calm).mono ?_; rintro e w' ⟨rfl, rfl⟩)
    | (go_at_call 16; refine (fits_any H.out.1.calm hj hnb.2 h2 h3 h4).mono ?_; rintro e w1 ⟨rfl, hb⟩; have HB := Lib.hid hb; clear hb))
  have hs1 := HB.out.size
  have hs0 := H.out.2.2.1.size
  have hsz : (w.alloc (.cells #[.pointer (some ⟨D, 0, none⟩), .int .i64 (j : Int), .int .u32 0, .int .i32 0, .int .u32 0, .int .i64 0, .bool false] 49)).heap.size = w.heap.size + 1 := by simp
  have hst : Stp B [] w w1 := Stp.of_below hB (below_of H.out.2.2.1 HB.out)
  refine (recovered_any (B := B) (D := D) (L := L) (G := w.heap.size) (n := n) (j := j) (S := S') (cw := cw') (cf := cf') (done := done) (red := red) (r := 0) (H.out.2.1.below HB.out H.out.2.1.lt) (by omega) (by omega) (by omega) hB (by omega) (by omega) ?_).mono ?_
  · intro w2 hs hG
    refine H.out.2.2.2 w2 ((hst.mono (Y := [w.heap.size]) (by simp)).trans hs |>.mono (by intro k hk hl; simp at hk; omega)) ?_ hG
    have := hs.size
    omega
  rintro e w2 ⟨rfl, hI, hG, hS⟩
  have H2 := Lib.hid (And.intro hI (And.intro hG (((hst.mono (Y := [D, L, w.heap.size]) (by simp)).trans hS).mono (Y := [D, L]) (by intro k hk hl; simp at hk ⊢; omega))))
  clear hI hG hS hst
  go_wp2_with fail
  go_ret2
  exact ⟨rfl, H2.out.1, H2.out.2.1, H2.out.2.2⟩

theorem open_none (ks : List B32) (B : Nat) (w : World) (D L n j : Nat) (S : Nat → List B8) (cw cf done : Nat) (hd : Idle B D L n S cw cf w) (hB : B ≤ w.heap.size) (hK : Roots ks w) (hKB : 1 < B) (hj : j + 1 < n) (h2 : 2 ≤ j) (h3 : j ≤ 1024) (h4 : j % 2 = 0)
    (hdn : doneB ks (S 0) = some done) (hno : fromB (sub (S 1) 0 8) ≠ done + 1) :
    Calls Tryd.prog 5 #[.pointer (some ⟨D, 0, none⟩), .int .i64 j] w (openPost B D L n j S cw cf done false w) :=
  open_any B w D L n j S S cw cf cw cf done false hd hB hj h2 h3 h4 fun w1 hs hw hG =>
    mend_none ks B w1 D L w.heap.size n j S cw cf 0 done (0, 1) false (hd.stp hs (by simp) (by simp)) (by omega) hB (hK.below hs.below hKB) hG hj (by omega) hdn hno
end Go.Proofs.YtfkdpndcoegfpaaDoor
end

/-
  hasAll: whether all sectors that are written are there. Conditions: the disk has power that never goes; they are there.
-/

section
set_option maxRecDepth 100000
set_option linter.unusedSimpArgs false
set_option linter.unusedVariables false
namespace Go.Proofs.YtfkdpndcoegfpaaDoor
open Go.RowKit

theorem hasOne (B D L n j : Nat) (S : Nat → List B8) (cw cf : Nat) (w : World) (b : Nat) (no : Int) (Q : Option Addr) (m k : Nat) (hd : Calm B D L n S cw cf w) (hb : Blk w b 35 [.pointer (some ⟨D, 0, none⟩), .int .i64 (j : Int)]) (hj : j + 1 < n) (hn : n ≤ 4096)
    (h0 : 0 ≤ no) (h1 : no < (n - j - 1 : Nat)) :
    Calls Tryd.prog 49 #[.agg #[.int .i64 no, .slice Q m k], .pointer (some ⟨b, 0, none⟩)] w fun e w' => e = .returned (.bool false) ∧ Below w.heap.size w w' := by
  have hB := new_below w (.cells #[.int .i64 no, .slice Q m k] 55)
  have c0 := hb.cell 0
  have c1 := hb.cell 1
  have hlt := hb.lt
  have HD := Lib.hid (hd.below hB)
  have HB := Lib.hid hB
  clear hd hb hB
  go_enter Tryd.func49, Tryd.ntmps49
  go_wp2_with (go_at_call 13; refine (has_yes HD.out hj hn no h0 h1).mono ?_; rintro e w' ⟨rfl, hb2⟩; have HB2 := Lib.hid (HB.out.trans (hb2.mono HB.out.size)); clear hb2)
  go_ret
  exact ⟨rfl, HB2.out⟩

theorem indexNone (B D L n j : Nat) (S : Nat → List B8) (cw cf : Nat) (w : World) (b : Nat) (A : Nat → Prop) (P : Option Addr) (m c : Nat) (ws : List (Int × List B8)) (hd : Calm B D L n S cw cf w) (hb : Blk w b 35 [.pointer (some ⟨D, 0, none⟩), .int .i64 (j : Int)]) (hj : j + 1 < n) (hn : n ≤ 4096)
    (hw : Wrs A w (.slice P m c) ws) (hok : ∀ p ∈ ws, 0 ≤ p.1 ∧ p.1 < (n - j - 1 : Nat)) :
    Calls Tryd.prog 65 #[.slice P m c, .func (.func 49) #[] #[.pointer (some ⟨b, 0, none⟩)]] w fun e w' => e = .returned (.int .i64 (-1)) ∧ Below w.heap.size w w' := by
  have hlen := hw.len
  have hm : m ≤ 9223372036854775807 := by obtain ⟨P', c', e, h1, h2⟩ := hw.form; cases e; omega
  have H := Lib.hid (And.intro hd (And.intro hb (And.intro hw (And.intro hok hlen))))
  clear hd hb hw hok hlen
  go_enter Tryd.func65, Tryd.ntmps65
  go_wp2_with fail
  go_loopw [8] (fun iv wx => ∃ i : Nat, i ≤ m ∧ iv = .int .i64 i ∧ Below w.heap.size w wx) (fun iv _ => m - (intOf iv).toNat)
  case atStart => exact ⟨0, Nat.zero_le _, rfl, Below.refl _ _⟩
  case round =>
    obtain ⟨i, hi, rfl, h1⟩ := hrel
    have HR := Lib.hid h1
    clear h1
    by_cases hlt : i < m
    · obtain ⟨p, hp⟩ : ∃ p, ws[i]? = some p := ⟨_, List.getElem?_eq_getElem (by have := H.out.2.2.2.2; omega)⟩
      obtain ⟨g, Q, m2, k2, rfl, hg, hAg, c0, c1, hl2, hbt, hmk, hk⟩ := (H.out.2.2.1.below HR.out).at_ hp
      obtain ⟨q0, q1⟩ := H.out.2.2.2.1 p (List.mem_of_getElem? hp)
      clear hp hbt hl2
      go_wp2_with fail
      refine (hasOne B D L n j S cw cf wr b p.1 Q m2 k2 (H.out.1.below HR.out) (H.out.2.1.below HR.out H.out.2.1.lt) hj hn q0 q1).mono ?_
      rintro e w2 ⟨rfl, h1⟩
      have H2 := Lib.hid (HR.out.trans (h1.mono HR.out.size))
      clear h1
      go_wp2_with fail
      go_roundw
      case rel => exact ⟨i + 1, by omega, by go_num, H2.out⟩
      case measure => simp [intOf]; omega
    · obtain rfl : i = m := by omega
      go_wp2_with fail
      go_ret
      exact ⟨rfl, HR.out⟩

theorem hasAll_yes (B D L n j : Nat) (S : Nat → List B8) (cw cf : Nat) (w : World) (A : Nat → Prop) (P : Option Addr) (m c : Nat) (ws : List (Int × List B8)) (hd : Calm B D L n S cw cf w) (hj : j + 1 < n) (hn : n ≤ 4096)
    (hw : Wrs A w (.slice P m c) ws) (hok : ∀ p ∈ ws, 0 ≤ p.1 ∧ p.1 < (n - j - 1 : Nat)) :
    Calls Tryd.prog 34 #[lay_ D j, .slice P m c] w fun e w' => e = .returned (.bool true) ∧ Below w.heap.size w w' := by
  have hB := new_below w (.cells #[.pointer (some ⟨D, 0, none⟩), .int .i64 (j : Int)] 35)
  have hblk := Blk.new w 35 [.pointer (some ⟨D, 0, none⟩), .int .i64 (j : Int)]
  have hmf : ∀ (fn : Fn) (first cap : Array Value) (w : World), (Instr.makeFunc fn first cap).run Tryd.prog w = .ok (.func fn first cap) w := fun _ _ _ _ => rfl
  have H := Lib.hid (And.intro (hd.below hB) (And.intro hblk (And.intro (hw.below hB) (And.intro hok hB))))
  clear hd hw hok hB hblk
  go_enter Tryd.func34, Tryd.ntmps34
  go_wp2_with (first
    | (go_at_call 48; go_in)
    | (go_at_call 65; refine (indexNone B D L n j S cw cf _ w.heap.size A P m c ws H.out.1 H.out.2.1 hj hn H.out.2.2.1 H.out.2.2.2.1).mono ?_; rintro e w' ⟨rfl, hb2⟩; have HB2 := Lib.hid (H.out.2.2.2.2.trans (hb2.mono H.out.2.2.2.2.size)); clear hb2))
  go_ret
  exact ⟨rfl, HB2.out⟩
end Go.Proofs.YtfkdpndcoegfpaaDoor
end

/-
  Check: whether two writes are to one sector. Conditions: no sector is below 0, the bytes are a sector's.
-/

section
set_option maxRecDepth 100000
set_option linter.unusedSimpArgs false
set_option linter.unusedVariables false
namespace Go.Proofs.YtfkdpndcoegfpaaDoor
open Go.RowKit Go.Maps

def secs (ws : List (Int × List B8)) : List Int := ws.map (·.1)
/-- The sectors of the first k writes, as a set. -/
def SecSet (ws : List (Int × List B8)) (k : Nat) : DataW Unit := setOf (.agg []) ((secs (ws.take k)).map (Lit.int .i64))
theorem SecSet_zero (ws : List (Int × List B8)) : SecSet ws 0 = .map [] := by simp [SecSet, secs, setOf]
theorem secs_take {ws : List (Int × List B8)} {k : Nat} {p : Int × List B8} (h : ws[k]? = some p) : secs (ws.take (k + 1)) = secs (ws.take k) ++ [p.1] := by
  unfold secs
  rw [take_snoc_ h, List.map_append]
  rfl
theorem SecSet_succ {ws : List (Int × List B8)} {k : Nat} {p : Int × List B8} (h : ws[k]? = some p) : SecSet ws (k + 1) = (SecSet ws k).put (.int .i64 p.1) (.agg []) := by
  unfold SecSet
  rw [secs_take h, List.map_append, List.map_cons, List.map_nil, setOf_snoc]
theorem any_sec (x : Int) : ∀ l : List Int, l.any ((fun y : Lit => y.sameKey (.int .i64 x)) ∘ Lit.int .i64) = l.contains x
  | [] => rfl
  | a :: r => by
    rw [List.any_cons, List.contains_cons, any_sec x r]
    congr 1
    show decide (IntKind.i64 = IntKind.i64 ∧ a = x) = (x == a)
    by_cases e : a = x
    · subst e
      simp
    · have e' : ¬ x = a := fun h => e h.symm
      simp [e, e']
theorem has_sec (ws : List (Int × List B8)) (k : Nat) (x : Int) : Maps.has (SecSet ws k) (.int .i64 x) = (secs (ws.take k)).contains x := by
  unfold SecSet
  rw [has_setOf _ _ _ (fun y hy => by obtain ⟨_, _, rfl⟩ := List.mem_map.1 hy; trivial), List.any_map]
  exact any_sec x _

/-- What Check answers. -/
def ChkPost (ws : List (Int × List B8)) (w : World) (e : Ending) (w' : World) : Prop := ((e = .returned (.int .i64 0) ∧ (secs ws).Nodup) ∨ (e = .returned (.int .i64 8) ∧ ¬ (secs ws).Nodup)) ∧ Below w.heap.size w w'
theorem nodup_snoc {l : List Int} {x : Int} (h : l.Nodup) (hx : l.contains x = false) : (l ++ [x]).Nodup := by
  rw [List.nodup_append]
  refine ⟨h, by simp, fun a ha b hb => ?_⟩
  simp only [List.mem_singleton] at hb
  subst hb
  rintro rfl
  rw [List.contains_eq_mem] at hx
  simp [ha] at hx
theorem not_nodup {ws : List (Int × List B8)} {k : Nat} {p : Int × List B8} (h : ws[k]? = some p) (hx : (secs (ws.take k)).contains p.1 = true) : ¬ (secs ws).Nodup := by
  intro hn
  have hk : k < ws.length := (List.getElem?_eq_some_iff.1 h).1
  have e : secs ws = secs (ws.take (k + 1)) ++ secs (ws.drop (k + 1)) := by unfold secs; rw [← List.map_append, List.take_append_drop]
  rw [e, secs_take h] at hn
  have := (List.nodup_append.1 hn).1
  have h2 := (List.nodup_append.1 this).2.2
  rw [List.contains_eq_mem] at hx
  exact h2 p.1 (by simpa using hx) p.1 (by simp) rfl
theorem lawInt : Keyed Tryd.prog 3 := int_keyed Tryd.underlying3
theorem zeroUnit (w : World) : (zeroValue 36).run Tryd.prog w = .ok (.agg #[]) w := by kernel_rfl

set_option maxHeartbeats 1000000 in
theorem check_any (w : World) (A : Nat → Prop) (P : Option Addr) (m c : Nat) (ws : List (Int × List B8)) (hw : Wrs A w (.slice P m c) ws) (hok : ∀ p ∈ ws, 0 ≤ p.1 ∧ p.1 ≤ 4294967296 ∧ p.2.length = 64) :
    Calls Tryd.prog 33 #[.slice P m c] w (ChkPost ws w) := by
  have hlen := hw.len
  have hm : m ≤ 9223372036854775807 := by obtain ⟨P', c', e, h1, h2⟩ := hw.form; cases e; omega
  have H := Lib.hid (And.intro hw (And.intro hok hlen))
  have hmm := @run_makeMap Tryd.prog
  clear hw hok hlen
  go_enter Tryd.func33, Tryd.ntmps33
  go_wp2_with fail
  go_loopw [12] (fun iv wx => ∃ i : Nat, i ≤ m ∧ iv = .int .i64 i ∧ Below w.heap.size w wx) (fun iv _ => m - (intOf iv).toNat)
  case atStart => exact ⟨0, Nat.zero_le _, rfl, Below.refl _ _⟩
  case round =>
    obtain ⟨i, hi, rfl, h1⟩ := hrel
    have HR := Lib.hid h1
    clear h1
    by_cases hlt : i < m
    · obtain ⟨p, hp⟩ : ∃ p, ws[i]? = some p := ⟨_, List.getElem?_eq_getElem (by have := H.out.2.2; omega)⟩
      obtain ⟨g, Q, m2, k2, rfl, hg, hAg, c0, c1, hl2, hbt, hmk, hk⟩ := (H.out.1.below HR.out).at_ hp
      obtain ⟨q0, q1, q2⟩ := H.out.2.1 p (List.mem_of_getElem? hp)
      obtain rfl : m2 = 64 := by omega
      have hsz := HR.out.size
      clear hp hbt hl2 q2
      go_wp2_with fail
      go_roundw
      case rel => exact ⟨i + 1, by omega, by go_num, HR.out.alloc hsz _⟩
      case measure => simp [intOf]; omega
    · obtain rfl : i = m := by omega
      obtain ⟨wo, rfl⟩ : ∃ wo : World, wo = wr := ⟨_, rfl⟩
      have hb2 := HR.out.alloc HR.out.size (.map #[] 0)
      have HM := Lib.hid (And.intro (World.ownsMap_made (P := Tryd.prog) (k := 3) (R := unitElem (H := Unit)) wo) hb2)
      have hs := HR.out.size
      clear hb2
      go_wp2_with fail
      go_loopw [29] (fun iv wx => ∃ k : Nat, k ≤ i ∧ iv = .int .i64 k ∧ wx.ownsMap Tryd.prog 3 unitElem wo.heap.size k (SecSet ws k) ∧ (secs (ws.take k)).Nodup ∧ Below w.heap.size w wx) (fun iv _ => i - (intOf iv).toNat)
      case atStart => exact ⟨0, Nat.zero_le _, rfl, by rw [SecSet_zero]; exact HM.out.1, List.nodup_nil, HM.out.2⟩
      case round =>
        obtain ⟨k, hk, rfl, h1, h2, h3⟩ := hrel
        have HS := Lib.hid (And.intro h2 h3)
        have HO := Lib.hid h1
        clear h1 h2 h3 HM
        by_cases hlt2 : k < i
        · obtain ⟨p, hp⟩ : ∃ p, ws[k]? = some p := ⟨_, List.getElem?_eq_getElem (by have := H.out.2.2; omega)⟩
          obtain ⟨g, Q, m2, k2, rfl, hg, hAg, c0, c1, hl2, hbt, hmk, hk2⟩ := (H.out.1.below HS.out.2).at_ hp
          obtain ⟨q0, q1, q2⟩ := H.out.2.1 p (List.mem_of_getElem? hp)
          have hkey := keyOf_int_mk Tryd.underlying3 (a := p.1) (WalkArith.wf_i64 (by omega))
          have HP := Lib.hid hp
          have hh := has_sec ws k p.1
          have hsy := HS.out.2.size
          clear hp hbt hl2 q2
          cases hc : (secs (ws.take k)).contains p.1 with
          | true =>
            rw [hc] at hh
            have HC := Lib.hid hc
            clear hc
            go_wp2_with (first
              | (at_lookup; (refine wpList_lookup_own_unit _ rfl _ _ 90 rfl 3 36 lawInt Tryd.underlying90 (zeroUnit _) wo.heap.size k _ rfl (HO.out.alloc _) _ _ rfl hkey ?_))
              | (at_mapUpdate; refine wpList_mapUpdate_own _ rfl _ _ _ 90 rfl 3 36 lawInt Tryd.underlying90 (unitElem (H := Unit)) wo.heap.size k _ rfl ((HO.out.alloc _).alloc _) (by unfold maxLen; omega) _ _ _ rfl rfl hkey _ [] unitElem_mk ?_; intro w1 hown1 hgrow1))
            go_ret
            exact ⟨.inr ⟨rfl, not_nodup HP.out HC.out⟩, (HS.out.2.alloc hsy _).alloc (by simp; omega) _⟩
          | false =>
            rw [hc] at hh
            have HC := Lib.hid hc
            clear hc
            go_wp2_with (first
              | (at_lookup; (refine wpList_lookup_own_unit _ rfl _ _ 90 rfl 3 36 lawInt Tryd.underlying90 (zeroUnit _) wo.heap.size k _ rfl (HO.out.alloc _) _ _ rfl hkey ?_))
              | (at_mapUpdate; refine wpList_mapUpdate_own _ rfl _ _ _ 90 rfl 3 36 lawInt Tryd.underlying90 (unitElem (H := Unit)) wo.heap.size k _ rfl ((HO.out.alloc _).alloc _) (by unfold maxLen; omega) _ _ _ rfl rfl hkey _ [] unitElem_mk ?_; intro w1 hown1 hgrow1))
            go_roundw
            case rel =>
              refine ⟨k + 1, by omega, by go_num, ?_, ?_, ((HS.out.2.alloc hsy _).alloc (by simp; omega) _).grown hgrow1 (by simp; omega) (fun q hq => by cases hq; exact hs)⟩
              · rw [SecSet_succ HP.out]
                exact hown1
              · rw [secs_take HP.out]
                exact nodup_snoc HS.out.1 HC.out
            case measure => simp [intOf]; omega
        · obtain rfl : k = i := by omega
          go_wp2_with fail
          go_ret
          refine ⟨.inl ⟨rfl, ?_⟩, HS.out.2⟩
          have := HS.out.1
          rw [List.take_of_length_le (by have := H.out.2.2; omega)] at this
          exact this
end Go.Proofs.YtfkdpndcoegfpaaDoor
end
