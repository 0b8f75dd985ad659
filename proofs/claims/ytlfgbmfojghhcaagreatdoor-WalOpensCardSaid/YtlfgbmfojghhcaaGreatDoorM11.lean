/-
  The document's Found: the transaction of a number that a disk's journal has whole. Conditions: the bytes are a disk's; the journal has room for at most 15 writes.
-/
import Derived.Test.YtlfgbmfojghhcaaGreatDoorM10
import Derived.Test.YtlfgbmfojghhcaaGreatDoorM7
section
set_option maxRecDepth 100000
set_option linter.unusedSimpArgs false
set_option linter.unusedVariables false
namespace Go.Proofs.YtlfgbmfojghhcaaGreatDoor
open Go.RowKit
attribute [local go_sem ↓] exec_loadTbl exec_load32

theorem sub_sub {xs : List B8} {a m b n : Nat} (h : b + n ≤ m) : sub (sub xs a m) b n = sub xs (a + b) n := by
  unfold sub
  rw [List.drop_take, List.drop_drop, List.take_take, Nat.min_eq_left (by omega)]
/-- Place i of the journal is the document's note of transaction num, of so many writes, with this digest. -/
def okN (S : Nat → List B8) (data num cnt : Nat) (d : List B8) (i : Nat) : Prop := fromB (sub (S (1 + 2 * i)) 16 4) < data ∧ S (1 + 2 * i) = noteB num i cnt (fromB (sub (S (1 + 2 * i)) 16 4)) d
def FoundB (ks : List B32) (S : Nat → List B8) (data j num : Nat) : Prop :=
  1 ≤ cntOf S ∧ cntOf S ≤ j / 2 ∧ (∀ i, i < cntOf S → okN S data num (cntOf S) (sub (S 1) 20 32) i) ∧ (secs (wrsTo S (cntOf S))).Nodup ∧ digOf ks num (wrsTo S (cntOf S)) = sub (S 1) 20 32
def rfoundPost (ks : List B32) (S : Nat → List B8) (data j num : Nat) (w : World) (e : Ending) (w' : World) : Prop :=
  (((∃ v, e = .returned (.tuple #[v, .bool false])) ∧ ¬ FoundB ks S data j num) ∨
    (∃ v, e = .returned (.tuple #[v, .bool true]) ∧ FoundB ks S data j num ∧ ORfs w.heap.size (fun _ => True) w' v (cntOf S) (wrsTo S (cntOf S)))) ∧ Below w.heap.size w w'
theorem rsec_at (w : World) (g o N c no q c1 : Nat) (h1 : q + 64 ≤ N) (h2 : N ≤ c) (h3 : c ≤ 9223372036854775807) (hq : 64 * no = q) (hc : c - q = c1) :
    Calls Tryz.prog 30 #[.slice (some ⟨g, o, none⟩) N c, .int .i64 no] w fun e w' => e = .returned (.slice (some ⟨g, o + q, none⟩) 64 c1) ∧ w = w' := by
  subst hq hc
  exact rsector_any w g o N c no h1 h2 h3
theorem rsmall_at (w : World) (A : Nat → Prop) (g o c k m c1 : Nat) (xs : List B8) (hx : Bts A w (.slice (some ⟨g, o, none⟩) 64 c) xs) (hm : 64 - k = m) (hk : k + 4 ≤ 64) (hc : 64 ≤ c) (hcm : c ≤ 9223372036854775807) (hc1 : c - k = c1) :
    Calls Tryz.prog 53 #[.slice (some ⟨g, o + k, none⟩) m c1] w fun e w' => e = .returned (.int .i64 (fromB (sub xs k 4))) ∧ Below w.heap.size w w' := by
  subst hm hc1
  have h := rsmall_any w A g (o + k) (64 - k) (c - k) (sub xs k (64 - k)) (hx.sub_ (by omega) (by omega) (by omega)) (by omega) (by omega) (by omega)
  rw [sub_sub (by omega), Nat.add_zero] at h
  exact h
/-- The first i bytes of a digest, and bytes 0. -/
def cpy (d : List B8) (i : Nat) : List B8 := d.take i ++ List.replicate (32 - i) 0
theorem cpy_length {d : List B8} {i : Nat} (hd : d.length = 32) (hi : i ≤ 32) : (cpy d i).length = 32 := by unfold cpy; simp [hd]; omega
theorem cpy_zero (d : List B8) : Vb (cpy d 0) = List.replicate 32 (.int .u8 0) := by simp [cpy, Vb, nb]
theorem cpy_all {d : List B8} (hd : d.length = 32) : cpy d 32 = d := by unfold cpy; rw [List.take_of_length_le (by omega)]; simp
theorem cpy_set {d : List B8} {i : Nat} {x : B8} (hd : d.length = 32) (hx : d[i]? = some x) : (Vb (cpy d i)).set i (.int .u8 (nb x)) = Vb (cpy d (i + 1)) := by
  have hi := (List.getElem?_eq_some_iff.1 hx).1
  unfold Vb
  apply List.ext_getElem?
  intro k
  rw [List.getElem?_set]
  unfold cpy
  by_cases h : i = k
  · subst h
    rw [if_pos rfl, if_pos (by simp; omega), List.getElem?_map, List.getElem?_append_left (by simp; omega), List.getElem?_take, if_pos (by omega), hx]
    rfl
  · rw [if_neg h, List.getElem?_map, List.getElem?_map]
    congr 1
    by_cases hk : k < i
    · rw [List.getElem?_append_left (by simp; omega), List.getElem?_append_left (by simp; omega), List.getElem?_take, List.getElem?_take, if_pos hk, if_pos (by omega)]
    · rw [List.getElem?_append_right (by simp; omega), List.getElem?_append_right (by simp; omega), List.getElem?_replicate, List.getElem?_replicate]
      simp only [List.length_take]
      by_cases h2 : k < 32
      · rw [if_pos (by omega), if_pos (by omega)]
      · rw [if_neg (by omega), if_neg (by omega)]

theorem ORfs.lower {N N' n : Nat} {A : Nat → Prop} {w : World} {v : Value} {X : List (Int × List B8)} (h : ORfs N' A w v n X) (hN : N ≤ N') : ORfs N A w v n X := by
  obtain ⟨cells, c1, c2, c3⟩ := h
  refine ⟨cells, ⟨c1.1, ?_⟩, c2, c3⟩
  rcases c1.2 with h | ⟨g, cap, cur, e, hb, rest⟩
  · exact .inl h
  · exact .inr ⟨g, cap, cur, e, Nat.le_trans hN hb, rest⟩
theorem wrsTo_get {S : Nat → List B8} {k i : Nat} (h : i < k) : (wrsTo S k)[i]? = some (wAt S i) := by simp [wrsTo, h]
theorem wrsTo_snoc (S : Nat → List B8) (k : Nat) : wrsTo S (k + 1) = wrsTo S k ++ [wAt S k] := by simp [wrsTo, List.range_succ]
theorem wrsTo_len (S : Nat → List B8) (k : Nat) : (wrsTo S k).length = k := by simp [wrsTo]
theorem nodup_ne {S : Nat → List B8} {cnt k i : Nat} (hn : (secs (wrsTo S cnt)).Nodup) (hk : k < i) (hi : i < cnt) : (wAt S k).1 ≠ (wAt S i).1 := by
  unfold secs at hn
  have h := (List.pairwise_iff_getElem.1 hn) k i (by rw [List.length_map, wrsTo_len]; omega) (by rw [List.length_map, wrsTo_len]; exact hi) hk
  have e1 := wrsTo_get (S := S) (k := cnt) (i := k) (by omega)
  have e2 := wrsTo_get (S := S) (k := cnt) (i := i) hi
  rw [List.getElem?_eq_some_iff] at e1 e2
  obtain ⟨_, e1⟩ := e1
  obtain ⟨_, e2⟩ := e2
  rw [List.getElem_map, List.getElem_map, e1, e2] at h
  exact h
theorem nodup_wsnoc {S : Nat → List B8} {i : Nat} (hn : (secs (wrsTo S i)).Nodup) (h : ∀ k, k < i → (wAt S k).1 ≠ (wAt S i).1) : (secs (wrsTo S (i + 1))).Nodup := by
  rw [wrsTo_snoc]
  unfold secs at *
  rw [List.map_append, List.nodup_append]
  refine ⟨hn, by simp, ?_⟩
  intro x hx y hy
  simp only [List.map_cons, List.map_nil, List.mem_singleton] at hy
  subst hy
  obtain ⟨q, hq1, rfl⟩ := List.mem_map.1 hx
  obtain ⟨k, hk⟩ := List.mem_iff_getElem?.1 hq1
  have hki : k < i := by have := (List.getElem?_eq_some_iff.1 hk).1; rwa [wrsTo_len] at this
  rw [wrsTo_get hki] at hk
  cases hk
  exact h k hki

set_option maxHeartbeats 4000000 in
theorem rfound_any (w : World) (A : Nat → Prop) (g o N c n j num : Nat) (xs : List B8) (hx : Bts A w (.slice (some ⟨g, o, none⟩) N c) xs) (hN : N = 64 * n) (hc : N ≤ c) (hcm : c ≤ 9223372036854775807) (hn : n ≤ 4096) (hj : j + 1 < n) (hj2 : 2 ≤ j) (hj30 : j ≤ 30) (hje : j % 2 = 0) (hnum : num ≤ 9223372036854775807) :
    Calls Tryz.prog 31 #[.agg Tbl.toArray, .slice (some ⟨g, o, none⟩) N c, .int .i64 j, .int .i64 num] w (rfoundPost Ks (fun k => sub xs (64 * k) 64) (n - j - 1) j num w) := by
  have hz := zero32
  obtain ⟨dat, hdat⟩ : ∃ dat, n - j - 1 = dat := ⟨_, rfl⟩
  rw [hdat]
  obtain ⟨jh, hjh⟩ : ∃ jh, j / 2 = jh := ⟨_, rfl⟩
  have hq1 : ((N : Int) / 64) - 1 - (j : Int) = (dat : Int) := by omega
  have hq2 : (j : Int) / 2 = (jh : Int) := by omega
  obtain ⟨S, hS⟩ : ∃ S : Nat → List B8, (fun k => sub xs (64 * k) 64) = S := ⟨_, rfl⟩
  rw [hS]
  have hSk : ∀ k, S k = sub xs (64 * k) 64 := fun k => by rw [← hS]
  have hxl := hx.cells.1
  have h128 : 128 ≤ N := by omega
  obtain ⟨c1, hc1⟩ : ∃ c1, c - 64 = c1 := ⟨_, rfl⟩
  have hc64 : 64 ≤ c1 := by omega
  have hc1m : c1 ≤ 9223372036854775807 := by omega
  obtain ⟨cnt, hcnt⟩ : ∃ cnt, cntOf S = cnt := ⟨_, rfl⟩
  have hS1 : sub xs 64 64 = S 1 := by rw [hSk]
  have hSl : ∀ k, k < n → (S k).length = 64 := fun k hk => by rw [hSk]; exact sub_length (by omega)
  have hcb : cnt < 4294967296 := by
    rw [← hcnt]
    have := fromB_lt (sub (S 1) 12 4)
    rw [sub_length (by rw [hSl 1 (by omega)]; omega)] at this
    exact this
  have hb1 := new_below w (.cells Tbl.toArray 38)
  have H0 := Lib.hid (And.intro (TblV.new w) (And.intro (hx.below hb1) (And.intro hb1 (And.intro hSl (And.intro hSk (And.intro hc1 hcnt))))))
  have HN := Lib.hid (And.intro hN (And.intro hdat (And.intro hjh hje)))
  have HS1 := Lib.hid hS1
  clear hb1 hx hSl hSk hN hdat hjh hS hc1 hcnt hxl hS1 hje
  go_enter Tryz.func31, Tryz.ntmps31
  go_wp2_with fail
  refine (rsec_at _ g o N c 1 64 c1 (by omega) hc hcm rfl H0.out.2.2.2.2.2.1).mono ?_
  rintro e w1 ⟨rfl, rfl⟩
  have hb1 := H0.out.2.1.sub_ (k := 64) (n := 64) (c' := c1) (by omega) hc64 hc1m
  rw [HS1.out] at hb1
  have HB1 := Lib.hid hb1
  clear hb1
  go_wp2_with fail
  refine (rsmall_at _ A g (o + 64) c1 12 52 (c1 - 12) (S 1) HB1.out rfl (by omega) hc64 hc1m rfl).mono ?_
  rw [show fromB (sub (S 1) 12 4) = cnt from H0.out.2.2.2.2.2.2]
  rintro e w2 ⟨rfl, hW⟩
  have H2 := Lib.hid (And.intro (H0.out.1.below hW) (And.intro (HB1.out.below hW) (And.intro (H0.out.2.1.below hW) (below_of H0.out.2.2.1 hW))))
  clear hW
  by_cases hc1' : cnt < 1
  · have e1 : decide ((cnt : Int) < 1) = true := by simp; omega
    have HX := Lib.hid (show ¬ FoundB Ks S dat j num from fun h => by have := h.1; rw [H0.out.2.2.2.2.2.2] at this; omega)
    clear hc1'
    go_wp2_with fail
    go_ret2
    exact ⟨.inl ⟨⟨_, rfl⟩, HX.out⟩, H2.out.2.2.2⟩
  · have e1 : decide ((cnt : Int) < 1) = false := by simp; omega
    by_cases hcj' : jh < cnt
    · have e2 : decide (jh < cnt) = true := by simp; omega
      have HX := Lib.hid (show ¬ FoundB Ks S dat j num from fun h => by have := h.2.1; rw [H0.out.2.2.2.2.2.2, HN.out.2.2.1] at this; omega)
      clear hcj' hc1'
      go_wp2_with fail
      go_ret2
      exact ⟨.inl ⟨⟨_, rfl⟩, HX.out⟩, H2.out.2.2.2⟩
    · have e2 : decide (jh < cnt) = false := by simp; omega
      have hcnt15 : cnt ≤ 15 := by have := HN.out.2.2.1; omega
      have HC := Lib.hid (show 1 ≤ cnt ∧ cnt ≤ jh by omega)
      clear hcj' hc1'
      have hbd := new_below w2 (.cells (List.replicate 32 (Value.int .u8 0)).toArray 111)
      obtain ⟨d, hd⟩ : ∃ d, sub (S 1) 20 32 = d := ⟨_, rfl⟩
      have hdl : d.length = 32 := by rw [← hd]; exact sub_length (by rw [H0.out.2.2.2.1 1 (by omega)]; omega)
      have hkd : Blk (w2.alloc (.cells (List.replicate 32 (Value.int .u8 0)).toArray 111)) w2.heap.size 111 (Vb (cpy d 0)) := by rw [cpy_zero]; exact Blk.new w2 111 (List.replicate 32 (Value.int .u8 0))
      have H3 := Lib.hid (And.intro hkd hbd)
      have HD := Lib.hid (And.intro hd hdl)
      clear hbd hkd hd hdl
      go_wp2_with fail
      go_loopw [14] (fun iv wx => ∃ i : Nat, i ≤ 32 ∧ iv = .int .i64 i ∧ Blk wx w2.heap.size 111 (Vb (cpy d i)) ∧ Below w2.heap.size w2 wx) (fun iv _ => 32 - (intOf iv).toNat)
      case atStart => exact ⟨0, Nat.zero_le _, rfl, H3.out.1, H3.out.2⟩
      case round =>
        obtain ⟨i, hi, rfl, hk, hb⟩ := hrel
        by_cases hlt : i < 32
        · have hdi : i < d.length := by rw [HD.out.2]; exact hlt
          obtain ⟨x, hx⟩ : ∃ x, d[i]? = some x := ⟨_, List.getElem?_eq_getElem hdi⟩
          have hsx : (Vb (S 1))[20 + i]? = some (.int .u8 (nb x)) := by
            have h := hx
            rw [← HD.out.1] at h
            unfold sub at h
            rw [List.getElem?_take, if_pos hlt, List.getElem?_drop] at h
            rw [Vb_get, h]
            rfl
          obtain ⟨g', o', e, _, hgl, hcell⟩ := H2.out.2.1.cells.2 (by omega)
          cases e
          have e0 := hcell (20 + i) _ hsx
          have e1' := (hb.cell (p := ⟨g, o + 64 + (20 + i), none⟩) hgl).trans e0
          obtain ⟨u, e2'⟩ : ∃ u, wr.cell? ⟨w2.heap.size, i, none⟩ = some u := ⟨_, by rw [hk.cell, List.getElem?_eq_getElem (by rw [Vb_length, cpy_length HD.out.2 (by omega)]; exact hlt)]⟩
          have f2 := hk.frozen i
          have HK := Lib.hid (And.intro hk (And.intro hb hx))
          clear hdi hx hsx hcell e0 hk hb
          go_wp2_with fail
          go_roundw
          case rel => exact ⟨i + 1, by omega, by go_num, by rw [← cpy_set HD.out.2 HK.out.2.2]; exact HK.out.1.set_ i _, HK.out.2.1.setCell (Nat.le_refl _) _⟩
          case measure => simp [intOf]; omega
        · obtain rfl : i = 32 := by omega
          rw [cpy_all HD.out.2] at hk
          have hsz2 := hb.size
          have hszw := (below_of H2.out.2.2.2 hb).size
          have H4 := Lib.hid (And.intro hk (And.intro (H2.out.1.below hb) (And.intro (H2.out.2.2.1.below hb) (below_of H2.out.2.2.2 hb))))
          clear hk hb
          go_wp2_with fail
          obtain ⟨i1, hi1, hy0, hy1, hy2⟩ := info_parts (show (Tryz.prog.info? 52).map (fun i => (i.zero, i.size, i.bytes)) = some (some (.agg #[.int .i64 0, .slice none 0 0]), 2, 32) by kernel_rfl)
          have HJ := Lib.hid (And.intro hi1 (And.intro hy0 (And.intro hy1 hy2)))
          clear hi1 hy0 hy1 hy2
          have hi32 : (Tryz.prog.info? 111).map (·.size) = some (Vb d).length := info31.trans (by rw [Vb_length, HD.out.2])
          have HI32 := Lib.hid hi32
          clear hi32
          generalize wr = w3 at *
          go_loopw [16, 15] (fun iv tv wx => ∃ i : Nat, i ≤ cnt ∧ iv = .int .i64 i ∧ ORfs w3.heap.size (fun _ => True) wx tv i (wrsTo S i) ∧ (∀ i', i' < i → okN S dat num cnt d i') ∧ (secs (wrsTo S i)).Nodup ∧ Blk wx w2.heap.size 111 (Vb d) ∧ Below w3.heap.size w3 wx) (fun iv _ _ => cnt - (intOf iv).toNat)
          case atStart => exact ⟨0, Nat.zero_le _, rfl, ORfs.empty _ _ _, fun i' h => absurd h (by omega), by simp [wrsTo, secs], H4.out.1, Below.refl _ _⟩
          case round =>
            obtain ⟨i, hi, rfl, hor, hall, hnd, hk, hb⟩ := hrel
            have hszr := hb.size
            by_cases hlt : i < cnt
            · have hje := HN.out.2.2.2
              have hjh := HN.out.2.2.1
              have hjc := HC.out.2
              have hN' := HN.out.1
              obtain ⟨a, ha⟩ : ∃ a, 1 + 2 * i = a := ⟨_, rfl⟩
              obtain ⟨q, hq⟩ : ∃ q, 64 * a = q := ⟨_, rfl⟩
              obtain ⟨ca, hca⟩ : ∃ ca, c - q = ca := ⟨_, rfl⟩
              obtain ⟨a2, ha2⟩ : ∃ a, 2 + 2 * i = a := ⟨_, rfl⟩
              obtain ⟨q2, hq2⟩ : ∃ q, 64 * a2 = q := ⟨_, rfl⟩
              obtain ⟨cb, hcb'⟩ : ∃ ca, c - q2 = ca := ⟨_, rfl⟩
              have hai : (1 : Int) + 2 * (i : Int) = (a : Int) := by omega
              have hai2 : (2 : Int) + 2 * (i : Int) = (a2 : Int) := by omega
              have hqN : q + 64 ≤ N := by omega
              have hqN2 : q2 + 64 ≤ N := by omega
              have hca64 : 64 ≤ ca ∧ ca ≤ 9223372036854775807 := by omega
              have hcb64 : 64 ≤ cb ∧ cb ≤ 9223372036854775807 := by omega
              have han : a < n ∧ a2 < n := by omega
              have hx := H4.out.2.2.1.below hb
              have hba := hx.sub_ (k := q) (n := 64) (c' := ca) (by omega) hca64.1 hca64.2
              have hbb := hx.sub_ (k := q2) (n := 64) (c' := cb) (by omega) hcb64.1 hcb64.2
              rw [← hq, ← H0.out.2.2.2.2.1 a] at hba
              rw [← hq2, ← H0.out.2.2.2.2.1 a2] at hbb
              rw [hq] at hba
              rw [hq2] at hbb
              have HQ := Lib.hid (And.intro hq (And.intro hca (And.intro hq2 (And.intro hcb' (And.intro ha ha2)))))
              have HR := Lib.hid (And.intro hor (And.intro hall (And.intro hnd (And.intro hk (And.intro hb (And.intro hba hbb))))))
              clear hq hca hq2 hcb' ha ha2 hor hall hnd hk hb hba hbb hx hje hjh hjc hN'
              go_wp2_with fail
              refine (rsec_at _ g o N c a q ca hqN hc hcm HQ.out.1 HQ.out.2.1).mono ?_
              rintro e w5 ⟨rfl, rfl⟩
              go_wp2_with fail
              refine (rsmall_at _ A g (o + q) ca 16 48 (ca - 16) (S a) HR.out.2.2.2.2.2.1 rfl (by omega) hca64.1 hca64.2 rfl).mono ?_
              obtain ⟨no, hno⟩ : ∃ no, fromB (sub (S a) 16 4) = no := ⟨_, rfl⟩
              have hnob : no < 4294967296 := by
                rw [← hno]
                have := fromB_lt (sub (S a) 16 4)
                rw [sub_length (by rw [H0.out.2.2.2.1 a han.1]; omega)] at this
                exact this
              rw [hno]
              rintro e w6 ⟨rfl, hW⟩
              have H6 := Lib.hid (And.intro (HR.out.1.below hW) (And.intro (HR.out.2.2.2.1.below hW HR.out.2.2.2.1.lt) (And.intro (below_of HR.out.2.2.2.2.1 hW) (And.intro (HR.out.2.2.2.2.2.1.below hW) (And.intro (HR.out.2.2.2.2.2.2.below hW) hno)))))
              clear hW hno
              by_cases hnd2 : no < dat
              · have e2 : decide (dat ≤ no) = false := by simp; omega
                have HND := Lib.hid hnd2
                clear hnd2
                obtain ⟨bn, hbn⟩ : ∃ b, decide (S a = noteB num i cnt no d) = b := ⟨_, rfl⟩
                have HBN := Lib.hid hbn
                clear hbn
                have ⟨hr1, hr2⟩ := rd32_blk H6.out.2.1 (by rw [Vb_length, HD.out.2])
                go_wp2_with (first
                  | (go_at_call 54; refine (rnote_any _ num i cnt no d HD.out.2 hnum (by omega) (by omega) (by omega)).mono ?_; rintro e w7 ⟨g7, rfl, _, hB7, hW⟩; have H7 := Lib.hid (And.intro hB7 hW); clear hB7 hW))
                refine (same_bts (b := bn) (H6.out.2.2.2.1.below H7.out.2) (Bts.whole (A := fun _ => True) H7.out.1 (.inl rfl) trivial (noteB_length _ _ _ _ HD.out.2) (by omega)) HBN.out).mono ?_
                rintro e w8 ⟨rfl, hW⟩
                have H8 := Lib.hid (below_of H7.out.2 hW)
                clear hW hr1 hr2
                cases bn with
                | false =>
                  have HX := Lib.hid (show ¬ FoundB Ks S dat j num from fun h => by
                    have h1 := (h.2.2.1 i (by rw [H0.out.2.2.2.2.2.2]; exact hlt)).2
                    rw [H0.out.2.2.2.2.2.2, HD.out.1, HQ.out.2.2.2.2.1, H6.out.2.2.2.2.2] at h1
                    exact of_decide_eq_false HBN.out h1)
                  have hbf := below_of H4.out.2.2.2 (below_of H6.out.2.2.1 H8.out)
                  have HF := Lib.hid hbf
                  clear hbf
                  go_wp2_with fail
                  go_ret2
                  exact ⟨.inl ⟨⟨_, rfl⟩, HX.out⟩, HF.out⟩
                | true =>
                  have HOK := Lib.hid (show okN S dat num cnt d i from by
                    unfold okN
                    rw [HQ.out.2.2.2.2.1, H6.out.2.2.2.2.2]
                    exact ⟨HND.out, of_decide_eq_true HBN.out⟩)
                  obtain ⟨Pl, cl, hform⟩ := H6.out.1.form
                  subst hform
                  have H9 := Lib.hid (And.intro (H6.out.1.below H8.out) (And.intro (H6.out.2.1.below H8.out H6.out.2.1.lt) (And.intro (below_of H6.out.2.2.1 H8.out) (H6.out.2.2.2.2.1.below H8.out))))
                  go_wp2_with fail
                  go_loop [19] (fun kv => ∃ k : Nat, k ≤ i ∧ kv = .int .i64 k ∧ ∀ k', k' < k → (wAt S k').1 ≠ (no : Int)) (fun kv => i - (intOf kv).toNat)
                  case atStart => exact ⟨0, Nat.zero_le _, rfl, fun k' h => absurd h (by omega)⟩
                  case round =>
                    obtain ⟨k, hk, rfl, hne⟩ := hrel
                    by_cases hki : k < i
                    · have hp := wrsTo_get (S := S) (k := i) (i := k) hki
                      obtain ⟨gl, Q, m2, k2, rfl, hgl, hAg, k0, k1, _, _, _, _⟩ := H9.out.1.toRfs.at_ hp
                      have HK := Lib.hid hne
                      clear hne hp
                      by_cases heq : (wAt S k).1 = (no : Int)
                      · have e3 : ((wAt S k).1 == (no : Int)) = true := by simpa using heq
                        have HX := Lib.hid (show ¬ FoundB Ks S dat j num from fun h => by
                          have h1 := nodup_ne h.2.2.2.1 hki (by rw [H0.out.2.2.2.2.2.2]; exact hlt)
                          rw [heq] at h1
                          unfold wAt at h1
                          rw [HQ.out.2.2.2.2.1, H6.out.2.2.2.2.2] at h1
                          exact h1 rfl)
                        have HF := Lib.hid (below_of H4.out.2.2.2 H9.out.2.2.1)
                        clear heq
                        go_wp2_with fail
                        go_ret2
                        exact ⟨.inl ⟨⟨_, rfl⟩, HX.out⟩, HF.out⟩
                      · have e3 : ((wAt S k).1 == (no : Int)) = false := by simpa using heq
                        have HE := Lib.hid heq
                        clear heq
                        go_wp2_with fail
                        go_round
                        case rel =>
                          refine ⟨k + 1, by omega, by go_num, fun k' hk' => ?_⟩
                          by_cases h : k' = k
                          · rw [h]; exact HE.out
                          · exact HK.out k' (by omega)
                        case measure => simp [intOf]; omega
                    · obtain rfl : k = i := by omega
                      have HNE := Lib.hid hne
                      obtain ⟨cells, ho, hxl, hcs⟩ := H9.out.1
                      have hs8 := H9.out.2.2.1.size
                      have hb8 := new_below w8 (.cells #[.int .i64 (no : Int), .slice (some ⟨g, o + q2, none⟩) 64 cb] 52)
                      have HO := Lib.hid (And.intro ho (And.intro hxl (And.intro hcs hb8)))
                      clear hne ho hxl hcs hb8
                      go_wp2_with fail
                      refine (rsec_at _ g o N c a2 q2 cb hqN2 hc hcm HQ.out.2.2.1 HQ.out.2.2.2.1).mono ?_
                      rintro e w9 ⟨rfl, rfl⟩
                      go_wp2_with (at_builtin; refine wpList_append_lies _ rfl (.tmp 90) (.tmp 98) 45 rfl w3.heap.size 52 i1 (.agg #[.int .i64 0, .slice none 0 0]) 2 32 Tryz.underlying45 HJ.out.1 HJ.out.2.1 HJ.out.2.2.1 HJ.out.2.2.2 rfl (by decide) (.slice Pl k cl) k cells rfl (HO.out.1.alloc _) ⟨w8.heap.size, 0, none⟩ 1 1 [.int .i64 (no : Int), .slice (some ⟨g, o + q2, none⟩) 64 cb] rfl rfl (new_row w8 [_, _] 52) (pair_one _ _ _ _) (by decide) (by unfold maxLen; omega) (by omega) (by simp; omega) (w8.heap.size + 1) (by simp) ?_; intro g9 cap9 w9 ho9 hg9 hat9 hl9; have H10 := Lib.hid (And.intro ho9 hg9); clear ho9 hg9 hat9 hl9)
                      have hown8 := HO.out.1.alloc (.cells #[.int .i64 (no : Int), .slice (some ⟨g, o + q2, none⟩) 64 cb] 52)
                      have hkb := H9.out.2.1.below HO.out.2.2.2 H9.out.2.1.lt
                      have hk9 := hkb.grown H10.out.2 (fun e => own_blk_ne hown8 hkb (by decide) e.symm)
                      have hb9 : Below w3.heap.size w3 w9 := (below_of H9.out.2.2.1 HO.out.2.2.2).grown H10.out.2 (by simp; omega) (fun q hq => own_ge hown8 q hq)
                      have ho9 : ORfs w3.heap.size (fun _ => True) w9 (.slice (some ⟨g9, 0, none⟩) (k + 1) cap9) (k + 1) (wrsTo S k ++ [((no : Int), S a2)]) := by
                        refine ORfs.add hown8 HO.out.2.1 H10.out.2 (fun jj pp hpp => ?_) rfl H10.out.1 (fun jj pp hpp => ?_)
                        · obtain ⟨c0, u, c1, hu⟩ := HO.out.2.2.1 jj pp hpp
                          exact ⟨c0, u, c1, hu.below HO.out.2.2.2⟩
                        · match jj, hpp with
                          | 0, hpp =>
                            simp only [List.getElem?_cons_zero, Option.some.injEq] at hpp
                            subst hpp
                            exact ⟨rfl, _, rfl, (H9.out.2.2.2.mono (fun _ _ _ => trivial)).below HO.out.2.2.2⟩
                      have hwa : wAt S k = ((no : Int), S a2) := by
                        unfold wAt
                        rw [HQ.out.2.2.2.2.1, H6.out.2.2.2.2.2, show a + 1 = a2 by have := HQ.out.2.2.2.2.1; have := HQ.out.2.2.2.2.2; omega]
                      have hnd9 := nodup_wsnoc (S := S) (i := k) HR.out.2.2.1 (fun k' hk' => by rw [hwa]; exact HNE.out k' hk')
                      rw [← hwa, ← wrsTo_snoc] at ho9
                      have HE := Lib.hid (And.intro ho9 (And.intro hnd9 (And.intro hk9 hb9)))
                      clear hown8 hkb hk9 hb9 ho9 hwa hnd9
                      go_roundw
                      case rel =>
                        have hall9 : ∀ i', i' < k + 1 → okN S dat num cnt d i' := fun i' hi' => by
                          by_cases h : i' = k
                          · rw [h]; exact HOK.out
                          · exact HR.out.2.1 i' (by omega)
                        (repeat apply Exists.intro)
                        exact ⟨⟨k + 1, by omega, by go_num, HE.out.1, hall9, HE.out.2.1, HE.out.2.2.1, HE.out.2.2.2⟩, rfl⟩
                      case measure => simp [intOf]; omega
              · have e2 : decide (dat ≤ no) = true := by simp; omega
                have HX := Lib.hid (show ¬ FoundB Ks S dat j num from fun h => by
                  have h1 := (h.2.2.1 i (by rw [H0.out.2.2.2.2.2.2]; exact hlt)).1
                  rw [HQ.out.2.2.2.2.1, H6.out.2.2.2.2.2] at h1
                  omega)
                have HF := Lib.hid (below_of H4.out.2.2.2 H6.out.2.2.1)
                clear hnd2
                go_wp2_with fail
                go_ret2
                exact ⟨.inl ⟨⟨_, rfl⟩, HX.out⟩, HF.out⟩
            · obtain rfl : i = cnt := by omega
              obtain ⟨Pl, cl, hform⟩ := hor.form
              subst hform
              obtain ⟨X, hX⟩ : ∃ X, digOf Ks num (wrsTo S i) = X := ⟨_, rfl⟩
              have hXl : X.length = 32 := by rw [← hX]; exact digOf_length _ _ _
              obtain ⟨bx, hbx⟩ : ∃ b, decide (X = d) = b := ⟨_, rfl⟩
              have heq : ∀ W, (Op.equalIn 10000 111 (.agg (Vb X).toArray) (.agg (Vb d).toArray)).run Tryz.prog W = .ok bx W := fun W => by rw [← hbx]; exact eql32 X d hXl HD.out.2 W
              have hok : ∀ p ∈ wrsTo S i, 0 ≤ p.1 ∧ p.1 ≤ 4294967296 ∧ p.2.length = 64 := by
                intro p hp
                obtain ⟨k, hk, rfl⟩ := List.mem_map.1 hp
                have hik := List.mem_range.1 hk
                have h3 := HN.out.2.2.1
                have h4 := HC.out.2
                have h5 := HN.out.2.2.2
                have hfl := fromB_lt (sub (S (1 + 2 * k)) 16 4)
                have hl := H0.out.2.2.2.1 (1 + 2 * k) (by omega)
                rw [sub_length (by rw [hl]; omega)] at hfl
                refine ⟨by unfold wAt; omega, ?_, H0.out.2.2.2.1 _ (by omega)⟩
                unfold wAt
                show ((fromB (sub (S (1 + 2 * k)) 16 4) : Nat) : Int) ≤ _
                omega
              have hu := Tryz.underlying111
              have hi32 := HI32.out
              have ht0 := (H4.out.2.1.below hb).drew
              have hr0 := (hk.below (drew_below _) hk.lt).range
              have HR := Lib.hid (And.intro hor (And.intro hall (And.intro hnd (And.intro hk (And.intro hb (And.intro hX (And.intro hbx hok)))))))
              clear hor hall hnd hk hX hbx hok
              go_wp2_with fail
              go_region_held3 (fun w' => TblV w' (.pointer (some ⟨w.heap.size, 0, none⟩)) ∧ w'.rangeAt w2.heap.size 0 (Vb d))
                (first | exact ⟨ht0, hr0⟩ | exact ⟨ht5, hr5⟩)
                (first
                  | (go_at_call 55; refine (rsum_any _ (fun g => True ∨ w3.heap.size ≤ g) num i Pl cl (wrsTo S i) (HR.out.1.toRfs.below (drew_below _)) hnum hcnt15 HR.out.2.2.2.2.2.2.2).mono ?_; rw [HR.out.2.2.2.2.2.1]; rintro e w5 ⟨rfl, hW⟩; have ht5 := (H4.out.2.1.below hb).of_drew hW; have hr5 := (blk_drew HR.out.2.2.2.1 hW).range; have H5 := Lib.hid (below_drew (Below.refl _ _) hW); clear hW))
              clear heq
              go_wp2_with fail
              go_ret2
              refine ⟨?_, below_of H4.out.2.2.2 (below_of HR.out.2.2.2.2.1 H5.out)⟩
              have hF : FoundB Ks S dat j num ↔ X = d := by
                unfold FoundB
                rw [H0.out.2.2.2.2.2.2, HD.out.1, HR.out.2.2.2.2.2.1]
                exact ⟨fun h => h.2.2.2.2, fun h => ⟨HC.out.1, by have := HN.out.2.2.1; have := HC.out.2; omega, HR.out.2.1, HR.out.2.2.1, h⟩⟩
              have hbx := HR.out.2.2.2.2.2.2.1
              cases bx with
              | true =>
                refine .inr ⟨_, rfl, hF.2 (of_decide_eq_true hbx), ?_⟩
                rw [H0.out.2.2.2.2.2.2]
                exact (HR.out.1.below H5.out).lower hszw
              | false => exact .inl ⟨⟨_, rfl⟩, fun h => of_decide_eq_false hbx (hF.1 h)⟩
end Go.Proofs.YtlfgbmfojghhcaaGreatDoor
end

/-
  The document's Found, and what the log finds: the same. Plain theorems; no condition but the bounds of the numbers.
-/

section
set_option maxRecDepth 100000
set_option linter.unusedSimpArgs false
set_option linter.unusedVariables false
namespace Go.Proofs.YtlfgbmfojghhcaaGreatDoor
open Go.RowKit

theorem big_snoc (size n : Nat) : big (size + 1) n = big size (n / 256) ++ [BitVec.ofNat 8 n] := by
  unfold big
  rw [List.range_succ, List.map_append]
  congr 1
  · apply List.map_congr_left
    intro j hj
    have hj := List.mem_range.1 hj
    unfold bigAt
    congr 1
    rw [show 8 * (size + 1 - 1 - j) = 8 + 8 * (size - 1 - j) by omega, Nat.pow_add, ← Nat.div_div_eq_div_mul]
  · unfold bigAt
    simp
theorem fromB_big : ∀ (size n : Nat), n < 256 ^ size → fromB (big size n) = n
  | 0, n, h => by
    have : n = 0 := by simpa using h
    subst this
    rfl
  | size + 1, n, h => by
    rw [big_snoc, fromB_snoc, fromB_big size (n / 256) (by rw [Nat.pow_succ] at h; omega)]
    simp
    omega
theorem sub_at {xs ys : List B8} {o n : Nat} (h1 : (xs.take (o + n)).drop o = ys) : sub xs o n = ys := by
  unfold sub
  rw [← h1, List.take_drop]
theorem sub_mid (a b c : List B8) {o n : Nat} (ha : a.length = o) (hb : b.length = n) : sub (a ++ (b ++ c)) o n = b := by
  subst ha hb
  unfold sub
  rw [List.drop_left, List.take_left]
theorem sub_first (b c : List B8) {n : Nat} (hb : b.length = n) : sub (b ++ c) 0 n = b := by
  have := sub_mid [] b c rfl hb
  rwa [List.nil_append] at this
section
variable {num place count no : Nat} {d : List B8}
theorem noteB_parts : noteB num place count no d = big 8 num ++ (big 4 place ++ (big 4 count ++ (big 4 no ++ (d ++ List.replicate (64 - (big 8 num ++ (big 4 place ++ (big 4 count ++ (big 4 no ++ d)))).length) 0)))) := by
  unfold noteB pad64
  simp only [List.append_assoc]
theorem noteB_num (h : num < 256 ^ 8) : fromB (sub (noteB num place count no d) 0 8) = num := by
  rw [noteB_parts, sub_first _ _ (big_length _ _), fromB_big _ _ h]
theorem noteB_count (h : count < 256 ^ 4) : fromB (sub (noteB num place count no d) 12 4) = count := by
  rw [noteB_parts, ← List.append_assoc (big 8 num), sub_mid _ _ _ (by simp [big_length]) (big_length _ _), fromB_big _ _ h]
theorem noteB_no (h : no < 256 ^ 4) : fromB (sub (noteB num place count no d) 16 4) = no := by
  rw [noteB_parts, ← List.append_assoc (big 8 num), ← List.append_assoc (big 8 num ++ big 4 place), sub_mid _ _ _ (by simp [big_length]) (big_length _ _), fromB_big _ _ h]
theorem noteB_dig (hd : d.length = 32) : sub (noteB num place count no d) 20 32 = d := by
  rw [noteB_parts, ← List.append_assoc (big 8 num), ← List.append_assoc (big 8 num ++ big 4 place), ← List.append_assoc (big 8 num ++ big 4 place ++ big 4 count), sub_mid _ _ _ (by simp [big_length]) hd]
end
theorem headB_num (ks : List B32) {num : Nat} (h : num < 256 ^ 8) : fromB (sub (headB ks num) 0 8) = num := by
  unfold headB pad64
  rw [List.append_assoc, sub_first _ _ (big_length _ _), fromB_big _ _ h]
theorem sub_zeros (o n : Nat) : fromB (sub zeros64 o n) = 0 := zeros_from o n
theorem doneB_head (ks : List B32) {num : Nat} (h0 : 0 < num) (h : num ≤ top60) : doneB ks (headB ks num) = some num := by
  have hb : num < 256 ^ 8 := by unfold top60 at h; omega
  have hn := headB_num ks hb
  have hz : headB ks num ≠ zeros64 := fun e => by
    rw [e, sub_zeros] at hn
    omega
  have := doneB_right ks hz (by rw [hn]; exact h) (by rw [hn])
  rw [hn] at this
  exact this

theorem notes_get {S : Nat → List B8} {cnt num : Nat} {d : List B8} (h : notesTo S cnt = notesOf num (wrsTo S cnt).length d (wrsTo S cnt)) {i : Nat} (hi : i < cnt) : S (1 + 2 * i) = noteB num i cnt (fromB (sub (S (1 + 2 * i)) 16 4)) d := by
  have h1 : (notesTo S cnt)[i]? = some (S (1 + 2 * i)) := by simp [notesTo, hi]
  rw [h, notesOf_get (wrsTo_get hi), wrsTo_len] at h1
  exact (Option.some.inj h1).symm
theorem found_full {ks : List B32} {S : Nat → List B8} {dat j num : Nat} (hnum : num ≤ top60) (hl : ∀ k, k ≤ j → (S k).length = 64) (hj : j ≤ 1024) : FoundB ks S dat j num ↔ Full ks S dat j num := by
  have hb : num < 256 ^ 8 := by unfold top60 at hnum; omega
  constructor
  · intro ⟨h1, h2, h3, h4, h5⟩
    rw [← h5] at h3
    have hc : cntOf S < 256 ^ 4 := by omega
    refine ⟨hnum, h1, h2, fun i hi => ?_, h4, ?_⟩
    · have h := h3 i hi
      refine ⟨?_, ?_, h.1⟩
      · rw [h.2, noteB_num hb]
      · have e := noteB_count (num := num) (place := i) (no := fromB (sub (S (1 + 2 * i)) 16 4)) (d := digOf ks num (wrsTo S (cntOf S))) hc
        rw [← h.2] at e
        exact e
    · apply List.ext_getElem?
      intro i
      by_cases hi : i < cntOf S
      · rw [notesOf_get (wrsTo_get hi), wrsTo_len]
        have e := (h3 i hi).2
        have e2 : (notesTo S (cntOf S))[i]? = some (S (1 + 2 * i)) := by simp [notesTo, hi]
        rw [e2]
        congr 1
      · rw [List.getElem?_eq_none (by simp [notesTo]; omega), List.getElem?_eq_none (by rw [notesOf_length, wrsTo_len]; omega)]
  · intro ⟨_, h1, h2, h3, h4, h5⟩
    have hd : sub (S 1) 20 32 = digOf ks num (wrsTo S (cntOf S)) := by
      have e := notes_get h5 (i := 0) (by omega)
      simp only [Nat.mul_zero, Nat.add_zero] at e
      have e2 := noteB_dig (num := num) (place := 0) (count := cntOf S) (no := fromB (sub (S 1) 16 4)) (digOf_length ks num (wrsTo S (cntOf S)))
      rw [← e] at e2
      exact e2
    refine ⟨h1, h2, fun i hi => ?_, h4, hd.symm⟩
    rw [hd]
    exact ⟨(h3 i hi).2.2, notes_get h5 hi⟩
theorem found_num {ks : List B32} {S : Nat → List B8} {dat j num : Nat} (h : FoundB ks S dat j num) (hb : num < 256 ^ 8) : fromB (sub (S 1) 0 8) = num := by
  have e := (h.2.2.1 0 (by have := h.1; omega)).2
  simp only [Nat.mul_zero, Nat.add_zero] at e
  have e2 := noteB_num (num := num) (place := 0) (count := cntOf S) (no := fromB (sub (S 1) 16 4)) (d := sub (S 1) 20 32) hb
  rw [← e] at e2
  exact e2
/-- The data of a disk's bytes. -/
theorem data_drop {xs : List B8} {j d : Nat} (hl : xs.length = 64 * (1 + j + d)) : dataS (fun k => sub xs (64 * k) 64) j d = xs.drop (64 * (1 + j)) := by
  have hs : ∀ k, k < d → (sub xs (64 * (1 + j + k)) 64).length = 64 := fun k hk => sub_length (by omega)
  apply List.ext_getElem?
  intro i
  rw [List.getElem?_drop]
  by_cases hi : i < 64 * d
  · rw [dataS_get hs i hi]
    unfold sub
    rw [List.getElem?_take, if_pos (by omega), List.getElem?_drop]
    congr 1
    omega
  · rw [List.getElem?_eq_none (by rw [dataS_length hs]; omega), List.getElem?_eq_none (by omega)]
end Go.Proofs.YtlfgbmfojghhcaaGreatDoor
end

/-
  The document's Recover: of a disk's bytes. Conditions: the bytes are a disk's; the journal has room for at most 15 writes.
-/

section
set_option maxRecDepth 100000
set_option linter.unusedSimpArgs false
set_option linter.unusedVariables false
namespace Go.Proofs.YtlfgbmfojghhcaaGreatDoor
open Go.RowKit
attribute [local go_sem ↓] exec_loadTbl

theorem results_tmp4 {fn : Func} {t u v x : Tmp} (h : fn.results = #[.tmp t, .tmp u, .tmp v, .tmp x]) (tmps : Array Value) (P : Program) (w : World) :
    (results fn tmps).run P w = .ok (.tuple #[tmps.getD t undef, tmps.getD u undef, tmps.getD v undef, tmps.getD x undef]) w := by
  simp [results, h]
/-- What Recover answers: the data, the number, whether something was redone, the error. -/
def rrecPost (A : Nat → Prop) (S : Nat → List B8) (d j : Nat) (w : World) (e : Ending) (w' : World) : Prop :=
  ((doneB Ks (S 0) = none ∧ e = .returned (.tuple #[.slice none 0 0, .int .i64 0, .bool false, .int .i64 5])) ∨
    (∃ n v, doneB Ks (S 0) = some n ∧ e = .returned (.tuple #[v, .int .i64 n, .bool false, .int .i64 0]) ∧ ¬ Full Ks S d j (n + 1) ∧ Bts (fun x => A x ∨ w.heap.size ≤ x) w' v (dataS S j d)) ∨
    (∃ n v, doneB Ks (S 0) = some n ∧ e = .returned (.tuple #[v, .int .i64 ((n : Int) + 1), .bool true, .int .i64 0]) ∧ Full Ks S d j (n + 1) ∧ fromB (sub (S 1) 0 8) = n + 1 ∧ Bts (fun x => A x ∨ w.heap.size ≤ x) w' v (layB (dataS S j d) (wrsTo S (cntOf S))))) ∧ Below w.heap.size w w'

theorem rsec_zero (w : World) (g o N c : Nat) (h1 : 64 ≤ N) (h2 : N ≤ c) (h3 : c ≤ 9223372036854775807) :
    Calls Tryz.prog 30 #[.slice (some ⟨g, o, none⟩) N c, .int .i64 0] w fun e w' => e = .returned (.slice (some ⟨g, o, none⟩) 64 c) ∧ w = w' := by
  have h := rsec_at w g o N c 0 0 c (by omega) h2 h3 rfl (by omega)
  rw [Nat.add_zero] at h
  exact h

set_option maxHeartbeats 4000000 in
theorem rrecover_any (w : World) (A : Nat → Prop) (g o N c n j : Nat) (xs : List B8) (hx : Bts A w (.slice (some ⟨g, o, none⟩) N c) xs) (hN : N = 64 * n) (hc : N ≤ c) (hcm : c ≤ 9223372036854775807) (hn : n ≤ 4096) (hj : j + 1 < n) (hj2 : 2 ≤ j) (hj30 : j ≤ 30) (hje : j % 2 = 0) :
    Calls Tryz.prog 9 #[.agg Tbl.toArray, .slice (some ⟨g, o, none⟩) N c, .int .i64 j] w (rrecPost A (fun k => sub xs (64 * k) 64) (n - j - 1) j w) := by
  obtain ⟨d, hd⟩ : ∃ d, n - j - 1 = d := ⟨_, rfl⟩
  rw [hd]
  have hxl := hx.cells.1
  have hdrop := data_drop (xs := xs) (j := j) (d := d) (by omega)
  have hS0 : sub xs 0 64 = (fun k => sub xs (64 * k) 64) 0 := rfl
  obtain ⟨S, hS⟩ : ∃ S : Nat → List B8, (fun k => sub xs (64 * k) 64) = S := ⟨_, rfl⟩
  rw [hS] at hdrop hS0 ⊢
  have hSk : ∀ k, S k = sub xs (64 * k) 64 := fun k => by rw [← hS]
  have hSl : ∀ k, k < n → (S k).length = 64 := fun k hk => by rw [hSk]; exact sub_length (by omega)
  have hb1 := new_below w (.cells Tbl.toArray 38)
  obtain ⟨q, hq⟩ : ∃ q, 64 * (1 + j) = q := ⟨_, rfl⟩
  have hqi : (64 : Int) * (1 + (j : Int)) = (q : Int) := by omega
  have hqN : q ≤ N := by omega
  have hcq : ¬ c = q := by omega
  obtain ⟨md, hmd⟩ : ∃ md, N - q = md := ⟨_, rfl⟩
  have hmdi : md = 64 * d := by omega
  obtain ⟨cd, hcd⟩ : ∃ cd, c - q = cd := ⟨_, rfl⟩
  have hcdb : md ≤ cd ∧ cd ≤ 9223372036854775807 := by omega
  have hdat := hx.sub_ (k := q) (n := md) (c' := cd) (by omega) hcdb.1 hcdb.2
  have hde : sub xs q md = dataS S j d := by
    rw [hdrop, hq]
    unfold sub
    rw [List.take_of_length_le (by rw [List.length_drop]; omega)]
  rw [hde] at hdat
  have hdl : (dataS S j d).length = md := hdat.cells.1
  have h0 := hx.sub_ (k := 0) (n := 64) (c' := c) (by omega) (by omega) hcm
  rw [hS0, Nat.add_zero] at h0
  have H0 := Lib.hid (And.intro (TblV.new w) (And.intro (hx.below hb1) (And.intro (h0.below hb1) (And.intro (hdat.below hb1) (And.intro hb1 (And.intro hSl (And.intro hS (And.intro hq (And.intro hd (And.intro hN hmdi))))))))))
  have HQ := Lib.hid (And.intro hmd hcd)
  have ht0 := TblV.new w
  clear hx hdrop hS0 hSk hSl hb1 hdat hde h0 hS hq hd hxl hmd hcd hdl
  have HE := Lib.hid (And.intro hN (And.intro hje hmdi))
  have hNb : 128 ≤ N := by omega
  clear hN hje hmdi
  obtain ⟨r, hr⟩ : ∃ r, doneB Ks (S 0) = r := ⟨_, rfl⟩
  have HRR := Lib.hid hr
  clear hr
  go_enter Tryz.func9, Tryz.ntmps9
  go_wp2_with fail
  go_region_held3 (fun w' => TblV w' (.pointer (some ⟨w.heap.size, 0, none⟩)))
    (first | exact ht3 | exact ht0.drew)
    (first
      | (go_at_call 30; refine (rsec_zero _ g o N c (by omega) hc hcm).mono ?_; rintro e w2 ⟨rfl, rfl⟩)
      | (go_at_call 29; refine (rnumber_any _ A g o c (S 0) (H0.out.2.2.1.below (drew_below _)) (by omega) hcm).mono ?_; rw [HRR.out]; rintro e w3 ⟨rfl, hW⟩; have ht3 := ht0.of_drew hW; have H3 := Lib.hid (below_drew (Below.refl _ _) hW); clear hW))
  cases r with
  | none =>
    have e1 : numOf none = -1 := rfl
    rw [e1] at *
    go_wp2_with fail
    refine bodyPost_ret (results_tmp4 rfl _ _ _) rfl ?_
    exact ⟨.inl ⟨HRR.out, rfl⟩, H0.out.2.2.2.2.1.trans (H3.out.mono (by simp))⟩
  | some dn =>
    have htop := doneB_le HRR.out
    have htb : dn ≤ 1152921504606846976 := by unfold top60 at htop; exact htop
    have e1 : numOf (some dn) = (dn : Int) := rfl
    rw [e1] at *
    clear e1 htop
    have H4 := Lib.hid (And.intro (H0.out.2.1.below H3.out) (And.intro (H0.out.2.2.2.1.below H3.out) (below_of H0.out.2.2.2.2.1 H3.out)))
    obtain ⟨num, hnum⟩ : ∃ num, dn + 1 = num := ⟨_, rfl⟩
    have hni : (dn : Int) + 1 = (num : Int) := by omega
    have HM := Lib.hid hnum
    have hnb : num ≤ 1152921504606846977 := by omega
    clear hnum
    go_wp2_with fail
    refine (rfound_any _ A g o N c n j num xs H4.out.1 HE.out.1 hc hcm hn hj hj2 hj30 HE.out.2.1 (by omega)).mono ?_
    rw [H0.out.2.2.2.2.2.2.1, H0.out.2.2.2.2.2.2.2.2.1]
    rintro e w4 ⟨hres, hW⟩
    have H5 := Lib.hid (And.intro (H4.out.2.1.below hW) (below_of H4.out.2.2 hW))
    clear hW
    have hff : num ≤ top60 → (FoundB Ks S d j num ↔ Full Ks S d j num) := fun h => found_full h (fun k hk => H0.out.2.2.2.2.2.1 k (by omega)) (by omega)
    have HFF := Lib.hid hff
    clear hff
    rcases hres with ⟨⟨v, rfl⟩, hno⟩ | ⟨v, rfl, hF, hor⟩
    · have HNF := Lib.hid (show ¬ Full Ks S d j (dn + 1) from fun h => by rw [HM.out] at h; exact hno ((HFF.out h.1).2 h))
      clear hno
      go_wp2_with fail
      refine bodyPost_ret (results_tmp4 rfl _ _ _) rfl ?_
      exact ⟨.inr (.inl ⟨dn, _, HRR.out, rfl, HNF.out, by rw [HQ.out.1, HQ.out.2]; exact H5.out.1.mono (fun _ h _ => .inl h)⟩), H5.out.2⟩
    · by_cases hlast : 1152921504606846976 ≤ dn
      · have e2 : decide ((1152921504606846976 : Int) ≤ (dn : Int)) = true := by simp; omega
        have HNF := Lib.hid (show ¬ Full Ks S d j (dn + 1) from fun h => by have := h.1; unfold top60 at this; omega)
        clear hlast hF hor
        go_wp2_with fail
        refine bodyPost_ret (results_tmp4 rfl _ _ _) rfl ?_
        exact ⟨.inr (.inl ⟨dn, _, HRR.out, rfl, HNF.out, by rw [HQ.out.1, HQ.out.2]; exact H5.out.1.mono (fun _ h _ => .inl h)⟩), H5.out.2⟩
      · have e2 : decide ((1152921504606846976 : Int) ≤ (dn : Int)) = false := by simp; omega
        have hfull := (HFF.out (by have := HM.out; unfold top60; omega)).1 hF
        have hnm := found_num hF (by omega)
        obtain ⟨P, cl, hform⟩ := hor.form
        subst hform
        have hok : ∀ p ∈ wrsTo S (cntOf S), 0 ≤ p.1 ∧ p.1 < (d : Nat) ∧ p.2.length = 64 := by
          intro p hp
          obtain ⟨k, hk, rfl⟩ := List.mem_map.1 hp
          have hik := List.mem_range.1 hk
          have h1 := hfull.2.2.1
          refine ⟨by unfold wAt; omega, ?_, H0.out.2.2.2.2.2.1 _ (by omega)⟩
          unfold wAt
          show ((fromB (sub (S (1 + 2 * k)) 16 4) : Nat) : Int) < _
          have := (hfull.2.2.2.1 k hik).2.2
          omega
        have HX := Lib.hid (And.intro hfull (And.intro hnm (And.intro hor hok)))
        have hd0 : 0 < d := by have := H0.out.2.2.2.2.2.2.2.2.1; omega
        have hd1 : d ≤ 4096 := by have := H0.out.2.2.2.2.2.2.2.2.1; omega
        clear hlast hF hfull hnm hor hok
        go_wp2_with fail
        refine (rlay_any _ A (fun g => True ∨ w3.heap.size ≤ g) _ _ _ d (dataS S j d) P (cntOf S) cl (wrsTo S (cntOf S)) (by rw [HQ.out.1, HQ.out.2]; exact H5.out.1) HX.out.2.2.1.toRfs (by rw [HQ.out.1]; exact HE.out.2.2) hd0 hd1 HX.out.2.2.2).mono ?_
        rintro e w5 ⟨v, rfl, hv, hW⟩
        have H6 := Lib.hid (And.intro hv (below_of H5.out.2 hW))
        clear hv hW
        go_wp2_with fail
        refine bodyPost_ret (results_tmp4 rfl _ _ _) rfl ?_
        refine ⟨.inr (.inr ⟨dn, v, HRR.out, ?_, by rw [HM.out]; exact HX.out.1, by rw [HM.out]; exact HX.out.2.1, ?_⟩), H6.out.2⟩
        · rw [show (dn : Int) + 1 = (num : Int) by have := HM.out; omega]
          rfl
        · have hl : (layB (dataS S j d) (wrsTo S (cntOf S))).length = N - q := by rw [layB_length]; exact (show Bts A w3 (.slice (some ⟨g, o + q, none⟩) (N - q) (c - q)) (dataS S j d) by rw [HQ.out.1, HQ.out.2]; exact H4.out.2.1).cells.1
          exact (bts_len hl H6.out.1).mono (fun _ h _ => .inr (Nat.le_trans H5.out.2.size h))
end Go.Proofs.YtlfgbmfojghhcaaGreatDoor
end

/-
  mend, where the head isn't right, and where the journal begins with the next number. Conditions: the disk has power that never goes; the journal has room for at most 15 writes.
-/

section
set_option maxRecDepth 100000
set_option linter.unusedSimpArgs false
set_option linter.unusedVariables false
namespace Go.Proofs.YtlfgbmfojghhcaaGreatDoor
open Go.RowKit

set_option maxHeartbeats 1600000 in
theorem mend_bad (ks : List B32) (B : Nat) (w : World) (D L G n j : Nat) (S : Nat → List B8) (cw cf done : Nat) (x : Int × Int) (red : Bool) (hd : Idle B D L n S cw cf w) (hB : B ≤ w.heap.size) (hK : Roots ks w) (hG : Blk w G 87 (logCells D j x done red))
    (hj : j + 1 < n) (hdn : doneB ks (S 0) = none) :
    Calls Tryz.prog 51 #[.pointer (some ⟨G, 0, none⟩)] w (mendPost B D L G n j S cw cf x done red 5 w) := by
  have hnb := hd.bound
  have hpos := hK.pos
  obtain ⟨g0, g1, g5, g6⟩ := log_cells hG
  have H := Lib.hid (And.intro hd (And.intro hG (And.intro hK hdn)))
  clear hd hG hK hdn
  go_enter Tryz.func51, Tryz.ntmps51
  go_wp2_with (first
    | (go_at_call 42; refine (read_calm H.out.1.calm (k := 0) (by omega)).mono ?_; rintro e w1 ⟨v, rfl, hv, hW⟩; have hs64 := H.out.1.sec (k := 0) (by omega); obtain ⟨Q, k3, rfl, hk64, hk3⟩ := hv.form; rw [hs64] at hk64 hv ⊢; obtain ⟨g, o, rfl, _, _, _⟩ := hv.cells.2 (by omega); have H1 := Lib.hid (And.intro hv hW); clear hW hv))
  refine (doneBy_any ks _ _ g o k3 (S 0) (H.out.2.2.1.below H1.out.2 hpos) H1.out.1 hk64 hk3).mono ?_
  rw [H.out.2.2.2]
  rintro e w2 ⟨rfl, hW⟩
  have H2 := Lib.hid (below_of H1.out.2 hW)
  clear hW
  go_wp2_with fail
  go_ret
  exact ⟨rfl, H.out.1.below H2.out, H.out.2.1.below H2.out H.out.2.1.lt, Stp.of_below hB H2.out⟩

/-- The sectors behind a transaction that is done by recovering. -/
def redoneS (ks : List B32) (j num : Nat) (S : Nat → List B8) : Nat → List B8 := upd (layS S (dataOf j (wrsTo S (cntOf S)))) 0 (headB ks num)

set_option maxHeartbeats 4000000 in
theorem mend_begun (ks : List B32) (B : Nat) (w : World) (D L G n j : Nat) (S : Nat → List B8) (cw cf done done' : Nat) (x : Int × Int) (red : Bool) (hd : Idle B D L n S cw cf w) (hB : B ≤ w.heap.size) (hBG : B ≤ G) (hK : Roots ks w) (hKB : 1 < B) (hG : Blk w G 87 (logCells D j x done red))
    (hj : j + 1 < n) (hj1 : 2 ≤ j) (hj30 : j ≤ 30) (hdn : doneB ks (S 0) = some done') (hno : fromB (sub (S 1) 0 8) = done' + 1) (hcw : cw ≤ 500000) (hcf : cf ≤ 500000) :
    Calls Tryz.prog 51 #[.pointer (some ⟨G, 0, none⟩)] w fun e w' => (Full ks S (n - j - 1) j (done' + 1) ∧ mendPost B D L G n j (redoneS ks j (done' + 1) S) (cw + cntOf S + 1) (cf + 2) x (done' + 1) true 0 w e w') ∨
      (¬ Full ks S (n - j - 1) j (done' + 1) ∧ mendPost B D L G n j (upd S 1 zeros64) (cw + 1) (cf + 1) x done' red 0 w e w') := by
  have hnb := hd.bound
  have hpos := hK.pos
  have htop : done' ≤ top60 := doneB_le hdn
  have hdb : done' + 1 ≤ 9223372036854775807 := by unfold top60 at htop; omega
  clear htop
  have hlt := hd.lt
  have hGl := hG.lt
  have hDG : D ≠ G := by
    rintro rfl
    obtain ⟨s, hs, _⟩ := hd
    exact absurd (hG.same hs.disk).1 (by decide)
  have hLG : L ≠ G := by
    rintro rfl
    obtain ⟨s, hs, _⟩ := hd
    exact absurd (hG.same hs.laid).1 (by decide)
  obtain ⟨g0, g1, g5, g6⟩ := log_cells hG
  have H := Lib.hid (And.intro hd (And.intro hG (And.intro hK (And.intro hdn (And.intro hno (And.intro hDG hLG))))))
  clear hd hG hK hdn hno hDG hLG
  go_enter Tryz.func51, Tryz.ntmps51
  go_wp2_with (first
    | (go_at_call 42; refine (read_calm H.out.1.calm (k := 0) (by omega)).mono ?_; rintro e w1 ⟨v, rfl, hv, hW⟩; have hs64 := H.out.1.sec (k := 0) (by omega); obtain ⟨Q, k3, rfl, hk64, hk3⟩ := hv.form; rw [hs64] at hk64 hv ⊢; obtain ⟨g, o, rfl, _, _, _⟩ := hv.cells.2 (by omega); have H1 := Lib.hid (And.intro hv hW); clear hW hv))
  refine (doneBy_any ks _ _ g o k3 (S 0) (H.out.2.2.1.below H1.out.2 hpos) H1.out.1 hk64 hk3).mono ?_
  rw [H.out.2.2.2.1]
  rintro e w2 ⟨rfl, hW⟩
  have hb2 := below_of H1.out.2 hW
  have hG2 := H.out.2.1.below hb2 hGl
  have hset := stp_set (B := B) (G := G) (w := w2) (o := 5) (Nat.le_trans hB hb2.size) hBG (.int .i64 (done' : Int))
  have hG3 : Blk (w2.setCell ⟨G, 5, none⟩ (.int .i64 (done' : Int))) G 87 (logCells D j x done' red) := hG2.set_ 5 (.int .i64 (done' : Int))
  have hd3 := (H.out.1.below hb2).stp hset (by simpa using H.out.2.2.2.2.2.1) (by simpa using H.out.2.2.2.2.2.2)
  obtain ⟨g0, g1, g5, g6⟩ := log_cells hG2
  have gf := hG2.frozen 5
  obtain ⟨m0, m1, m5, m6⟩ := log_cells hG3
  have H2 := Lib.hid (And.intro hd3 (And.intro hG3 ((Stp.of_below (X := [D, L, G]) hB hb2).trans (hset.mono (by intro k hk _; simp at hk ⊢; simp [hk])))))
  clear hW hb2 hG2 hset hG3 hd3
  have hlt2 := H2.out.1.lt
  have hs2 := H2.out.2.2.size
  go_wp2_with fail
  refine (begun_any ks B _ D L n j S cw cf (done' + 1) H2.out.1 (H.out.2.2.1.below (H2.out.2.2.below) hKB) hj (by omega) hj30 hdb H.out.2.2.2.2.1).mono ?_
  rintro e w4 ⟨hres, hW⟩
  have hG4 := H2.out.2.1.below hW H2.out.2.1.lt
  have hst4 := H2.out.2.2.trans (Stp.of_below (Nat.le_trans hB hs2) hW)
  rcases hres with ⟨rfl, hfull⟩ | ⟨vw, rfl, hfull, how⟩
  · have hb5 := new_below w4 (.cells #[.int .i64 0, .slice none 0 0] 99)
    have hG5 := hG4.below hb5 hG4.lt
    obtain ⟨g0, g1, g5, g6⟩ := log_cells hG5
    have H5 := Lib.hid (And.intro ((H2.out.1.below hW).below hb5) (And.intro hG5 (And.intro (hst4.trans (Stp.of_below (Nat.le_trans hB hst4.size) hb5)) hfull)))
    clear hW hG4 hst4 hb5 hG5 hfull m0 m1 m5 m6
    go_wp2_with fail
    generalize w4.alloc (.cells #[.int .i64 0, .slice none 0 0] 99) = w5 at H5 g0 g1 g5 g6 ⊢
    have hs5 := H5.out.2.2.1.size
    have hlt5 := H5.out.1.lt
    have hG5l := H5.out.2.1.lt
    go_region_held3 (fun w' => w'.cell? ⟨G, 0, none⟩ = some (.pointer (some ⟨D, 0, none⟩)) ∧ w'.cell? ⟨G, 1, none⟩ = some (.int .i64 (j : Int)))
      (first | exact ⟨x0, x1⟩ | exact ⟨cell_below y0 (new_below _ _), cell_below y1 (new_below _ _)⟩ | exact ⟨y0, y1⟩ | exact ⟨e0, e1⟩ | exact ⟨g0, g1⟩)
      (first
        | (go_at_call 38; refine (jlay_any B _ D L n j S cw cf (fun g => w5.heap.size ≤ g) _ 1 1 [(1, zeros64)] (H7.out.1.below (new_below w7 (.cells #[.int .i64 1, .slice (some ⟨w6.heap.size, 0, none⟩) 64 64] 94))) (by have := (new_below w7 (.cells #[.int .i64 1, .slice (some ⟨w6.heap.size, 0, none⟩) 64 64] 94)).size; have := H7.out.2.2.2.size; omega) (Wrs.one (Blk.new w7 94 [.int .i64 1, .slice (some ⟨w6.heap.size, 0, none⟩) 64 64]) H7.out.2.2.2.size ((Bts.whole H7.out.2.2.1 (.inl rfl) H6.out.2.2.size (by simp [zeros64]) (by omega)).below (new_below _ _))) (fun g hg h => by simp at h; omega) (fun p hp => by simp only [List.mem_singleton] at hp; subst hp; exact ⟨by decide, by show (1 : Int) < n; omega, by simp [zeros64]⟩) (by omega) (by omega)).mono ?_; rintro e w8 ⟨rfl, h1, h2⟩; have hbb := new_below w7 (.cells #[.int .i64 1, .slice (some ⟨w6.heap.size, 0, none⟩) 64 64] 94); have hG8 := h2.keep _ _ _ (by decide) (by simp only [List.mem_cons, List.not_mem_nil, or_false, not_or]; exact ⟨fun h => H.out.2.2.2.2.2.1 h.symm, fun h => H.out.2.2.2.2.2.2 h.symm⟩) (H7.out.2.1.below hbb H7.out.2.1.lt); obtain ⟨x0, x1, _, _⟩ := log_cells hG8; have H8 := Lib.hid (And.intro h1 (And.intro hG8 (((Stp.of_below (X := [D, L]) (by omega) (below_of H7.out.2.2.2 hbb))).trans h2))); clear h1 h2 hG8 hbb)
        | (go_at_call 72; refine (sector_none _).mono ?_; rintro e w7 ⟨rfl, hB7, hW⟩; have y0 := cell_below e0 hW; have y1 := cell_below e1 hW; have H7 := Lib.hid (And.intro (H6.out.1.below hW) (And.intro (H6.out.2.1.below hW H6.out.2.1.lt) (And.intro (show Blk w7 w6.heap.size 5 (Vb zeros64) from hB7) (below_of H6.out.2.2 hW)))); clear hB7 hW)
        | (go_at_call 63; refine (noteAt_any (D := D) (j := j) 0 (by omega)).mono ?_; rintro e w6 ⟨rfl, hW⟩; have e0 := cell_drew g0 hW; have e1 := cell_drew g1 hW; have H6 := Lib.hid (And.intro (idle_drew H5.out.1 hW) (And.intro (blk_drew H5.out.2.1 hW) (below_drew (Below.refl _ _) hW))); clear hW))
    go_wp2_with fail
    go_ret
    refine .inr ⟨H5.out.2.2.2, rfl, H8.out.1, H8.out.2.1, H5.out.2.2.1.trans (H8.out.2.2.mono (by intro k hk _; simp at hk ⊢; rcases hk with h | h <;> simp [h]))⟩
  · obtain ⟨Pw, cw1, rfl⟩ := how.form
    have hb5 := new_below w4 (.cells #[.int .i64 ((done' : Int) + 1), .slice Pw (cntOf S) cw1] 99)
    have ⟨t0, t1⟩ := blk_pair (Blk.new w4 99 [.int .i64 ((done' : Int) + 1), .slice Pw (cntOf S) cw1])
    have ht5 := Blk.new w4 99 [.int .i64 ((done' : Int) + 1), .slice Pw (cntOf S) cw1]
    have hG5 := hG4.below hb5 hG4.lt
    obtain ⟨g0, g1, g5, g6⟩ := log_cells hG5
    have gf6 := hG5.frozen 6
    have hd5 := (H2.out.1.below hW).below hb5
    have hst5 := hst4.trans (Stp.of_below (Nat.le_trans hB hst4.size) hb5)
    have hset := stp_set (B := B) (G := G) (w := w4.alloc (.cells #[.int .i64 ((done' : Int) + 1), .slice Pw (cntOf S) cw1] 99)) (o := 6) (Nat.le_trans hB hst5.size) hBG (.bool true)
    have hG6 : Blk ((w4.alloc (.cells #[.int .i64 ((done' : Int) + 1), .slice Pw (cntOf S) cw1] 99)).setCell ⟨G, 6, none⟩ (.bool true)) G 87 (logCells D j x done' true) := hG5.set_ 6 (.bool true)
    have hd6 := hd5.stp hset (by simpa using H.out.2.2.2.2.2.1) (by simpa using H.out.2.2.2.2.2.2)
    have ht6 := hset.keep _ _ _ (by decide) (by have := hG4.lt; simp; omega) ht5
    have ⟨q0, q1⟩ := blk_pair ht6
    have hGs : G < w2.heap.size := by
      have h1 := H.out.2.1.lt
      have h2 : w.heap.size ≤ w2.heap.size := by simpa using hs2
      omega
    have hok : ∀ p ∈ wrsTo S (cntOf S), 0 ≤ p.1 ∧ p.1 < (n - j - 1 : Nat) ∧ p.2.length = 64 := by
      intro p hp
      obtain ⟨i, hi, rfl⟩ := List.mem_map.1 hp
      have hik := List.mem_range.1 hi
      have h3 := (hfull.2.2.2.1 i hik).2.2
      have h4 := hfull.2.2.1
      refine ⟨by unfold wAt; omega, by unfold wAt; show ((fromB (sub (S (1 + 2 * i)) 16 4) : Nat) : Int) < _; omega, ?_⟩
      exact H2.out.1.sec (by omega)
    have hcnt : cntOf S ≤ 15 := by have := hfull.2.2.1; omega
    have hws := (((how.wrs (fun g hg => hg)).below hb5).stp hset (fun g hg => by simp at hg ⊢; omega)).mono (A' := fun g => w2.heap.size ≤ g) (fun g hg _ => by simpa using hg)
    have H6 := Lib.hid (And.intro hd6 (And.intro hG6 (And.intro (hst5.trans (hset.mono (Y := [D, L, G]) (by intro k hk _; simp at hk ⊢; simp [hk]))) (And.intro hws (And.intro hok hfull)))))
    clear hW hG4 hst4 hb5 hG5 hd5 hst5 hset hG6 hd6 ht5 ht6 hws hok hfull how m0 m1 m5 m6
    have hs6 := H6.out.2.2.1.size
    go_wp2_with fail
    refine (finish_any ks B _ D L G n j S cw cf (fun g => w2.heap.size ≤ g) Pw (cntOf S) cw1 (done' + 1) done' x true (wrsTo S (cntOf S)) H6.out.1 (Nat.le_trans hB hs6) (H.out.2.2.1.below H6.out.2.2.1.below hKB) H6.out.2.1 hKB hBG H6.out.2.2.2.1 (fun g hg h => by simp at h hlt2; omega) hj H6.out.2.2.2.2.1 (by omega) hdb (by omega) (by omega)).mono ?_
    rintro e w7 ⟨rfl, hI, hG7, hS⟩
    have H7 := Lib.hid (And.intro hI (And.intro hG7 hS))
    clear hI hG7 hS
    go_wp2_with fail
    go_ret
    exact .inl ⟨H6.out.2.2.2.2.2, rfl, H7.out.1, H7.out.2.1, H6.out.2.2.1.trans H7.out.2.2⟩
end Go.Proofs.YtlfgbmfojghhcaaGreatDoor
end

/-
  Open, of any disk at rest: the head isn't right; the journal's transaction is whole; it isn't. Conditions: the disk has power that never goes; the journal has room for at most 15 writes.
-/

section
set_option maxRecDepth 100000
set_option linter.unusedSimpArgs false
set_option linter.unusedVariables false
namespace Go.Proofs.YtlfgbmfojghhcaaGreatDoor
open Go.RowKit

set_option maxHeartbeats 1600000 in
theorem open_err (B : Nat) (w : World) (D L n j : Nat) (S S' : Nat → List B8) (cw cf cw' cf' done : Nat) (red : Bool) (hd : Idle B D L n S cw cf w) (hB : B ≤ w.heap.size) (hj : j + 1 < n) (h2 : 2 ≤ j) (h3 : j ≤ 1024) (h4 : j % 2 = 0)
    (hm : ∀ w1, Stp B [] w w1 → w.heap.size ≤ w1.heap.size → Blk w1 w.heap.size 87 (logCells D j (0, 1) 0 false) → Calls Tryz.prog 51 #[.pointer (some ⟨w.heap.size, 0, none⟩)] w1 (mendPost B D L w.heap.size n j S' cw' cf' (0, 1) done red 5 w1)) :
    Calls Tryz.prog 8 #[.pointer (some ⟨D, 0, none⟩), .int .i64 j] w fun e w' => e = .returned (.tuple #[.pointer none, .int .i64 5]) ∧ Idle B D L n S' cw' cf' w' ∧ Stp B [D, L] w w' := by
  have hnb := hd.bound
  have hlt := hd.lt
  have b1 := new_below w (.cells #[.pointer (some ⟨D, 0, none⟩), .int .i64 (j : Int), .int .u32 0, .int .i32 0, .int .u32 0, .int .i64 0, .bool false] 87)
  have k1 : Blk (w.alloc (.cells #[.pointer (some ⟨D, 0, none⟩), .int .i64 (j : Int), .int .u32 0, .int .i32 0, .int .u32 0, .int .i64 0, .bool false] 87)) w.heap.size 87 (logCells D j (0, 0) 0 false) := Blk.new w 87 [.pointer (some ⟨D, 0, none⟩), .int .i64 (j : Int), .int .u32 0, .int .i32 0, .int .u32 0, .int .i64 0, .bool false]
  obtain ⟨g0, g1, g5, g6⟩ := log_cells k1
  have H := Lib.hid (And.intro (hd.below b1) (And.intro k1 (And.intro b1 hm)))
  clear hd b1 k1 hm
  go_enter Tryz.func8, Tryz.ntmps8
  go_wp2_with (first
    | (go_at_call 22; refine (on_idle H.out.1.calm).mono ?_; rintro e w' ⟨rfl, rfl⟩)
    | (go_at_call 27; refine (fits_any H.out.1.calm hj hnb.2 h2 h3 h4).mono ?_; rintro e w1 ⟨rfl, hb⟩; have HB := Lib.hid hb; clear hb))
  have hs1 := HB.out.size
  have hs0 := H.out.2.2.1.size
  have hsz : (w.alloc (.cells #[.pointer (some ⟨D, 0, none⟩), .int .i64 (j : Int), .int .u32 0, .int .i32 0, .int .u32 0, .int .i64 0, .bool false] 87)).heap.size = w.heap.size + 1 := by simp
  have hst : Stp B [] w w1 := Stp.of_below hB (below_of H.out.2.2.1 HB.out)
  refine (recovered_any (B := B) (D := D) (L := L) (G := w.heap.size) (n := n) (j := j) (S := S') (cw := cw') (cf := cf') (done := done) (red := red) (r := 5) (H.out.2.1.below HB.out H.out.2.1.lt) (by omega) (by omega) (by omega) hB (by omega) (by omega) ?_).mono ?_
  · intro w2 hs hG
    refine H.out.2.2.2 w2 ((hst.mono (Y := [w.heap.size]) (by simp)).trans hs |>.mono (by intro k hk hl; simp at hk; omega)) ?_ hG
    have := hs.size
    omega
  rintro e w2 ⟨rfl, hI, hG, hS⟩
  have H2 := Lib.hid (And.intro hI (And.intro hG (((hst.mono (Y := [D, L, w.heap.size]) (by simp)).trans hS).mono (Y := [D, L]) (by intro k hk hl; simp at hk ⊢; omega))))
  clear hI hG hS hst
  go_wp2_with fail
  go_ret2
  exact ⟨rfl, H2.out.1, H2.out.2.2⟩


section
variable {B : Nat} {w : World} {D L n j : Nat} {S : Nat → List B8} {cw cf done : Nat}
theorem open_bad (ks : List B32) (hd : Idle B D L n S cw cf w) (hB : B ≤ w.heap.size) (hK : Roots ks w) (hKB : 1 < B) (hj : j + 1 < n) (h2 : 2 ≤ j) (h3 : j ≤ 1024) (h4 : j % 2 = 0) (hdn : doneB ks (S 0) = none) :
    Calls Tryz.prog 8 #[.pointer (some ⟨D, 0, none⟩), .int .i64 j] w fun e w' => e = .returned (.tuple #[.pointer none, .int .i64 5]) ∧ Idle B D L n S cw cf w' ∧ Stp B [D, L] w w' :=
  open_err B w D L n j S S cw cf cw cf 0 false hd hB hj h2 h3 h4 fun w1 hs hw hG =>
    mend_bad ks B w1 D L w.heap.size n j S cw cf 0 (0, 1) false (hd.stp hs (by simp) (by simp)) (by omega) (hK.below hs.below hKB) hG hj hdn
theorem open_redo (ks : List B32) (hd : Idle B D L n S cw cf w) (hB : B ≤ w.heap.size) (hK : Roots ks w) (hKB : 1 < B) (hj : j + 1 < n) (h2 : 2 ≤ j) (h3 : j ≤ 30) (h4 : j % 2 = 0) (hdn : doneB ks (S 0) = some done) (hno : fromB (sub (S 1) 0 8) = done + 1) (hcw : cw ≤ 500000) (hcf : cf ≤ 500000)
    (hF : Full ks S (n - j - 1) j (done + 1)) :
    Calls Tryz.prog 8 #[.pointer (some ⟨D, 0, none⟩), .int .i64 j] w (openPost B D L n j (redoneS ks j (done + 1) S) (cw + cntOf S + 1) (cf + 2) (done + 1) true w) :=
  open_any B w D L n j S _ cw cf _ _ (done + 1) true hd hB hj h2 (by omega) h4 fun w1 hs hw hG =>
    (mend_begun ks B w1 D L w.heap.size n j S cw cf 0 done (0, 1) false (hd.stp hs (by simp) (by simp)) (by omega) hB (hK.below hs.below hKB) hKB hG hj h2 h3 hdn hno hcw hcf).mono fun e w' h => by
      rcases h with ⟨_, h⟩ | ⟨h, _⟩
      · exact h
      · exact absurd hF h
theorem open_end (ks : List B32) (hd : Idle B D L n S cw cf w) (hB : B ≤ w.heap.size) (hK : Roots ks w) (hKB : 1 < B) (hj : j + 1 < n) (h2 : 2 ≤ j) (h3 : j ≤ 30) (h4 : j % 2 = 0) (hdn : doneB ks (S 0) = some done) (hno : fromB (sub (S 1) 0 8) = done + 1) (hcw : cw ≤ 500000) (hcf : cf ≤ 500000)
    (hF : ¬ Full ks S (n - j - 1) j (done + 1)) :
    Calls Tryz.prog 8 #[.pointer (some ⟨D, 0, none⟩), .int .i64 j] w (openPost B D L n j (upd S 1 zeros64) (cw + 1) (cf + 1) done false w) :=
  open_any B w D L n j S _ cw cf _ _ done false hd hB hj h2 (by omega) h4 fun w1 hs hw hG =>
    (mend_begun ks B w1 D L w.heap.size n j S cw cf 0 done (0, 1) false (hd.stp hs (by simp) (by simp)) (by omega) hB (hK.below hs.below hKB) hKB hG hj h2 h3 hdn hno hcw hcf).mono fun e w' h => by
      rcases h with ⟨h, _⟩ | ⟨_, h⟩
      · exact absurd h hF
      · exact h
end
end Go.Proofs.YtlfgbmfojghhcaaGreatDoor
end

/-
  Open of any disk at rest, as the document tells it; and what Open finds behind it. Conditions: the disk has power that never goes; the journal has room for at most 15 writes.
-/

section
set_option maxRecDepth 100000
set_option linter.unusedSimpArgs false
set_option linter.unusedVariables false
namespace Go.Proofs.YtlfgbmfojghhcaaGreatDoor
open Go.RowKit

theorem dataS_on {S S' : Nat → List B8} {j d : Nat} (h : ∀ k, 1 + j ≤ k → S' k = S k) : dataS S' j d = dataS S j d := by
  unfold dataS
  congr 1
  apply List.map_congr_left
  intro k _
  exact h _ (by omega)
theorem full_first {ks : List B32} {S : Nat → List B8} {d j num : Nat} (h : Full ks S d j num) : fromB (sub (S 1) 0 8) = num := by
  have := (h.2.2.2.1 0 (by have := h.2.1; omega)).1
  simpa using this
/-- What Open leaves of a disk whose head is right. -/
def Left (S S' : Nat → List B8) (d j dn done : Nat) (red : Bool) : Prop :=
  ((Full Ks S d j (dn + 1) ∧ done = dn + 1 ∧ red = true ∧ dataS S' j d = layB (dataS S j d) (wrsTo S (cntOf S))) ∨ (¬ Full Ks S d j (dn + 1) ∧ done = dn ∧ red = false ∧ dataS S' j d = dataS S j d)) ∧
    doneB Ks (S' 0) = some done ∧ fromB (sub (S' 1) 0 8) ≠ done + 1
theorem left_none {S : Nat → List B8} {d j dn : Nat} (h0 : doneB Ks (S 0) = some dn) (h : fromB (sub (S 1) 0 8) ≠ dn + 1) : Left S S d j dn dn false :=
  ⟨.inr ⟨fun hf => h (full_first hf), rfl, rfl, rfl⟩, h0, h⟩
theorem left_end {S : Nat → List B8} {d j dn : Nat} (hj : 2 ≤ j) (h0 : doneB Ks (S 0) = some dn) (hf : ¬ Full Ks S d j (dn + 1)) : Left S (upd S 1 zeros64) d j dn dn false := by
  refine ⟨.inr ⟨hf, rfl, rfl, dataS_on fun k hk => ?_⟩, ?_, ?_⟩
  · unfold upd
    rw [if_neg (by omega)]
  · unfold upd
    rw [if_neg (by omega)]
    exact h0
  · unfold upd
    rw [if_pos rfl, sub_zeros]
    omega
theorem left_redo {S : Nat → List B8} {d j dn : Nat} (hj : 2 ≤ j) (hf : Full Ks S d j (dn + 1)) (hl : ∀ k, k ≤ j + d → (S k).length = 64) : Left S (redoneS Ks j (dn + 1) S) d j dn (dn + 1) true := by
  have hok : ∀ p ∈ wrsTo S (cntOf S), 0 ≤ p.1 ∧ p.1 < (d : Nat) ∧ p.2.length = 64 := by
    intro p hp
    obtain ⟨k, hk, rfl⟩ := List.mem_map.1 hp
    have hik := List.mem_range.1 hk
    have h1 := hf.2.2.1
    refine ⟨by unfold wAt; omega, ?_, hl _ (by omega)⟩
    unfold wAt
    show ((fromB (sub (S (1 + 2 * k)) 16 4) : Nat) : Int) < _
    have := (hf.2.2.2.1 k hik).2.2
    omega
  refine ⟨.inl ⟨hf, rfl, rfl, ?_⟩, ?_, ?_⟩
  · rw [lay_data _ S (fun k hk => hl _ (by omega)) hok]
    refine dataS_on fun k hk => ?_
    unfold redoneS upd
    rw [if_neg (by omega)]
  · unfold redoneS upd
    rw [if_pos rfl]
    exact doneB_head Ks (by omega) hf.1
  · have e : redoneS Ks j (dn + 1) S 1 = S 1 := by
      unfold redoneS upd
      rw [if_neg (by omega)]
      refine layS_off 1 _ _ fun p hp => ?_
      obtain ⟨q, hq, rfl⟩ := List.mem_map.1 hp
      show ((1 + j + q.1.toNat : Nat) : Int).toNat ≠ 1
      omega
    rw [e, full_first hf]
    omega

/-- What Open answers. -/
def restPost (B D L n j : Nat) (S : Nat → List B8) (cw cf : Nat) (w : World) (e : Ending) (w' : World) : Prop :=
  (doneB Ks (S 0) = none ∧ e = .returned (.tuple #[.pointer none, .int .i64 5]) ∧ Stp B [D, L] w w') ∨
    ∃ dn S' cw' cf' done red, doneB Ks (S 0) = some dn ∧ Left S S' (n - j - 1) j dn done red ∧ cw' ≤ cw + 20 ∧ cf' ≤ cf + 2 ∧ openPost B D L n j S' cw' cf' done red w e w'
theorem open_rest {B : Nat} {w : World} {D L n j : Nat} {S : Nat → List B8} {cw cf : Nat} (hd : Idle B D L n S cw cf w) (hB : B ≤ w.heap.size) (hK : Roots Ks w) (hKB : 1 < B) (hj : j + 1 < n) (h2 : 2 ≤ j) (h3 : j ≤ 30) (h4 : j % 2 = 0) (hcw : cw ≤ 500000) (hcf : cf ≤ 500000) :
    Calls Tryz.prog 8 #[.pointer (some ⟨D, 0, none⟩), .int .i64 j] w (restPost B D L n j S cw cf w) := by
  cases hdn : doneB Ks (S 0) with
  | none => exact (open_bad Ks hd hB hK hKB hj h2 (by omega) h4 hdn).mono fun e w' ⟨h1, _, h3⟩ => .inl ⟨hdn, h1, h3⟩
  | some dn =>
    have hl : ∀ k, k < n → (S k).length = 64 := fun k hk => hd.sec hk
    by_cases hno : fromB (sub (S 1) 0 8) = dn + 1
    · by_cases hF : Full Ks S (n - j - 1) j (dn + 1)
      · have hc : cntOf S ≤ 15 := by have := hF.2.2.1; omega
        exact (open_redo Ks hd hB hK hKB hj h2 h3 h4 hdn hno hcw hcf hF).mono fun e w' h => .inr ⟨dn, _, _, _, _, _, hdn, left_redo h2 hF (fun k hk => hl k (by omega)), by omega, by omega, h⟩
      · exact (open_end Ks hd hB hK hKB hj h2 h3 h4 hdn hno hcw hcf hF).mono fun e w' h => .inr ⟨dn, _, _, _, _, _, hdn, left_end h2 hdn hF, by omega, by omega, h⟩
    · exact (open_none Ks B w D L n j S cw cf dn hd hB hK hKB hj h2 (by omega) h4 hdn hno).mono fun e w' h => .inr ⟨dn, _, _, _, _, _, hdn, left_none hdn hno, by omega, by omega, h⟩
/-- Opened again, nothing is done. -/
theorem open_again {B : Nat} {w : World} {D L n j : Nat} {S S' : Nat → List B8} {cw cf dn done : Nat} {red : Bool} (hd : Idle B D L n S' cw cf w) (hB : B ≤ w.heap.size) (hK : Roots Ks w) (hKB : 1 < B) (hj : j + 1 < n) (h2 : 2 ≤ j) (h3 : j ≤ 30) (h4 : j % 2 = 0) (hl : Left S S' (n - j - 1) j dn done red) :
    Calls Tryz.prog 8 #[.pointer (some ⟨D, 0, none⟩), .int .i64 j] w (openPost B D L n j S' cw cf done false w) :=
  open_none Ks B w D L n j S' cw cf done hd hB hK hKB hj h2 (by omega) h4 hl.2.1 hl.2.2
/-- What Open left is what the document recovers. -/
theorem rec_left {A : Nat → Prop} {S S' : Nat → List B8} {d j dn done : Nat} {red : Bool} {w w' : World} {e : Ending} (h0 : doneB Ks (S 0) = some dn) (hl : Left S S' d j dn done red) (h : rrecPost A S d j w e w') :
    (∃ v, e = .returned (.tuple #[v, .int .i64 (done : Nat), .bool red, .int .i64 0]) ∧ Bts (fun x => A x ∨ w.heap.size ≤ x) w' v (dataS S' j d)) ∧ Below w.heap.size w w' := by
  obtain ⟨h, hb⟩ := h
  refine ⟨?_, hb⟩
  rcases h with ⟨h1, _⟩ | ⟨k, v, h1, rfl, hf, hv⟩ | ⟨k, v, h1, rfl, hf, _, hv⟩
  · rw [h0] at h1; cases h1
  · rw [h0] at h1
    cases h1
    rcases hl.1 with ⟨hf', _⟩ | ⟨_, rfl, rfl, hd⟩
    · exact absurd hf' hf
    · exact ⟨v, rfl, by rw [hd]; exact hv⟩
  · rw [h0] at h1
    cases h1
    rcases hl.1 with ⟨_, rfl, rfl, hd⟩ | ⟨hf', _⟩
    · exact ⟨v, rfl, by rw [hd]; exact hv⟩
    · exact absurd hf hf'
theorem rec_none {A : Nat → Prop} {S : Nat → List B8} {d j : Nat} {w w' : World} {e : Ending} (h0 : doneB Ks (S 0) = none) (h : rrecPost A S d j w e w') :
    e = .returned (.tuple #[.slice none 0 0, .int .i64 0, .bool false, .int .i64 5]) ∧ Below w.heap.size w w' := by
  obtain ⟨h, hb⟩ := h
  refine ⟨?_, hb⟩
  rcases h with ⟨_, h⟩ | ⟨k, v, h1, _⟩ | ⟨k, v, h1, _⟩
  · exact h
  · rw [h0] at h1; cases h1
  · rw [h0] at h1; cases h1
end Go.Proofs.YtlfgbmfojghhcaaGreatDoor
end
