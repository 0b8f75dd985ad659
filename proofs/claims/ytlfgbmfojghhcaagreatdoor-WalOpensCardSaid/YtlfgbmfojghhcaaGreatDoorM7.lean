/-
  is: whether these are a transaction's notes. Conditions: the writes and the notes are known, as many of the one as of the other; the constants lie in their variable.
-/
import Derived.Test.YtlfgbmfojghhcaaGreatDoorM5
import Derived.Test.YtlfgbmfojghhcaaGreatDoorM4
import Derived.Test.YtlfgbmfojghhcaaGreatDoorM6
import Derived.Test.YtlfgbmfojghhcaaGreatDoorM1
import Derived.Test.YtlfgbmfojghhcaaGreatDoorM2
section
set_option maxRecDepth 100000
set_option linter.unusedSimpArgs false
set_option linter.unusedVariables false
namespace Go.Proofs.YtlfgbmfojghhcaaGreatDoor
open Go.RowKit

def notesOf (num m : Nat) (d : List B8) (ws : List (Int × List B8)) : List (List B8) := ws.mapIdx fun i p => noteB num i m p.1.toNat d
theorem notesOf_get {num m i : Nat} {d : List B8} {ws : List (Int × List B8)} {p : Int × List B8} (h : ws[i]? = some p) : (notesOf num m d ws)[i]? = some (noteB num i m p.1.toNat d) := by
  unfold notesOf
  rw [List.getElem?_mapIdx, h]
  rfl
theorem notesOf_length (num m : Nat) (d : List B8) (ws : List (Int × List B8)) : (notesOf num m d ws).length = ws.length := by simp [notesOf]
/-- Whether these are the notes of a transaction's writes. -/
def isB (ks : List B32) (num : Nat) (ws : List (Int × List B8)) (xs : List (List B8)) : Prop := (secs ws).Nodup ∧ xs = notesOf num ws.length (digOf ks num ws) ws
def isPost (p : Prop) (w : World) (e : Ending) (w' : World) : Prop := ((e = .returned (.bool true) ∧ p) ∨ (e = .returned (.bool false) ∧ ¬ p)) ∧ Below w.heap.size w w'
theorem take_eq_snoc {α : Type} {xs ys : List α} {i : Nat} {x : α} (h : xs.take i = ys.take i) (hx : xs[i]? = some x) (hy : ys[i]? = some x) : xs.take (i + 1) = ys.take (i + 1) := by
  rw [take_snoc_ hx, take_snoc_ hy, h]

theorem Parts.below {A : Nat → Prop} {w w' : World} {v : Value} {xs : List (List B8)} (h : Parts A w v xs) (hb : Below w.heap.size w w') : Parts A w' v xs := by
  obtain ⟨g, cap, vs, e, hA, hk, h0, h1, h2, hc⟩ := h
  refine ⟨g, cap, vs, e, hA, hk.below hb hk.lt, h0, h1, h2, fun i x hx => ?_⟩
  obtain ⟨v, hv, hbt⟩ := hc i x hx
  exact ⟨v, hv, hbt.below hb⟩
theorem Parts.at_ {A : Nat → Prop} {w : World} {P : Option Addr} {n c : Nat} {xs : List (List B8)} (h : Parts A w (.slice P n c) xs) {i : Nat} {x : List B8} (hx : xs[i]? = some x) :
    ∃ g Q m k, P = some ⟨g, 0, none⟩ ∧ g < w.heap.size ∧ w.cell? ⟨g, i, none⟩ = some (.slice Q m k) ∧ Bts A w (.slice Q m k) x ∧ m ≤ k ∧ k ≤ 9223372036854775807 := by
  obtain ⟨g, cap, vs, e, hA, hk, h0, h1, h2, hc⟩ := h
  cases e
  obtain ⟨v, hv, hbt⟩ := hc i x hx
  obtain ⟨Q, k, rfl, h3, h4⟩ := hbt.form
  exact ⟨g, Q, x.length, k, rfl, hk.lt, by rw [hk.cell, hv], hbt, h3, h4⟩

set_option maxHeartbeats 2000000 in
theorem is_any (ks : List B32) (w : World) (A A' : Nat → Prop) (num m : Nat) (P Pn : Option Addr) (c cn : Nat) (ws : List (Int × List B8)) (xs : List (List B8)) (hK : Roots ks w) (hw : Wrs A w (.slice P m c) ws) (hx : Parts A' w (.slice Pn m cn) xs) (hnum : num ≤ 9223372036854775807) (hm : m ≤ 15)
    (hok : ∀ p ∈ ws, 0 ≤ p.1 ∧ p.1 ≤ 4294967296 ∧ p.2.length = 64) :
    Calls Tryz.prog 89 #[.agg #[.int .i64 num, .slice P m c], .slice Pn m cn] w (isPost (isB ks num ws xs) w) := by
  have hpos := hK.pos
  have hlen := hw.len
  have hz := zero32
  have hxl : xs.length = m := by obtain ⟨_, _, _, e, _⟩ := hx; cases e; rfl
  have hb1 := new_below w (.cells #[.int .i64 num, .slice P m c] 99)
  have hk1 := Blk.new w 99 [.int .i64 num, .slice P m c]
  have ⟨t0, t1⟩ := blk_pair hk1
  have H0 := Lib.hid (And.intro hb1 (And.intro hk1 (And.intro hK (And.intro hw (And.intro hx (And.intro hok (And.intro hlen hxl)))))))
  clear hb1 hk1 hK hw hx hok hlen hxl
  go_enter Tryz.func89, Tryz.ntmps89
  go_wp2_with fail
  refine (check_any _ A P m c ws (H0.out.2.2.2.1.below H0.out.1) (fun p hp => H0.out.2.2.2.2.2.1 p hp)).mono ?_
  rintro e w1 ⟨h, hb⟩
  have ⟨t0, t1⟩ := blk_pair (H0.out.2.1.below hb H0.out.2.1.lt)
  have H1 := Lib.hid (And.intro (below_of H0.out.1 hb) (H0.out.2.1.below hb H0.out.2.1.lt))
  clear hb
  rcases h with ⟨rfl, hnd⟩ | ⟨rfl, hnd⟩
  · have HND := Lib.hid hnd
    clear hnd
    go_wp2_with fail
    refine (digest_any ks _ A num m P c ws (H0.out.2.2.1.below H1.out.1 hpos) (H0.out.2.2.2.1.below H1.out.1) hnum hm H0.out.2.2.2.2.2.1).mono ?_
    rintro e w2 ⟨rfl, hb⟩
    have hd := digOf_length ks num ws
    have H2 := Lib.hid (And.intro (below_of H1.out.1 hb) (H1.out.2.below hb H1.out.2.lt))
    clear hb t0 t1
    have hisd : isB ks num ws xs ↔ xs = notesOf num m (digOf ks num ws) ws := by unfold isB; rw [H0.out.2.2.2.2.2.2.1]; exact ⟨fun h => h.2, fun h => ⟨HND.out, h⟩⟩
    generalize digOf ks num ws = d at hd hisd ⊢
    have HD := Lib.hid hd
    have HIS := Lib.hid hisd
    clear hd hisd
    go_wp2_with (refine wpList_store_blk rfl 111 (.tmp 5) (.tmp 13) rfl w2.heap.size 0 (Vb d) rfl rfl (Blk.new w2 111 (List.replicate 32 (.int .u8 0))) (by simp [Vb_length, HD.out]) (info31.trans (by simp [Vb_length, HD.out])) (Vb_oneCell _) ?_; intro w3 hA hO)
    rw [over_whole (by simp [Vb_length, HD.out])] at hA
    have hb2 := (new_below w2 (.cells (List.replicate 32 (Value.int .u8 0)).toArray 111)).trans (hO.below (B := w2.heap.size) (by simp) (by simp))
    have H3 := Lib.hid (And.intro (below_of H2.out.1 hb2) (And.intro (H2.out.2.below hb2 H2.out.2.lt) hA))
    clear hA hO hb2
    generalize w2.heap.size = b5 at *
    go_wp2_with fail
    go_loopw [16] (fun iv wx => ∃ i : Nat, i ≤ m ∧ iv = .int .i64 i ∧ xs.take i = (notesOf num m d ws).take i ∧ Blk wx w.heap.size 99 [.int .i64 num, .slice P m c] ∧ Blk wx b5 111 (Vb d) ∧ Below w.heap.size w wx) (fun iv _ => m - (intOf iv).toNat)
    case atStart => exact ⟨0, Nat.zero_le _, rfl, rfl, H3.out.2.1, H3.out.2.2, H3.out.1⟩
    case round =>
      clear H3
      obtain ⟨i, hi, rfl, h1, h2, h3, h4⟩ := hrel
      by_cases hlt : i < m
      · obtain ⟨p, hp⟩ : ∃ p, ws[i]? = some p := ⟨_, List.getElem?_eq_getElem (by have := H0.out.2.2.2.2.2.2.1; omega)⟩
        obtain ⟨y, hy⟩ : ∃ y, xs[i]? = some y := ⟨_, List.getElem?_eq_getElem (by have := H0.out.2.2.2.2.2.2.2; omega)⟩
        obtain ⟨gn, Qn, mn, kn, rfl, hgn, cn0, hbn, hmn, hkn⟩ := (H0.out.2.2.2.2.1.below h4).at_ hy
        obtain ⟨q, hq⟩ : ∃ q : Nat, p.1 = q := ⟨p.1.toNat, by have := (H0.out.2.2.2.2.2.1 p (List.mem_of_getElem? hp)).1; omega⟩
        have hqb : q ≤ 4294967296 := by have := (H0.out.2.2.2.2.2.1 p (List.mem_of_getElem? hp)).2.1; omega
        have hno : (notesOf num m d ws)[i]? = some (noteB num i m q d) := by rw [notesOf_get hp, show p.1.toNat = q by omega]
        have ⟨t0, t1⟩ := blk_pair h2
        have hwr := H0.out.2.2.2.1.below h4
        have HR := Lib.hid (And.intro h1 (And.intro h2 (And.intro h3 (And.intro h4 (And.intro hp (And.intro hy (And.intro hbn (And.intro hq (And.intro hno hwr)))))))))
        clear h1 h2 h3 h4 hp hy hbn hq hno hwr
        go_wp2_with (refine wpList_load_mid rfl 111 (.tmp 5) rfl b5 0 rfl _ _ HR.out.2.2.1.range Tryz.underlying111 rfl (info31.trans (by simp [Vb_length, HD.out])) ?_)
        refine (note_any _ A num m P c ws i p q d HR.out.2.2.2.2.2.2.2.2.2 HR.out.2.2.2.2.1 HR.out.2.2.2.2.2.2.2.1 hqb hnum (by omega) HD.out).mono ?_
        rintro e w5 ⟨g5, rfl, hg5, hB, hW⟩
        have H5 := Lib.hid (And.intro hB hW)
        clear hB hW t0 t1
        go_wp2_with fail
        cases hyn : decide (y = noteB num i m q d) with
        | true =>
          have HY := Lib.hid hyn
          clear hyn
          refine (equal_bts (HR.out.2.2.2.2.2.2.1.below H5.out.2) (Bts.whole H5.out.1 (.inl rfl) (A := fun _ => True) trivial (noteB_length _ _ _ _ HD.out) (by omega)) HY.out).mono ?_
          rintro e w6 ⟨rfl, rfl⟩
          go_wp2_with fail
          go_roundw
          case rel =>
            refine ⟨i + 1, by omega, by go_num, ?_, HR.out.2.1.below H5.out.2 HR.out.2.1.lt, HR.out.2.2.1.below H5.out.2 HR.out.2.2.1.lt, below_of HR.out.2.2.2.1 H5.out.2⟩
            have hye := of_decide_eq_true HY.out
            exact take_eq_snoc HR.out.1 HR.out.2.2.2.2.2.1 (by rw [HR.out.2.2.2.2.2.2.2.2.1, hye])
          case measure => simp [intOf]; omega
        | false =>
          have HY := Lib.hid hyn
          clear hyn
          refine (equal_bts (HR.out.2.2.2.2.2.2.1.below H5.out.2) (Bts.whole H5.out.1 (.inl rfl) (A := fun _ => True) trivial (noteB_length _ _ _ _ HD.out) (by omega)) HY.out).mono ?_
          rintro e w6 ⟨rfl, rfl⟩
          go_wp2_with fail
          go_ret
          refine ⟨.inr ⟨rfl, fun h => ?_⟩, below_of HR.out.2.2.2.1 H5.out.2⟩
          have h2 := HIS.out.1 h
          have h3 := HR.out.2.2.2.2.2.1
          rw [h2, HR.out.2.2.2.2.2.2.2.2.1] at h3
          simp only [Option.some.injEq] at h3
          exact of_decide_eq_false HY.out h3.symm
      · obtain rfl : i = m := by omega
        rw [List.take_of_length_le (by have := H0.out.2.2.2.2.2.2.2; omega), List.take_of_length_le (by rw [notesOf_length]; have := H0.out.2.2.2.2.2.2.1; omega)] at h1
        have HF := Lib.hid (And.intro h1 h4)
        clear h1 h2 h3 h4
        go_wp2_with fail
        go_ret
        exact ⟨.inl ⟨rfl, HIS.out.2 HF.out.1⟩, HF.out.2⟩
  · have HND := Lib.hid hnd
    clear hnd
    go_wp2_with fail
    go_ret
    exact ⟨.inr ⟨rfl, fun h => HND.out h.1⟩, H1.out.1⟩
end Go.Proofs.YtlfgbmfojghhcaaGreatDoor
end

/-
  gathered: the writes that the journal has of a transaction, up to the first place that has none. Conditions: the disk has power that never goes; the journal has room for so many.
-/

section
set_option maxRecDepth 100000
set_option linter.unusedSimpArgs false
set_option linter.unusedVariables false
namespace Go.Proofs.YtlfgbmfojghhcaaGreatDoor
open Go.RowKit

/-- Place i of the journal is a note of transaction num, of so many writes. -/
def okAt (S : Nat → List B8) (data num cnt i : Nat) : Prop := fromB (sub (S (1 + 2 * i)) 0 8) = num ∧ fromB (sub (S (1 + 2 * i)) 12 4) = cnt ∧ fromB (sub (S (1 + 2 * i)) 16 4) < data
def wAt (S : Nat → List B8) (i : Nat) : Int × List B8 := ((fromB (sub (S (1 + 2 * i)) 16 4) : Nat), S (1 + 2 * i + 1))
def wrsTo (S : Nat → List B8) (k : Nat) : List (Int × List B8) := (List.range k).map (wAt S)
def notesTo (S : Nat → List B8) (k : Nat) : List (List B8) := (List.range k).map fun i => S (1 + 2 * i)
theorem wrsTo_succ (S : Nat → List B8) (k : Nat) : wrsTo S (k + 1) = wrsTo S k ++ [wAt S k] := by simp [wrsTo, List.range_succ]
theorem notesTo_succ (S : Nat → List B8) (k : Nat) : notesTo S (k + 1) = notesTo S k ++ [S (1 + 2 * k)] := by simp [notesTo, List.range_succ]
/-- What gathered answers. -/
def gathPost (S : Nat → List B8) (data num cnt : Nat) (w : World) (e : Ending) (w' : World) : Prop :=
  ∃ k vw vn, k ≤ cnt ∧ (∀ i, i < k → okAt S data num cnt i) ∧ (k < cnt → ¬ okAt S data num cnt k) ∧ e = .returned (.tuple #[.agg #[.int .i64 num, vw], vn, .int .i64 0]) ∧
    OWrs w.heap.size (fun g => w.heap.size ≤ g) w' vw k (wrsTo S k) ∧ OParts w.heap.size w' vn k (notesTo S k) ∧ Below w.heap.size w w'

/-- What gathered keeps behind i places. -/
structure GR (w : World) (D j num : Nat) (S : Nat → List B8) (i : Nat) (vn : Value) (wx : World) : Prop where
  lay : Blk wx w.heap.size 75 [.pointer (some ⟨D, 0, none⟩), .int .i64 (j : Int)]
  res : Blk wx (w.heap.size + 1) 99 [.int .i64 0, .slice none 0 0]
  tra : ∃ vw, Blk wx (w.heap.size + 2) 99 [.int .i64 num, vw] ∧ OWrs w.heap.size (fun g => w.heap.size ≤ g) wx vw i (wrsTo S i)
  nts : OParts w.heap.size wx vn i (notesTo S i)
  bel : Below w.heap.size w wx
theorem GR.start (w : World) (D j num : Nat) (S : Nat → List B8) : GR w D j num S 0 (.slice none 0 0) (((w.alloc (.cells #[.pointer (some ⟨D, 0, none⟩), .int .i64 (j : Int)] 75)).alloc (.cells #[.int .i64 0, .slice none 0 0] 99)).alloc (.cells #[.int .i64 num, .slice none 0 0] 99)) := by
  have b1 := new_below w (.cells #[.pointer (some ⟨D, 0, none⟩), .int .i64 (j : Int)] 75)
  have k1 := Blk.new w 75 [.pointer (some ⟨D, 0, none⟩), .int .i64 (j : Int)]
  have b2 := new_below (w.alloc (.cells #[.pointer (some ⟨D, 0, none⟩), .int .i64 (j : Int)] 75)) (.cells #[.int .i64 0, .slice none 0 0] 99)
  have k2 := Blk.new (w.alloc (.cells #[.pointer (some ⟨D, 0, none⟩), .int .i64 (j : Int)] 75)) 99 [.int .i64 0, .slice none 0 0]
  have b3 := new_below ((w.alloc (.cells #[.pointer (some ⟨D, 0, none⟩), .int .i64 (j : Int)] 75)).alloc (.cells #[.int .i64 0, .slice none 0 0] 99)) (.cells #[.int .i64 num, .slice none 0 0] 99)
  have k3 := Blk.new ((w.alloc (.cells #[.pointer (some ⟨D, 0, none⟩), .int .i64 (j : Int)] 75)).alloc (.cells #[.int .i64 0, .slice none 0 0] 99)) 99 [.int .i64 num, .slice none 0 0]
  simp only [World.size_alloc] at k2 k3
  exact ⟨k1.below (below_of b2 b3) k1.lt, k2.below b3 (by simp), ⟨_, k3, OWrs.empty _ _ _⟩, ⟨[], World.ownsRow_nil _ _ _ _, rfl, rfl, fun j x h => by simp [notesTo] at h⟩, below_of (below_of b1 b2) b3⟩
theorem GR.below {w : World} {D j num i : Nat} {S : Nat → List B8} {vn : Value} {a b : World} (h : GR w D j num S i vn a) (hb : Below a.heap.size a b) : GR w D j num S i vn b := by
  obtain ⟨vw, h1, h2⟩ := h.tra
  exact ⟨h.lay.below hb h.lay.lt, h.res.below hb h.res.lt, ⟨vw, h1.below hb h1.lt, h2.below hb⟩, h.nts.below hb, below_of h.bel hb⟩

theorem only_set1 (wk : World) (T o : Nat) (x : Value) : Only [T] wk (wk.setCell ⟨T, o, none⟩ x) := (Only.refl _ wk).setCell (p := ⟨T, o, none⟩) (.inl (by simp)) x
theorem own_only1 {N n s : Nat} {e : TypeId} {wk wk' : World} {v : Value} {xs : List Value} {T : Nat} {cs : List Value} (h : wk.ownsRow N e s v n xs) (ho : Only [T] wk wk') (hT : Blk wk T 99 cs) (hne : e ≠ 99) : wk'.ownsRow N e s v n xs :=
  ownsRow_only h ho fun q hq => by
    simp only [List.mem_singleton]
    rintro rfl
    exact own_blk_ne h hT hne hq
theorem new_row_set (w : World) (b o : Nat) (x : Value) (cs : List Value) (t : TypeId) : ∀ j u, cs[j]? = some u → ((w.setCell ⟨b, o, none⟩ x).alloc (.cells cs.toArray t)).cell? ((⟨w.heap.size, 0, none⟩ : Addr).add j) = some u := by
  have h := new_row (w.setCell ⟨b, o, none⟩ x) cs t
  have e : (w.setCell ⟨b, o, none⟩ x).heap.size = w.heap.size := by simp
  rw [e] at h
  exact h
theorem slice_one (Q : Option Addr) (m k : Nat) : ∀ u ∈ [Value.slice Q m k], u.oneCell' = true := by
  intro u hu
  simp only [List.mem_cons, List.not_mem_nil, or_false] at hu
  rw [hu]
  rfl
theorem own_sl {N n s : Nat} {e : TypeId} {w : World} {v : Value} {xs : List Value} (h : w.ownsRow N e s v n xs) : ∃ P c, v = .slice P n c := by
  rcases h.2 with ⟨rfl, rfl⟩ | ⟨g, cap, cur, rfl, _⟩
  · exact ⟨_, _, rfl⟩
  · exact ⟨_, _, rfl⟩
theorem Bts.only1 {A : Nat → Prop} {wk wk' : World} {u : Value} {xs : List B8} {T : Nat} {cs : List Value} (h : Bts A wk u xs) (ho : Only [T] wk wk') (hT : Blk wk T 99 cs) : Bts A wk' u xs := by
  rcases h with h | ⟨g, o, cap, t, ds, e, hA, hn, hb, ht, h5, h6⟩
  · exact .inl h
  · refine .inr ⟨g, o, cap, t, ds, e, hA, hn, hb.only ho ?_, ht, h5, h6⟩
    simp only [List.mem_singleton]
    rintro rfl
    exact hn.ne (by decide) (by decide) (hb.same hT).1
theorem OWrs.only1 {N n : Nat} {A : Nat → Prop} {wk wk' : World} {v : Value} {X : List (Int × List B8)} {T : Nat} {cs : List Value} (h : OWrs N A wk v n X) (ho : Only [T] wk wk') (hT : Blk wk T 99 cs) : OWrs N A wk' v n X := by
  obtain ⟨cells, c1, c2, c3⟩ := h
  refine ⟨cells, ownsRow_only c1 ho (fun q hq => ?_), c2, fun jj p hp => ?_⟩
  · simp only [List.mem_singleton]
    rintro rfl
    exact own_blk_ne c1 hT (by decide) hq
  · obtain ⟨d0, u, d1, hu⟩ := c3 jj p hp
    exact ⟨d0, u, d1, hu.only1 ho hT⟩
theorem OParts.only1 {N n : Nat} {wk wk' : World} {v : Value} {X : List (List B8)} {T : Nat} {cs : List Value} (h : OParts N wk v n X) (ho : Only [T] wk wk') (hT : Blk wk T 99 cs) : OParts N wk' v n X := by
  obtain ⟨cells, c1, c2, c3, c4⟩ := h
  refine ⟨cells, ownsRow_only c1 ho (fun q hq => ?_), c2, c3, fun jj p hp => ?_⟩
  · simp only [List.mem_singleton]
    rintro rfl
    exact own_blk_ne c1 hT (by decide) hq
  · obtain ⟨u, d1, hu⟩ := c4 jj p hp
    exact ⟨u, d1, hu.only1 ho hT⟩
theorem OParts.grown {N n : Nat} {w w' : World} {v : Value} {X : List (List B8)} {e sz k : Nat} {r : Value} {cs : List Value} (h : OParts N w v n X) (ho : w.ownsRow N e sz r k cs) (hg : w.grownBy w' r.ownBlock) (h1 : e ≠ 5) (h2 : e ≠ 111) (h3 : 22 ≠ e) : OParts N w' v n X := by
  obtain ⟨cells, c1, c2, c3, c4⟩ := h
  refine ⟨cells, own_grown c1 ho h3 hg, c2, c3, fun jj p hp => ?_⟩
  obtain ⟨u, d1, hu⟩ := c4 jj p hp
  exact ⟨u, d1, hu.grown ho hg h1 h2⟩
theorem OParts.add1 {N n : Nat} {w w' : World} {v v' u : Value} {X : List (List B8)} {x : List B8} {cells : List Value} (ho : w.ownsRow N 22 1 v n cells) (hcl : cells.length = n) (hx : X.length = n) (hg : w.grownBy w' v.ownBlock)
    (h4 : ∀ (j : Nat) (x : List B8), X[j]? = some x → ∃ u, cells[j]? = some u ∧ Bts (fun _ => True) w u x) (ho' : w'.ownsRow N 22 1 v' (n + 1) (cells ++ [u])) (hu : Bts (fun _ => True) w u x) : OParts N w' v' (n + 1) (X ++ [x]) := by
  refine ⟨_, ho', by simp [hcl], by simp [hx], fun j y hy => ?_⟩
  by_cases hj : j < n
  · rw [List.getElem?_append_left (by omega)] at hy
    obtain ⟨u0, d1, hu0⟩ := h4 j y hy
    exact ⟨u0, by rw [List.getElem?_append_left (by omega)]; exact d1, hu0.grown ho hg (by decide) (by decide)⟩
  · have hj' : j = n := by
      have := (List.getElem?_eq_some_iff.1 hy).1
      simp at this
      omega
    subst hj'
    rw [List.getElem?_append_right (by omega), hx, Nat.sub_self] at hy
    simp only [List.getElem?_cons_zero, Option.some.injEq] at hy
    subst hy
    exact ⟨u, by rw [List.getElem?_append_right (by omega), hcl, Nat.sub_self]; rfl, hu.grown ho hg (by decide) (by decide)⟩

theorem gath_end {w wk : World} {k : Nat} {S : Nat → List B8} {vw vn : Value} {cs : List Value} (h1 : OWrs w.heap.size (fun g => w.heap.size ≤ g) wk vw k (wrsTo S k)) (h2 : OParts w.heap.size wk vn k (notesTo S k)) (h3 : Below w.heap.size w wk) (h4 : Blk wk (w.heap.size + 1) 99 cs) (x y : Value) :
    OWrs w.heap.size (fun g => w.heap.size ≤ g) ((wk.setCell ⟨w.heap.size + 1, 0, none⟩ x).setCell ⟨w.heap.size + 1, 1, none⟩ y) vw k (wrsTo S k) ∧ OParts w.heap.size ((wk.setCell ⟨w.heap.size + 1, 0, none⟩ x).setCell ⟨w.heap.size + 1, 1, none⟩ y) vn k (notesTo S k) ∧
    Below w.heap.size w ((wk.setCell ⟨w.heap.size + 1, 0, none⟩ x).setCell ⟨w.heap.size + 1, 1, none⟩ y) := by
  have ho : Only [w.heap.size + 1] wk ((wk.setCell ⟨w.heap.size + 1, 0, none⟩ x).setCell ⟨w.heap.size + 1, 1, none⟩ y) := ((Only.refl _ wk).setCell (p := ⟨w.heap.size + 1, 0, none⟩) (.inl (by simp)) x).setCell (p := ⟨w.heap.size + 1, 1, none⟩) (.inl (by simp)) y
  have hbt : ∀ {A : Nat → Prop} {u : Value} {xs : List B8}, Bts A wk u xs → Bts A ((wk.setCell ⟨w.heap.size + 1, 0, none⟩ x).setCell ⟨w.heap.size + 1, 1, none⟩ y) u xs := by
    intro A u xs h
    rcases h with h | ⟨g, o, cap, t, ds, e, hA, hn, hb, ht, h5, h6⟩
    · exact .inl h
    · refine .inr ⟨g, o, cap, t, ds, e, hA, hn, hb.only ho ?_, ht, h5, h6⟩
      simp only [List.mem_singleton]
      rintro rfl
      exact hn.ne (by decide) (by decide) (hb.same h4).1
  refine ⟨?_, ?_, h3.trans (ho.below (B := w.heap.size) h3.size (by simp))⟩
  · obtain ⟨cells, c1, c2, c3⟩ := h1
    refine ⟨cells, ownsRow_only c1 ho (fun q hq => ?_), c2, fun jj p hp => ?_⟩
    · simp only [List.mem_singleton]
      rintro rfl
      exact own_blk_ne c1 h4 (by decide) hq
    · obtain ⟨d0, u, d1, hu⟩ := c3 jj p hp
      exact ⟨d0, u, d1, hbt hu⟩
  · obtain ⟨cells, c1, c2, c3, c4⟩ := h2
    refine ⟨cells, ownsRow_only c1 ho (fun q hq => ?_), c2, c3, fun jj p hp => ?_⟩
    · simp only [List.mem_singleton]
      rintro rfl
      exact own_blk_ne c1 h4 (by decide) hq
    · obtain ⟨u, d1, hu⟩ := c4 jj p hp
      exact ⟨u, d1, hbt hu⟩
theorem gath_read {wk : World} {b : Nat} {t : TypeId} {p q : Value} (h : Blk wk b t [p, q]) (x y : Value) :
    ((wk.setCell ⟨b, 0, none⟩ x).setCell ⟨b, 1, none⟩ y).cell? ⟨b, 0, none⟩ = some x ∧ ((wk.setCell ⟨b, 0, none⟩ x).setCell ⟨b, 1, none⟩ y).cell? ⟨b, 1, none⟩ = some y := by
  have := (h.set_ 0 x).set_ 1 y
  exact ⟨this.cell 0, this.cell 1⟩

set_option maxHeartbeats 4000000 in
theorem gathered_any (B : Nat) (w : World) (D L n j : Nat) (S : Nat → List B8) (cw cf num cnt : Nat) (hd : Idle B D L n S cw cf w) (hj : j + 1 < n) (hnum : num ≤ 9223372036854775807) (hcnt : 2 * cnt ≤ j) :
    Calls Tryz.prog 88 #[lay_ D j, .int .i64 num, .int .i64 cnt] w (gathPost S (n - j - 1) num cnt w) := by
  have hnb := hd.bound
  have hz := zeroTrans
  obtain ⟨i0, hi, hz0, hz1, hz2⟩ := info_parts writeInfo
  have HI := Lib.hid (And.intro hi (And.intro hz0 (And.intro hz1 hz2)))
  obtain ⟨i1, hjj, hy0, hy1, hy2⟩ := info_parts (show (Tryz.prog.info? 22).map (fun i => (i.zero, i.size, i.bytes)) = some (some (.slice none 0 0), 1, 24) by kernel_rfl)
  have HJ := Lib.hid (And.intro hjj (And.intro hy0 (And.intro hy1 hy2)))
  have HD := Lib.hid hd
  clear hd hi hz0 hz1 hz2 hjj hy0 hy1 hy2
  go_enter Tryz.func88, Tryz.ntmps88
  go_wp2_with fail
  go_step3
  go_wp2_with fail
  go_step3
  go_wp2_with fail
  have H0 := Lib.hid (GR.start w D j num S)
  go_loopw [22, 10] (fun iv vn wx => ∃ i : Nat, i ≤ cnt ∧ iv = .int .i64 i ∧ (∀ k, k < i → okAt S (n - j - 1) num cnt k) ∧ GR w D j num S i vn wx) (fun iv _ _ => cnt - (intOf iv).toNat)
  case atStart => exact ⟨0, Nat.zero_le _, rfl, fun k hk => absurd hk (by omega), H0.out⟩
  case round =>
    clear H0
    obtain ⟨i, hi, rfl, hall, hg⟩ := hrel
    have ⟨l0, l1⟩ := blk_pair hg.lay
    have HG := Lib.hid (And.intro hall hg)
    clear hall hg
    by_cases hlt : i < cnt
    · obtain ⟨a, ha⟩ : ∃ a : Nat, 1 + 2 * i = a := ⟨_, rfl⟩
      have hda := fun (w : World) => noteAt_any (D := D) (j := j) (w := w) i (by omega)
      rw [ha] at hda
      have HDA := Lib.hid hda
      have HA := Lib.hid ha
      have hab : a + 1 < n := by omega
      clear ha hda
      go_wp2_with fail
      refine (HDA.out _).mono ?_
      rintro e w2 ⟨rfl, hW⟩
      have ⟨l0, l1⟩ := blk_pair (HG.out.2.lay.below hW HG.out.2.lay.lt)
      have H2 := Lib.hid hW
      clear hW
      go_wp2_with fail
      refine (read_calm ((HD.out.below HG.out.2.bel).below H2.out).calm (k := a) (by omega)).mono ?_
      rintro e w3 ⟨v, rfl, hv, hW⟩
      have hs64 := HD.out.sec (k := a) (by omega)
      obtain ⟨Q, k3, rfl, hk64, hk3⟩ := hv.form
      rw [hs64] at hk64 hv ⊢
      obtain ⟨g, o, rfl, _, _, _⟩ := hv.cells.2 (by omega)
      have H3 := Lib.hid (And.intro (below_of H2.out hW) (hv.mono (A' := fun g => w.heap.size ≤ g) (fun g hg _ => Nat.le_trans HG.out.2.bel.size (Nat.le_trans H2.out.size hg))))
      have HG3 := Lib.hid (HG.out.2.below (below_of H2.out hW))
      clear hW hv l0 l1
      go_wp2_with fail
      refine (noted_any _ _ g o k3 (S a) H3.out.2 hk64 hk3).mono ?_
      rintro e w4 ⟨rfl, hW⟩
      have H4 := Lib.hid (And.intro (below_of H3.out.1 hW) (H3.out.2.below hW))
      have HG4 := Lib.hid (HG3.out.below hW)
      have ⟨l0, l1⟩ := blk_pair (HG3.out.lay.below hW HG3.out.lay.lt)
      clear hW HG3
      obtain ⟨f0, hf0⟩ : ∃ f, fromB (sub (S a) 0 8) = f := ⟨_, rfl⟩
      obtain ⟨f1, hf1⟩ : ∃ f, fromB (sub (S a) 12 4) = f := ⟨_, rfl⟩
      obtain ⟨f2, hf2⟩ : ∃ f, fromB (sub (S a) 16 4) = f := ⟨_, rfl⟩
      rw [hf0, hf1, hf2]
      have HF := Lib.hid (And.intro hf0 (And.intro hf1 hf2))
      have hokat : okAt S (n - j - 1) num cnt i ↔ f0 = num ∧ f1 = cnt ∧ f2 < n - j - 1 := by unfold okAt; rw [HA.out, hf0, hf1, hf2]
      have HOK := Lib.hid hokat
      clear hf0 hf1 hf2 hokat
      by_cases c0 : f0 = num
      · have e0 : ((f0 : Int) != (num : Int)) = false := by simp [c0]
        by_cases c1 : f1 = cnt
        · have e1 : ((f1 : Int) != (cnt : Int)) = false := by simp [c1]
          by_cases c2 : f2 < n - j - 1
          · have HOA := Lib.hid (HOK.out.2 ⟨c0, c1, c2⟩)
            clear c0 c1
            go_wp2_with (go_at_call 41; refine (has_yes ((HD.out.below HG4.out.bel)).calm hj hnb.2 f2 (by omega) (by omega)).mono ?_; rintro e w5 ⟨rfl, hW⟩; have HG5 := Lib.hid (HG4.out.below hW); have H5 := Lib.hid (H4.out.2.below hW); have ⟨l0, l1⟩ := blk_pair (HG4.out.lay.below hW HG4.out.lay.lt); clear hW)
            refine (read_calm ((HD.out.below HG5.out.bel)).calm (k := a + 1) (by omega)).mono ?_
            rintro e w6 ⟨v6, rfl, hv6, hW⟩
            have hs64 := HD.out.sec (k := a + 1) (by omega)
            obtain ⟨Q6, k6, rfl, hk64', hk6⟩ := hv6.form
            rw [hs64] at hk64' hv6 ⊢
            have hsz5 := HG5.out.bel.size
            have HG6 := HG5.out.below hW
            have hsz6 := HG6.bel.size
            have H6 := Lib.hid (And.intro (hv6.mono (A' := fun g => w.heap.size ≤ g) (fun g hg _ => Nat.le_trans hsz5 hg)) (And.intro (H5.out.below hW) HG6))
            obtain ⟨vw, hkt, how⟩ := HG6.tra
            obtain ⟨Pw, cw1, rfl⟩ := how.form
            have ⟨t0, t1⟩ := blk_pair hkt
            have hktl := hkt.lt
            obtain ⟨cells, ho, hxl, hcs⟩ := how
            obtain ⟨cn, hno, hncl, hnxl, hnc⟩ := HG6.nts
            have HT := Lib.hid (And.intro hkt (And.intro ho (And.intro hxl (And.intro hcs (And.intro hno (And.intro hncl (And.intro hnxl hnc)))))))
            clear hW hv6 HG6 hkt ho hxl hcs hno hncl hnxl hnc
            go_wp2_with (first
              | (at_builtin; refine wpList_append_own _ rfl (.tmp 73) (.tmp 77) 46 rfl w.heap.size 94 i0 (.agg #[.int .i64 0, .slice none 0 0]) 2 32 Tryz.underlying46 HI.out.1 HI.out.2.1 HI.out.2.2.1 HI.out.2.2.2 rfl (by decide) (.slice Pw i cw1) i cells rfl (HT.out.2.1.alloc _) ⟨w6.heap.size, 0, none⟩ 1 1 [.int .i64 f2, .slice Q6 64 k6] rfl rfl (new_row w6 [_, _] 94) (pair_one _ _ _ _) (by unfold maxLen; omega) (by omega) (by simp; omega) ?_; intro v7 w7 ho7 hg7 _; obtain ⟨P7, c7, rfl⟩ := own_sl ho7; have hkt7 := (HT.out.1.alloc (.cells #[.int .i64 f2, .slice Q6 64 k6] 94)).grown hg7 (fun e => own_blk_ne (HT.out.2.1.alloc (.cells #[.int .i64 f2, .slice Q6 64 k6] 94)) (HT.out.1.alloc (.cells #[.int .i64 f2, .slice Q6 64 k6] 94)) (by decide) e.symm); have ⟨t70, t71⟩ := blk_pair hkt7; have tf := hkt7.frozen 1; have hno7 := own_grown (HT.out.2.2.2.2.1.alloc (.cells #[.int .i64 f2, .slice Q6 64 k6] 94)) (HT.out.2.1.alloc (.cells #[.int .i64 f2, .slice Q6 64 k6] 94)) (by decide) hg7; have hno8 := own_only1 hno7 (only_set1 w7 (w.heap.size + 2) 1 (.slice P7 (i + 1) c7)) hkt7 (by decide); have hsz7 : w6.heap.size ≤ w7.heap.size := (by have := hg7.size; simp at this; omega); have H7 := Lib.hid (And.intro ho7 (And.intro hg7 (And.intro hkt7 hno8))); clear ho7 hg7 hkt7 hno7 hno8)
              | (at_builtin; refine wpList_append_own _ rfl (.tmp 80) (.tmp 82) 130 rfl w.heap.size 22 i1 (.slice none 0 0) 1 24 Tryz.underlying130 HJ.out.1 HJ.out.2.1 HJ.out.2.2.1 HJ.out.2.2.2 rfl (by decide) u10 i cn rfl (H7.out.2.2.2.alloc _) ⟨w7.heap.size, 0, none⟩ 1 1 [.slice (some ⟨g, o, none⟩) 64 k3] rfl rfl (new_row_set w7 _ _ _ [_] 22) (slice_one _ _ _) (by unfold maxLen; omega) (by omega) (by simp; omega) ?_; intro v9 w9 ho9 hg9 _; obtain ⟨P9, c9, rfl⟩ := own_sl ho9; have H9 := Lib.hid (And.intro ho9 hg9); clear ho9 hg9))
            have hbt6 : Bts (fun g => w.heap.size ≤ g) w6 (.slice Q6 64 k6) (S (a + 1)) := H6.out.1
            have own6 := HT.out.2.1.alloc (.cells #[.int .i64 f2, .slice Q6 64 k6] 94)
            have hn6 := new_below w6 (.cells #[.int .i64 f2, .slice Q6 64 k6] 94)
            have on7 := only_set1 w7 (w.heap.size + 2) 1 (.slice P7 (i + 1) c7)
            have hn8 := new_below (w7.setCell ⟨w.heap.size + 2, 1, none⟩ (.slice P7 (i + 1) c7)) (.cells #[.slice (some ⟨g, o, none⟩) 64 k3] 22)
            have own8 := H7.out.2.2.2.alloc (.cells #[.slice (some ⟨g, o, none⟩) 64 k3] 22)
            have HC := Lib.hid (And.intro own6 (And.intro hn6 (And.intro on7 (And.intro hn8 own8))))
            clear own6 hn6 on7 hn8 own8
            have hbch : ∀ (A : Nat → Prop) (u : Value) (xs : List B8), Bts A w6 u xs → Bts A ((w7.setCell ⟨w.heap.size + 2, 1, none⟩ (.slice P7 (i + 1) c7)).alloc (.cells #[.slice (some ⟨g, o, none⟩) 64 k3] 22)) u xs := fun A u xs h =>
              (((h.below HC.out.2.1).grown HC.out.1 H7.out.2.1 (by decide) (by decide)).only1 HC.out.2.2.1 H7.out.2.2.1).below HC.out.2.2.2.1
            have hch : ∀ (g' : Nat) (t : TypeId) (cs : List Value), 94 ≠ t → 22 ≠ t → t ≠ 99 → Blk w6 g' t cs → Blk w9 g' t cs := by
              intro g' t cs h1 h2 h3 hb
              have b7 := (hb.alloc (.cells #[.int .i64 f2, .slice Q6 64 k6] 94)).grown H7.out.2.1 (fun e => own_blk_ne HC.out.1 (hb.alloc _) h1 e.symm)
              have b8 := b7.only HC.out.2.2.1 (by simp only [List.mem_singleton]; rintro rfl; exact h3 (b7.same H7.out.2.2.1).1)
              exact (b8.alloc _).grown H9.out.2 (fun e => own_blk_ne HC.out.2.2.2.2 (b8.alloc _) h2 e.symm)
            have htr8 := H7.out.2.2.1.set_ 1 (.slice P7 (i + 1) c7)
            have htr9 := (htr8.alloc (.cells #[.slice (some ⟨g, o, none⟩) 64 k3] 22)).grown H9.out.2 (fun e => own_blk_ne HC.out.2.2.2.2 (htr8.alloc _) (by decide) e.symm)
            have how7 : OWrs w.heap.size (fun g => w.heap.size ≤ g) w7 (.slice P7 (i + 1) c7) (i + 1) (wrsTo S i ++ [((f2 : Int), S (a + 1))]) := by
              refine OWrs.add HC.out.1 HT.out.2.2.1 H7.out.2.1 (fun jj pp hpp => ?_) rfl H7.out.1 (fun jj pp hpp => ?_)
              · obtain ⟨c0, u, c1, hu⟩ := HT.out.2.2.2.1 jj pp hpp
                exact ⟨c0, u, c1, hu.below HC.out.2.1⟩
              · match jj, hpp with
                | 0, hpp =>
                  simp only [List.getElem?_cons_zero, Option.some.injEq] at hpp
                  subst hpp
                  exact ⟨rfl, _, rfl, hbt6.below HC.out.2.1⟩
            have how9 := ((how7.only1 HC.out.2.2.1 H7.out.2.2.1).below HC.out.2.2.2.1).grown HC.out.2.2.2.2 H9.out.2 (by decide) (by decide) (by decide)
            have hnt9 : OParts w.heap.size w9 (.slice P9 (i + 1) c9) (i + 1) (notesTo S i ++ [S a]) := by
              refine OParts.add1 HC.out.2.2.2.2 HT.out.2.2.2.2.2.1 HT.out.2.2.2.2.2.2.1 H9.out.2 (fun jj x hx => ?_) H9.out.1 ((hbch _ _ _ H6.out.2.1).mono (fun _ _ _ => trivial))
              obtain ⟨u, d1, hu⟩ := HT.out.2.2.2.2.2.2.2 jj x hx
              exact ⟨u, d1, hbch _ _ _ hu⟩
            have hbel9 : Below w.heap.size w w9 := by
              have b6 := H6.out.2.2.bel
              have b7 := (b6.trans (HC.out.2.1.mono b6.size)).grown H7.out.2.1 (by simp; omega) (fun q hq => own_ge HC.out.1 q hq)
              have b8 := b7.trans (HC.out.2.2.1.below (B := w.heap.size) b7.size (by simp))
              exact (b8.trans (HC.out.2.2.2.1.mono b8.size)).grown H9.out.2 (by simp; omega) (fun q hq => own_ge HC.out.2.2.2.2 q hq)
            have HE := Lib.hid (And.intro (hch _ _ _ (by decide) (by decide) (by decide) H6.out.2.2.lay) (And.intro htr9 (And.intro how9 (And.intro hnt9 hbel9))))
            have hres : Blk w9 (w.heap.size + 1) 99 [.int .i64 0, .slice none 0 0] := by
              have hb := H6.out.2.2.res
              have b7 := (hb.alloc (.cells #[.int .i64 f2, .slice Q6 64 k6] 94)).grown H7.out.2.1 (fun e => own_blk_ne HC.out.1 (hb.alloc _) (by decide) e.symm)
              have b8 := b7.only HC.out.2.2.1 (by simp)
              exact (b8.alloc _).grown H9.out.2 (fun e => own_blk_ne HC.out.2.2.2.2 (b8.alloc _) (by decide) e.symm)
            have HRS := Lib.hid hres
            clear hbch hch htr8 htr9 how7 how9 hnt9 hbel9 hres hbt6
            refine ⟨⟨i + 1, by omega, by go_num, fun k hk => ?_, ⟨HE.out.1, HRS.out, ⟨_, HE.out.2.1, ?_⟩, ?_, HE.out.2.2.2.2⟩⟩, by simp [intOf]; omega⟩
            · by_cases h : k = i
              · subst h; exact HOA.out
              · exact HG.out.1 k (by omega)
            · rw [wrsTo_succ]
              unfold wAt
              rw [HA.out, HF.out.2.2]
              exact HE.out.2.2.1
            · rw [notesTo_succ, HA.out]
              exact HE.out.2.2.2.1
          · have HNO := Lib.hid (fun h => c2 (HOK.out.1 h).2.2)
            clear c0 c1
            go_wp2_with (
              go_at_call 41
              refine (has_no ((HD.out.below HG4.out.bel)).calm hj hnb.2 f2 (by omega)).mono ?_
              rintro e w5 ⟨rfl, hW⟩
              have HG5 := Lib.hid (HG4.out.below hW)
              obtain ⟨vw, hkt, how⟩ := HG5.out.tra
              obtain ⟨Pw, cw1, rfl⟩ := how.form
              have ⟨t0, t1⟩ := blk_pair hkt
              have ⟨r0, r1⟩ := blk_pair HG5.out.res
              have rf0 := HG5.out.res.frozen 0
              have rf1 := HG5.out.res.frozen 1
              have HT := Lib.hid (And.intro how (And.intro HG5.out.nts (And.intro HG5.out.bel HG5.out.res)))
              clear how hkt hW)
            rw [Exit.noGoto_ret]
            have HS := Lib.hid (gath_end HT.out.1 HT.out.2.1 HT.out.2.2.1 HT.out.2.2.2 (.int .i64 num) (.slice Pw i cw1))
            have HC := Lib.hid (gath_read HT.out.2.2.2 (.int .i64 num) (.slice Pw i cw1))
            refine bodyPost_ret (v := .tuple #[.agg #[.int .i64 num, .slice Pw i cw1], u10, .int .i64 0]) ?_ rfl ⟨i, .slice Pw i cw1, u10, by omega, HG.out.1, fun _ => HNO.out, rfl, HS.out.1, HS.out.2.1, HS.out.2.2⟩
            have hc0 := HC.out.1
            have hc1 := HC.out.2
            simp [results, Tryz.results88, go_sem, hc0, hc1]
        · have e1 : ((f1 : Int) != (cnt : Int)) = true := by simp; omega
          have HNO := Lib.hid (fun h => c1 (HOK.out.1 h).2.1)
          clear c0 c1
          obtain ⟨vw, hkt, how⟩ := HG4.out.tra
          obtain ⟨Pw, cw1, rfl⟩ := how.form
          have ⟨t0, t1⟩ := blk_pair hkt
          have ⟨r0, r1⟩ := blk_pair HG4.out.res
          have rf0 := HG4.out.res.frozen 0
          have rf1 := HG4.out.res.frozen 1
          have HT := Lib.hid (And.intro how (And.intro HG4.out.nts (And.intro HG4.out.bel HG4.out.res)))
          clear how hkt
          go_wp2_with fail
          rw [Exit.noGoto_ret]
          have HS := Lib.hid (gath_end HT.out.1 HT.out.2.1 HT.out.2.2.1 HT.out.2.2.2 (.int .i64 num) (.slice Pw i cw1))
          have HC := Lib.hid (gath_read HT.out.2.2.2 (.int .i64 num) (.slice Pw i cw1))
          refine bodyPost_ret (v := .tuple #[.agg #[.int .i64 num, .slice Pw i cw1], u10, .int .i64 0]) ?_ rfl ⟨i, .slice Pw i cw1, u10, by omega, HG.out.1, fun _ => HNO.out, rfl, HS.out.1, HS.out.2.1, HS.out.2.2⟩
          have hc0 := HC.out.1
          have hc1 := HC.out.2
          simp [results, Tryz.results88, go_sem, hc0, hc1]
      · have e0 : ((f0 : Int) != (num : Int)) = true := by simp; omega
        have HNO := Lib.hid (fun h => c0 (HOK.out.1 h).1)
        clear c0
        obtain ⟨vw, hkt, how⟩ := HG4.out.tra
        obtain ⟨Pw, cw1, rfl⟩ := how.form
        have ⟨t0, t1⟩ := blk_pair hkt
        have ⟨r0, r1⟩ := blk_pair HG4.out.res
        have rf0 := HG4.out.res.frozen 0
        have rf1 := HG4.out.res.frozen 1
        have HT := Lib.hid (And.intro how (And.intro HG4.out.nts (And.intro HG4.out.bel HG4.out.res)))
        clear how hkt
        go_wp2_with fail
        rw [Exit.noGoto_ret]
        have HS := Lib.hid (gath_end HT.out.1 HT.out.2.1 HT.out.2.2.1 HT.out.2.2.2 (.int .i64 num) (.slice Pw i cw1))
        have HC := Lib.hid (gath_read HT.out.2.2.2 (.int .i64 num) (.slice Pw i cw1))
        refine bodyPost_ret (v := .tuple #[.agg #[.int .i64 num, .slice Pw i cw1], u10, .int .i64 0]) ?_ rfl ⟨i, .slice Pw i cw1, u10, by omega, HG.out.1, fun _ => HNO.out, rfl, HS.out.1, HS.out.2.1, HS.out.2.2⟩
        have hc0 := HC.out.1
        have hc1 := HC.out.2
        simp [results, Tryz.results88, go_sem, hc0, hc1]
    · obtain rfl : i = cnt := by omega
      obtain ⟨vw, hkt, how⟩ := HG.out.2.tra
      obtain ⟨Pw, cw1, rfl⟩ := how.form
      have ⟨t0, t1⟩ := blk_pair hkt
      have ⟨r0, r1⟩ := blk_pair HG.out.2.res
      have rf0 := HG.out.2.res.frozen 0
      have rf1 := HG.out.2.res.frozen 1
      have HT := Lib.hid (And.intro how (And.intro HG.out.2.nts (And.intro HG.out.2.bel HG.out.2.res)))
      clear how hkt
      go_wp2_with fail
      rw [Exit.noGoto_ret]
      have HS := Lib.hid (gath_end HT.out.1 HT.out.2.1 HT.out.2.2.1 HT.out.2.2.2 (.int .i64 num) (.slice Pw i cw1))
      have HC := Lib.hid (gath_read HT.out.2.2.2 (.int .i64 num) (.slice Pw i cw1))
      refine bodyPost_ret (v := .tuple #[.agg #[.int .i64 num, .slice Pw i cw1], u10, .int .i64 0]) ?_ rfl ⟨i, .slice Pw i cw1, u10, Nat.le_refl _, HG.out.1, fun h => absurd h (Nat.lt_irrefl _), rfl, HS.out.1, HS.out.2.1, HS.out.2.2⟩
      have hc0 := HC.out.1
      have hc1 := HC.out.2
      simp [results, Tryz.results88, go_sem, hc0, hc1]
end Go.Proofs.YtlfgbmfojghhcaaGreatDoor
end

/-
  The document's own Check: if it answers 0, the writes are right. Condition: the writes are known.
-/

section
set_option maxRecDepth 100000
set_option linter.unusedSimpArgs false
set_option linter.unusedVariables false
namespace Go.Proofs.YtlfgbmfojghhcaaGreatDoor
open Go.RowKit

theorem take_all {α : Type} {ws : List α} {i : Nat} {p : α} {q : α → Prop} (h : ∀ p ∈ ws.take i, q p) (hp : ws[i]? = some p) (hq : q p) : ∀ p ∈ ws.take (i + 1), q p := by
  intro x hx
  rw [take_snoc_ hp] at hx
  rcases List.mem_append.1 hx with hx | hx
  · exact h x hx
  · simp only [List.mem_singleton] at hx
    subst hx
    exact hq
theorem secs_snoc {ws : List (Int × List B8)} {i : Nat} {p : Int × List B8} (h : (secs (ws.take i)).Nodup) (hp : ws[i]? = some p) (hq : ∀ k q, k < i → ws[k]? = some q → q.1 ≠ p.1) : (secs (ws.take (i + 1))).Nodup := by
  rw [take_snoc_ hp]
  unfold secs at h ⊢
  rw [List.map_append, List.nodup_append]
  refine ⟨h, by simp, ?_⟩
  intro a ha b hb
  simp only [List.map_cons, List.map_nil, List.mem_singleton] at hb
  subst hb
  obtain ⟨q, hq1, rfl⟩ := List.mem_map.1 ha
  obtain ⟨k, hk⟩ := List.mem_iff_getElem?.1 hq1
  rw [List.getElem?_take] at hk
  split at hk
  · exact hq k q (by assumption) hk
  · cases hk

/-- What the document's Check answers. -/
def rcheckPost (data most m : Nat) (ws : List (Int × List B8)) (w : World) (e : Ending) (w' : World) : Prop := (∃ r : Int, e = .returned (.int .i64 r) ∧ (r = 0 → Right data ws ∧ m ≤ most)) ∧ Below w.heap.size w w'

set_option maxHeartbeats 2000000 in
theorem rcheck_any (w : World) (A : Nat → Prop) (P : Option Addr) (m c data most : Nat) (ws : List (Int × List B8)) (hw : Rfs A w (.slice P m c) ws) :
    Calls Tryz.prog 18 #[.slice P m c, .int .i64 data, .int .i64 most] w (rcheckPost data most m ws w) := by
  have hlen := hw.len
  have hm : m ≤ 9223372036854775807 := by obtain ⟨P', c', e, h1, h2⟩ := hw.form; cases e; omega
  have H := Lib.hid (And.intro hw hlen)
  clear hw hlen
  go_enter Tryz.func18, Tryz.ntmps18
  go_wp2_with fail
  go_loopw [7] (fun iv wx => ∃ i : Nat, i ≤ m ∧ iv = .int .i64 i ∧ Below w.heap.size w wx ∧ ∀ p ∈ ws.take i, 0 ≤ p.1 ∧ p.2.length = 64) (fun iv _ => m - (intOf iv).toNat)
  case atStart => exact ⟨0, Nat.zero_le _, rfl, Below.refl _ _, fun p hp => by simp at hp⟩
  case round =>
    obtain ⟨i, hi, rfl, hb, hall⟩ := hrel
    by_cases hlt : i < m
    · obtain ⟨p, hp⟩ : ∃ p, ws[i]? = some p := ⟨_, List.getElem?_eq_getElem (by have := H.out.2; omega)⟩
      obtain ⟨g, Q, m2, k2, rfl, hg, hAg, c0, c1, hl2, hbt, hmk, hk⟩ := (H.out.1.below hb).at_ hp
      have HR := Lib.hid (And.intro hb (And.intro hall hp))
      clear hb hall hp hbt
      by_cases h0 : p.1 < 0
      · have e0 : decide (p.1 < 0) = true := by simpa using h0
        clear h0 hl2
        go_wp2_with fail
        go_ret
        exact ⟨⟨1, rfl, fun h => absurd h (by decide)⟩, HR.out.1⟩
      · have e0 : decide (p.1 < 0) = false := by simpa using h0
        by_cases h64 : m2 = 64
        · have e1 : ((m2 : Int) != 64) = false := by simp; omega
          have HP := Lib.hid (show 0 ≤ p.1 ∧ p.2.length = 64 by omega)
          clear h0 h64 hl2
          go_wp2_with fail
          go_roundw
          case rel => exact ⟨i + 1, by omega, by go_num, HR.out.1, take_all HR.out.2.1 HR.out.2.2 HP.out⟩
          case measure => simp [intOf]; omega
        · have e1 : ((m2 : Int) != 64) = true := by simp; omega
          clear h0 h64 hl2
          go_wp2_with fail
          go_ret
          exact ⟨⟨1, rfl, fun h => absurd h (by decide)⟩, HR.out.1⟩
    · obtain rfl : i = m := by omega
      rw [List.take_of_length_le (by have := H.out.2; omega)] at hall
      have HA := Lib.hid (And.intro hb hall)
      clear hb hall hi
      go_wp2_with fail
      go_loopw [8] (fun iv wx => ∃ i' : Nat, i' ≤ i ∧ iv = .int .i64 i' ∧ Below w.heap.size w wx ∧ (secs (ws.take i')).Nodup) (fun iv _ => i - (intOf iv).toNat)
      case atStart => exact ⟨0, Nat.zero_le _, rfl, HA.out.1, by simp [secs]⟩
      case round =>
        obtain ⟨i', hi', rfl, hb, hnd⟩ := hrel
        by_cases hlt : i' < i
        · obtain ⟨p, hp⟩ : ∃ p, ws[i']? = some p := ⟨_, List.getElem?_eq_getElem (by have := H.out.2; omega)⟩
          have HR := Lib.hid (And.intro hb (And.intro hnd hp))
          clear hb hnd hp
          go_wp2_with fail
          go_loopw [9] (fun iv wx => ∃ k : Nat, k ≤ i' ∧ iv = .int .i64 k ∧ Below w.heap.size w wx ∧ ∀ k' q, k' < k → ws[k']? = some q → q.1 ≠ p.1) (fun iv _ => i' - (intOf iv).toNat)
          case atStart => exact ⟨0, Nat.zero_le _, rfl, HR.out.1, fun k' q h => absurd h (by omega)⟩
          case round =>
            obtain ⟨k, hk, rfl, hb, hall⟩ := hrel
            by_cases hkt : k < i'
            · obtain ⟨q, hq⟩ : ∃ q, ws[k]? = some q := ⟨_, List.getElem?_eq_getElem (by have := H.out.2; omega)⟩
              obtain ⟨g, Q, m2, k2, rfl, hg, hAg, c0, c1, _, _, _, _⟩ := (H.out.1.below hb).at_ HR.out.2.2
              obtain ⟨g', Q', m2', k2', e, hg', hAg', d0, d1, _, _, _, _⟩ := (H.out.1.below hb).at_ hq
              cases e
              have HK := Lib.hid (And.intro hb (And.intro hall hq))
              clear hb hall hq
              by_cases hpq : q.1 = p.1
              · have e0 : (q.1 == p.1) = true := by simpa using hpq
                clear hpq
                go_wp2_with fail
                go_region
                go_wp2_with fail
                go_ret
                exact ⟨⟨8, rfl, fun h => absurd h (by decide)⟩, HK.out.1.drew⟩
              · have e0 : (q.1 == p.1) = false := by simpa using hpq
                have HNE := Lib.hid hpq
                clear hpq
                go_wp2_with fail
                go_region
                go_wp2_with fail
                go_roundw
                case rel =>
                  refine ⟨k + 1, by omega, by go_num, HK.out.1.drew, fun k' x hk' hx => ?_⟩
                  by_cases h : k' = k
                  · subst h
                    rw [HK.out.2.2] at hx
                    cases hx
                    exact HNE.out
                  · exact HK.out.2.1 k' x (by omega) hx
                case measure => simp [intOf]; omega
            · obtain rfl : k = i' := by omega
              have HK := Lib.hid (And.intro hb (secs_snoc HR.out.2.1 HR.out.2.2 hall))
              clear hb hall
              go_wp2_with fail
              go_roundw
              case rel => exact ⟨k + 1, by omega, by go_num, HK.out.1, HK.out.2⟩
              case measure => simp [intOf]; omega
        · obtain rfl : i' = i := by omega
          rw [List.take_of_length_le (by have := H.out.2; omega)] at hnd
          have HN := Lib.hid (And.intro hb hnd)
          clear hb hnd hi'
          go_wp2_with fail
          go_loopw [10] (fun iv wx => ∃ k : Nat, k ≤ i' ∧ iv = .int .i64 k ∧ Below w.heap.size w wx ∧ ∀ p ∈ ws.take k, p.1 < data) (fun iv _ => i' - (intOf iv).toNat)
          case atStart => exact ⟨0, Nat.zero_le _, rfl, HN.out.1, fun p hp => by simp at hp⟩
          case round =>
            obtain ⟨k, hk, rfl, hb, hall⟩ := hrel
            by_cases hkt : k < i'
            · obtain ⟨q, hq⟩ : ∃ q, ws[k]? = some q := ⟨_, List.getElem?_eq_getElem (by have := H.out.2; omega)⟩
              obtain ⟨g, Q, m2, k2, rfl, hg, hAg, c0, c1, _, _, _, _⟩ := (H.out.1.below hb).at_ hq
              have HK := Lib.hid (And.intro hb (And.intro hall hq))
              clear hb hall hq
              by_cases hqd : q.1 < data
              · have e0 : decide ((data : Int) ≤ q.1) = false := by simpa using hqd
                have HQ := Lib.hid hqd
                clear hqd
                go_wp2_with fail
                go_roundw
                case rel => exact ⟨k + 1, by omega, by go_num, HK.out.1, take_all HK.out.2.1 HK.out.2.2 HQ.out⟩
                case measure => simp [intOf]; omega
              · have e0 : decide ((data : Int) ≤ q.1) = true := by simpa using hqd
                clear hqd
                go_wp2_with fail
                go_ret
                exact ⟨⟨1, rfl, fun h => absurd h (by decide)⟩, HK.out.1⟩
            · obtain rfl : k = i' := by omega
              rw [List.take_of_length_le (by have := H.out.2; omega)] at hall
              have HK := Lib.hid (And.intro hb hall)
              clear hb hall
              by_cases hmo : most < k
              · have e0 : decide (most < k) = true := by simpa using hmo
                clear hmo
                go_wp2_with fail
                go_ret
                exact ⟨⟨6, rfl, fun h => absurd h (by decide)⟩, HK.out.1⟩
              · have e0 : decide (most < k) = false := by simpa using hmo
                have HM := Lib.hid hmo
                clear hmo
                go_wp2_with fail
                go_ret
                exact ⟨⟨0, rfl, fun _ => ⟨⟨fun p hp => ⟨(HA.out.2 p hp).1, HK.out.2 p hp, (HA.out.2 p hp).2⟩, HN.out.2⟩, by have := HM.out; omega⟩⟩, HK.out.1⟩
end Go.Proofs.YtlfgbmfojghhcaaGreatDoor
end

/-
  Two logs side by side: a commit to the one leaves the other. Conditions: the disks have power that never goes; the writes are right.
-/

section
set_option maxRecDepth 100000
set_option linter.unusedSimpArgs false
set_option linter.unusedVariables false
namespace Go.Proofs.YtlfgbmfojghhcaaGreatDoor
open Go.RowKit

/-- What is read of the data of a log whose journal has 24 sectors. -/
def dv (S : Nat → List B8) : Nat → List B8 := fun k => S (25 + k)
theorem layS_cons (S : Nat → List B8) (p : Int × List B8) (ws : List (Int × List B8)) : layS S (p :: ws) = layS (upd S p.1.toNat p.2) ws := rfl
theorem layS_off (k : Nat) : ∀ (ws : List (Int × List B8)) (S : Nat → List B8), (∀ p ∈ ws, p.1.toNat ≠ k) → layS S ws k = S k
  | [], _, _ => rfl
  | p :: ws, S, h => by
    rw [layS_cons, layS_off k ws _ (fun q hq => h q (List.mem_cons_of_mem _ hq))]
    unfold upd
    rw [if_neg (fun e => h p (List.mem_cons_self) e.symm)]
theorem layS_on (k : Nat) : ∀ (ws : List (Int × List B8)) (S S' : Nat → List B8), (S k = S' k ∨ ∃ p ∈ ws, p.1.toNat = k) → layS S ws k = layS S' ws k
  | [], S, S', h => by
    rcases h with h | ⟨p, hp, _⟩
    · exact h
    · simp at hp
  | p :: ws, S, S', h => by
    rw [layS_cons, layS_cons]
    apply layS_on k ws
    by_cases hk : p.1.toNat = k
    · left
      unfold upd
      rw [if_pos hk.symm, if_pos hk.symm]
    · rcases h with h | ⟨q, hq, hqk⟩
      · left
        unfold upd
        rw [if_neg (fun e => hk e.symm), if_neg (fun e => hk e.symm)]
        exact h
      · rcases List.mem_cons.1 hq with rfl | hq
        · exact absurd hqk hk
        · exact .inr ⟨q, hq, hqk⟩
theorem layS_at {ws : List (Int × List B8)} (S : Nat → List B8) (hn : (secs ws).Nodup) (h0 : ∀ p ∈ ws, 0 ≤ p.1) {p : Int × List B8} (hp : p ∈ ws) : layS S ws p.1.toNat = p.2 := by
  induction ws generalizing S with
  | nil => simp at hp
  | cons q ws ih =>
    unfold secs at hn ih
    rw [List.map_cons, List.nodup_cons] at hn
    rw [layS_cons]
    rcases List.mem_cons.1 hp with rfl | hp
    · rw [layS_off]
      · unfold upd
        rw [if_pos rfl]
      · intro r hr e
        have h1 := h0 r (List.mem_cons_of_mem _ hr)
        have h2 := h0 p (List.mem_cons_self)
        have : r.1 = p.1 := by omega
        exact hn.1 (by rw [← this]; exact List.mem_map_of_mem hr)
    · exact ih _ hn.2 (fun r hr => h0 r (List.mem_cons_of_mem _ hr)) hp
/-- Whichever is first. -/
theorem layS_comm {X Y : List (Int × List B8)} (S : Nat → List B8) (h : ∀ p ∈ X, ∀ q ∈ Y, p.1.toNat ≠ q.1.toNat) (k : Nat) : layS (layS S X) Y k = layS (layS S Y) X k := by
  by_cases hx : ∃ p ∈ X, p.1.toNat = k
  · obtain ⟨p, hp, rfl⟩ := hx
    rw [layS_off _ Y _ (fun q hq => (h p hp q hq).symm)]
    exact layS_on _ X _ _ (.inr ⟨p, hp, rfl⟩)
  · rw [layS_off k X (layS S Y) (fun p hp e => hx ⟨p, hp, e⟩)]
    exact layS_on k Y _ _ (.inl (layS_off k X S (fun p hp e => hx ⟨p, hp, e⟩)))
theorem layS_data (S : Nat → List B8) : ∀ (ws : List (Int × List B8)), dv (layS S (dataOf 24 ws)) = layS (dv S) ws := by
  intro ws
  induction ws generalizing S with
  | nil => rfl
  | cons p ws ih =>
    have e : dataOf 24 (p :: ws) = ((((1 + 24 + p.1.toNat : Nat) : Int), p.2)) :: dataOf 24 ws := rfl
    rw [e, layS_cons, layS_cons, ih]
    congr 1
    funext k
    unfold dv upd
    show (if 25 + k = ((1 + 24 + p.1.toNat : Nat) : Int).toNat then _ else _) = _
    by_cases hk : k = p.1.toNat
    · rw [if_pos (by omega), if_pos hk]
    · rw [if_neg (by omega), if_neg hk]
theorem behind_data (ks : List B32) (num m : Nat) (S : Nat → List B8) (ws : List (Int × List B8)) (hm : ws.length ≤ 12) : dv (behind ks 24 num m S ws) = layS (dv S) ws := by
  have e : dv (behind ks 24 num m S ws) = dv (layS (layS S (jrnOf num m (digOf ks num ws) ws)) (dataOf 24 ws)) := by
    funext k
    unfold dv behind upd
    rw [if_neg (by omega)]
  rw [e, layS_data]
  congr 1
  funext k
  unfold dv
  refine layS_off _ _ _ fun p hp => ?_
  obtain ⟨i, q, hq, rfl | rfl⟩ := jrnOf_mem hp
  · have := (List.getElem?_eq_some_iff.1 hq).1
    show ((1 + 2 * i : Nat) : Int).toNat ≠ _
    omega
  · have := (List.getElem?_eq_some_iff.1 hq).1
    show ((1 + 2 * i + 1 : Nat) : Int).toNat ≠ _
    omega

/-- A log at rest, on a disk of 37 sectors, with a journal of 24; so many writes, flushes and transactions at most. -/
def One (B : Nat) (w : World) (D L G : Nat) (S : Nat → List B8) (c : Nat) : Prop :=
  ∃ cw cf dn, cw ≤ c ∧ cf ≤ c ∧ dn ≤ c ∧ Idle B D L 37 S cw cf w ∧ Blk w G 87 (logCells D 24 (1, 0) dn false) ∧ B ≤ G
theorem One.stp {B C : Nat} {w w' : World} {D L G c : Nat} {S : Nat → List B8} {X : List Nat} (h : One B w D L G S c) (hs : Stp C X w w') (hD : D ∉ X) (hL : L ∉ X) (hG : G ∉ X) : One B w' D L G S c := by
  obtain ⟨cw, cf, dn, h1, h2, h3, h4, h5, h6⟩ := h
  exact ⟨cw, cf, dn, h1, h2, h3, h4.stp hs hD hL, hs.keep G _ _ (by decide) hG h5, h6⟩
theorem One.below {B : Nat} {w w' : World} {D L G c : Nat} {S : Nat → List B8} (h : One B w D L G S c) (hs : Below w.heap.size w w') : One B w' D L G S c :=
  h.stp (X := []) (Stp.of_below (Nat.le_refl _) hs) (by simp) (by simp) (by simp)

theorem commit_one (ks : List B32) {B : Nat} {w : World} {D L G c : Nat} {S : Nat → List B8} {A : Nat → Prop} {P : Option Addr} {m cc : Nat} {ws : List (Int × List B8)} (h : One B w D L G S c) (hB : B ≤ w.heap.size) (hK : Roots ks w) (hKB : 1 < B)
    (hw : Wrs A w (.slice P m cc) ws) (hA : ∀ g, A g → g ∉ [D, L, G]) (hr : Right 12 ws) (hm : m ≤ 10) (hc : c ≤ 500000) :
    Calls Tryz.prog 19 #[.pointer (some ⟨G, 0, none⟩), .slice P m cc] w fun e w' => e = .returned (.int .i64 0) ∧ ∃ S', One B w' D L G S' (c + 31) ∧ dv S' = layS (dv S) ws ∧ Stp B [D, L, G] w w' := by
  obtain ⟨cw, cf, dn, h1, h2, h3, h4, h5, h6⟩ := h
  have hlen := hw.len
  by_cases hm0 : m = 0
  · subst hm0
    obtain rfl : ws = [] := List.eq_nil_of_length_eq_zero hlen
    refine (commit_none h4 h5 hw (by omega) (by omega)).mono ?_
    rintro e w' ⟨rfl, hW⟩
    exact ⟨rfl, S, ⟨cw, cf, dn, by omega, by omega, by omega, h4.below hW, h5.below hW h5.lt, h6⟩, rfl, Stp.of_below hB hW⟩
  · refine (commit_ok ks h4 hB hK hKB h6 h5 hw hA hr (by omega) (by omega) (by omega) (by omega) (by omega) (by omega) (by omega)).mono ?_
    rintro e w' ⟨rfl, hI, hG, hS⟩
    exact ⟨rfl, _, ⟨_, _, _, by omega, by omega, by omega, hI, hG, h6⟩, behind_data ks _ _ S ws (by omega), hS⟩

theorem read_one {B : Nat} {w : World} {D L G c : Nat} {S : Nat → List B8} (h : One B w D L G S c) (k : Nat) (hk : k < 12) :
    Calls Tryz.prog 20 #[.pointer (some ⟨G, 0, none⟩), .int .i64 k] w fun e w' => ∃ v, e = .returned (.tuple #[v, .int .i64 0]) ∧ Bts (fun g => w.heap.size ≤ g) w' v (dv S k) ∧ Below w.heap.size w w' := by
  obtain ⟨cw, cf, dn, h1, h2, h3, h4, h5, h6⟩ := h
  have := jread_any h4 h5 (by omega) k (by omega)
  rw [show 1 + 24 + k = 25 + k by omega] at this
  exact this
theorem One.sec {B : Nat} {w : World} {D L G c : Nat} {S : Nat → List B8} (h : One B w D L G S c) {k : Nat} (hk : k < 12) : (dv S k).length = 64 := by
  obtain ⟨cw, cf, dn, h1, h2, h3, h4, h5, h6⟩ := h
  exact h4.sec (by omega)
def all12 (T : Nat → List B8) : List B8 := ((List.range 12).map T).flatten
theorem all12_length {T : Nat → List B8} (h : ∀ k, k < 12 → (T k).length = 64) : (all12 T).length = 768 := by
  unfold all12
  rw [List.length_flatten, List.map_map]
  have e : (List.range 12).map (List.length ∘ T) = (List.range 12).map fun _ => 64 := List.map_congr_left fun k hk => h k (List.mem_range.1 hk)
  rw [e]
  rfl
theorem data_one {B : Nat} {w : World} {D L G c : Nat} {S : Nat → List B8} (h : One B w D L G S c) :
    Calls Tryz.prog 15 #[.pointer (some ⟨G, 0, none⟩)] w fun e w' => ∃ Q k, e = .returned (.slice Q 768 k) ∧ Bts (fun g => w.heap.size ≤ g) w' (.slice Q 768 k) (all12 (dv S)) ∧ Below w.heap.size w w' := by
  have hl := all12_length fun k hk => h.sec hk
  obtain ⟨cw, cf, dn, h1, h2, h3, h4, h5, h6⟩ := h
  have h := data_of h4 h5 (by omega) (by omega)
  have e : dataS S 24 (37 - 24 - 1) = all12 (dv S) := by
    unfold dataS all12 dv
    rfl
  rw [e] at h
  refine h.mono ?_
  rintro e w' ⟨v, rfl, hv, hW⟩
  obtain ⟨Q, k, rfl, _, _⟩ := hv.form
  rw [hl] at hv ⊢
  exact ⟨Q, k, rfl, hv, hW⟩

/-- Two of them, and where they are kept. -/
structure Pair (B : Nat) (w : World) (a L0 D0 G0 L1 D1 G1 : Nat) (S0 S1 : Nat → List B8) (c : Nat) : Prop where
  one : One B w D0 L0 G0 S0 c
  two : One B w D1 L1 G1 S1 c
  arr : Blk w a 49 [.pointer (some ⟨G0, 0, none⟩), .pointer (some ⟨G1, 0, none⟩)]
  ord : B ≤ a ∧ a < L0 ∧ L0 < D0 ∧ D0 < G0 ∧ G0 < L1 ∧ L1 < D1 ∧ D1 < G1
section
variable {B : Nat} {w w' : World} {a L0 D0 G0 L1 D1 G1 c c' : Nat} {S0 S1 S' : Nat → List B8}
theorem Pair.below (h : Pair B w a L0 D0 G0 L1 D1 G1 S0 S1 c) (hb : Below w.heap.size w w') : Pair B w' a L0 D0 G0 L1 D1 G1 S0 S1 c := ⟨h.one.below hb, h.two.below hb, h.arr.below hb h.arr.lt, h.ord⟩
theorem One.more {D L G : Nat} {S : Nat → List B8} (h : One B w D L G S c) (hc : c ≤ c') : One B w D L G S c' := by
  obtain ⟨cw, cf, dn, h1, h2, h3, h⟩ := h
  exact ⟨cw, cf, dn, by omega, by omega, by omega, h⟩
theorem Pair.first (h : Pair B w a L0 D0 G0 L1 D1 G1 S0 S1 c) (h1 : One B w' D0 L0 G0 S' c') (hc : c ≤ c') (hs : Stp B [D0, L0, G0] w w') : Pair B w' a L0 D0 G0 L1 D1 G1 S' S1 c' := by
  have ho := h.ord
  exact ⟨h1, (h.two.stp hs (by simp; omega) (by simp; omega) (by simp; omega)).more hc, hs.keep a _ _ (by decide) (by simp; omega) h.arr, ho⟩
theorem Pair.second (h : Pair B w a L0 D0 G0 L1 D1 G1 S0 S1 c) (h1 : One B w' D1 L1 G1 S' c') (hc : c ≤ c') (hs : Stp B [D1, L1, G1] w w') : Pair B w' a L0 D0 G0 L1 D1 G1 S0 S' c' := by
  have ho := h.ord
  exact ⟨(h.one.stp hs (by simp; omega) (by simp; omega) (by simp; omega)).more hc, h1, hs.keep a _ _ (by decide) (by simp; omega) h.arr, ho⟩
end
end Go.Proofs.YtlfgbmfojghhcaaGreatDoor
end

/-
  The document's Lay: data with writes laid in. Conditions: the data and the writes are known; the writes are to sectors that are there, bytes of a sector.
-/

section
set_option maxRecDepth 100000
set_option linter.unusedSimpArgs false
set_option linter.unusedVariables false
namespace Go.Proofs.YtlfgbmfojghhcaaGreatDoor
open Go.RowKit

/-- Bytes with the first k of others laid in from a place on. -/
def setN (xs : List B8) (off : Nat) (b : List B8) : Nat → List B8
  | 0 => xs
  | k + 1 => (setN xs off b k).set (off + k) (b.getD k 0)
theorem setN_length (xs : List B8) (off : Nat) (b : List B8) : ∀ k, (setN xs off b k).length = xs.length
  | 0 => rfl
  | k + 1 => by unfold setN; rw [List.length_set, setN_length xs off b k]
theorem setN_get (xs : List B8) (off : Nat) (b : List B8) : ∀ k, k ≤ b.length → off + k ≤ xs.length → ∀ i, (setN xs off b k)[i]? = if off ≤ i ∧ i < off + k then b[i - off]? else xs[i]?
  | 0, _, _, i => by
    unfold setN
    rw [if_neg (by omega)]
  | k + 1, hb, hx, i => by
    unfold setN
    rw [List.getElem?_set]
    by_cases h : off + k = i
    · subst h
      rw [if_pos rfl, if_pos (by rw [setN_length]; omega), if_pos (by omega), show off + k - off = k by omega, List.getD_eq_getElem?_getD, List.getElem?_eq_getElem (by omega)]
      rfl
    · rw [if_neg h, setN_get xs off b k (by omega) (by omega) i]
      by_cases h2 : off ≤ i ∧ i < off + k
      · rw [if_pos h2, if_pos (by omega)]
      · rw [if_neg h2, if_neg (by omega)]
def layB (xs : List B8) (ws : List (Int × List B8)) : List B8 := ws.foldl (fun xs p => setN xs (64 * p.1.toNat) p.2 64) xs
theorem layB_cons (xs : List B8) (p : Int × List B8) (ws : List (Int × List B8)) : layB xs (p :: ws) = layB (setN xs (64 * p.1.toNat) p.2 64) ws := by unfold layB; rw [List.foldl_cons]
theorem layB_snoc (xs : List B8) (ws : List (Int × List B8)) (p : Int × List B8) : layB xs (ws ++ [p]) = setN (layB xs ws) (64 * p.1.toNat) p.2 64 := by unfold layB; rw [List.foldl_append, List.foldl_cons, List.foldl_nil]
theorem layB_length (xs : List B8) (ws : List (Int × List B8)) : (layB xs ws).length = xs.length := by
  induction ws generalizing xs with
  | nil => rfl
  | cons p ws ih =>
    rw [layB_cons, ih, setN_length]
theorem dataS_get {S : Nat → List B8} {j : Nat} : ∀ {d : Nat}, (∀ k, k < d → (S (1 + j + k)).length = 64) → ∀ i, i < 64 * d → (dataS S j d)[i]? = (S (1 + j + i / 64))[i % 64]?
  | 0, _, i, hi => by omega
  | d + 1, h, i, hi => by
    rw [dataS_succ]
    have hl := dataS_length (S := S) (j := j) (k := d) (fun k hk => h k (by omega))
    by_cases h2 : i < 64 * d
    · rw [List.getElem?_append_left (by omega), dataS_get (fun k hk => h k (by omega)) i h2]
    · rw [List.getElem?_append_right (by omega), hl, show i / 64 = d by omega, show i % 64 = i - 64 * d by omega]
theorem lay_one {S : Nat → List B8} {j d no : Nat} {b : List B8} (h : ∀ k, k < d → (S (1 + j + k)).length = 64) (hno : no < d) (hb : b.length = 64) : setN (dataS S j d) (64 * no) b 64 = dataS (upd S (1 + j + no) b) j d := by
  have hl := dataS_length (S := S) (j := j) (k := d) h
  have h' : ∀ k, k < d → (upd S (1 + j + no) b (1 + j + k)).length = 64 := by
    intro k hk
    unfold upd
    split
    · exact hb
    · exact h k hk
  have hl' := dataS_length (S := upd S (1 + j + no) b) (j := j) (k := d) h'
  apply List.ext_getElem?
  intro i
  rw [setN_get _ _ _ 64 (by omega) (by omega)]
  by_cases hi : i < 64 * d
  · rw [dataS_get h i hi, dataS_get h' i hi]
    unfold upd
    by_cases h2 : 64 * no ≤ i ∧ i < 64 * no + 64
    · rw [if_pos h2, if_pos (by omega), show i % 64 = i - 64 * no by omega]
    · rw [if_neg h2, if_neg (by omega)]
  · rw [if_neg (by omega), List.getElem?_eq_none (by omega), List.getElem?_eq_none (by omega)]
theorem lay_data {j d : Nat} : ∀ (ws : List (Int × List B8)) (S : Nat → List B8), (∀ k, k < d → (S (1 + j + k)).length = 64) → (∀ p ∈ ws, 0 ≤ p.1 ∧ p.1 < (d : Nat) ∧ p.2.length = 64) → layB (dataS S j d) ws = dataS (layS S (dataOf j ws)) j d
  | [], _, _, _ => rfl
  | p :: ws, S, h, hw => by
    obtain ⟨h1, h2, h3⟩ := hw p (List.mem_cons_self)
    rw [layB_cons, lay_one h (by omega) h3]
    have e : dataOf j (p :: ws) = ((((1 + j + p.1.toNat : Nat) : Int), p.2)) :: dataOf j ws := rfl
    rw [e, layS_cons, show (((1 + j + p.1.toNat : Nat) : Int)).toNat = 1 + j + p.1.toNat by omega]
    refine lay_data ws _ ?_ (fun q hq => hw q (List.mem_cons_of_mem _ hq))
    intro k hk
    unfold upd
    split
    · exact h3
    · exact h k hk
theorem own_set {N n k g cap : Nat} {w : World} {xs : List Value} (h : w.ownsRow N 5 1 (.slice (some ⟨g, 0, none⟩) n cap) n xs) (hk : k < n) (u : Value) : (w.setCell ⟨g, k, none⟩ u).ownsRow N 5 1 (.slice (some ⟨g, 0, none⟩) n cap) n (xs.set k u) := by
  obtain ⟨h1, h2⟩ := h
  refine ⟨by rw [List.length_set]; exact h1, ?_⟩
  rcases h2 with ⟨h, _⟩ | ⟨g', cap', cur, e, hb, hg, hc1, hc2, hcs, ht⟩
  · cases h
  · cases e
    refine .inr ⟨g, cap, cur.setIfInBounds k u, rfl, hb, ?_, hc1, hc2, by simpa using hcs, ?_⟩
    · simp [World.setCell, Array.getElem?_modify, hg]
    · rw [← ht]
      simp [List.take_set]

theorem own_at {N n k g cap : Nat} {w : World} {xs : List Value} (h : w.ownsRow N 5 1 (.slice (some ⟨g, 0, none⟩) n cap) n xs) (hk : k < n) : (∃ u, w.cell? ⟨g, k, none⟩ = some u) ∧ w.frozen? ⟨g, k, none⟩ = false := by
  obtain ⟨h1, h2⟩ := h
  rcases h2 with ⟨h, _⟩ | ⟨g', cap', cur, e, hb, hg, hc1, hc2, hcs, ht⟩
  · cases h
  · cases e
    have hb : Blk w g 5 cur.toList := by simpa [Blk] using hg
    exact ⟨⟨_, by rw [hb.cell, List.getElem?_eq_getElem (by simp; omega)]⟩, hb.frozen k⟩
theorem own_some {N n s : Nat} {e : TypeId} {w : World} {v : Value} {xs : List Value} (h : w.ownsRow N e s v n xs) (hn : 0 < n) : ∃ g cap, v = .slice (some ⟨g, 0, none⟩) n cap ∧ n ≤ cap ∧ cap ≤ 9223372036854775807 ∧ N ≤ g := by
  rcases h.2 with ⟨_, h0⟩ | ⟨g, cap, cur, rfl, hb, _, h1, h2, _⟩
  · omega
  · exact ⟨g, cap, rfl, h1, by unfold maxLen at h2; omega, hb⟩

set_option maxHeartbeats 4000000 in
theorem rlay_any (w : World) (A A' : Nat → Prop) (Q : Option Addr) (N c d : Nat) (xs : List B8) (P : Option Addr) (m c2 : Nat) (ws : List (Int × List B8)) (hx : Bts A w (.slice Q N c) xs) (hw : Rfs A' w (.slice P m c2) ws) (hN : N = 64 * d) (hd0 : 0 < d) (hd : d ≤ 4096)
    (hok : ∀ p ∈ ws, 0 ≤ p.1 ∧ p.1 < (d : Nat) ∧ p.2.length = 64) :
    Calls Tryz.prog 32 #[.slice Q N c, .slice P m c2] w fun e w' => ∃ v, e = .returned v ∧ w'.ownsRow w.heap.size 5 1 v N (Vb (layB xs ws)) ∧ Below w.heap.size w w' := by
  obtain ⟨i0, hi, hz0, hz1, hz2⟩ := info_parts (show (Tryz.prog.info? 5).map (fun i => (i.zero, i.size, i.bytes)) = some (some (.int .u8 0), 1, 1) by kernel_rfl)
  have HI := Lib.hid (And.intro hi (And.intro hz0 (And.intro hz1 hz2)))
  have hlen := hw.len
  have hxl := hx.cells.1
  obtain ⟨g, o, rfl, _, _, _⟩ := hx.cells.2 (by omega)
  have hmm : m ≤ 9223372036854775807 := by obtain ⟨P', c', e, h1, h2⟩ := hw.form; cases e; omega
  have H := Lib.hid (And.intro hx (And.intro hw (And.intro hok (And.intro hlen hxl))))
  have hN0 : 0 < N := by omega
  have hN1 : N ≤ 262144 := by omega
  have HN := Lib.hid hN
  clear hx hw hok hlen hxl hi hz0 hz1 hz2 hN
  go_enter Tryz.func32, Tryz.ntmps32
  go_wp2_with (at_builtin; refine wpList_append_own _ rfl (.tmp 8) (.tmp 9) 22 rfl w.heap.size 5 i0 (.int .u8 0) 1 1 Tryz.underlying22 HI.out.1 HI.out.2.1 HI.out.2.2.1 HI.out.2.2.2 rfl (by decide) (.slice (some ⟨w.heap.size, 0, none⟩) 0 0) 0 [] rfl (made_empty w w (Nat.le_refl _)) ⟨g, o, none⟩ N c (Vb xs) rfl (by rw [Vb_length, Nat.mul_one]; exact H.out.2.2.2.2) ((H.out.1.below (new_below w _)).row) (Vb_oneCell _) (by unfold maxLen; omega) (by omega) (by simp) ?_; intro v1 w1 ho1 hg1 _; obtain ⟨go, cv, rfl, hcv1, hcv2, hgo⟩ := own_some ho1 (by omega); have H1 := Lib.hid (And.intro ho1 (empty_grown hg1)); clear ho1 hg1)
  have hown1 : w1.ownsRow w.heap.size 5 1 (.slice (some ⟨go, 0, none⟩) N cv) N (Vb xs) := by
    have h := H1.out.1
    rw [List.nil_append, Nat.zero_add] at h
    exact h
  have H2 := Lib.hid hown1
  clear hown1
  go_loopw [6] (fun iv wx => ∃ i : Nat, i ≤ m ∧ iv = .int .i64 i ∧ wx.ownsRow w.heap.size 5 1 (.slice (some ⟨go, 0, none⟩) N cv) N (Vb (layB xs (ws.take i))) ∧ Below w.heap.size w wx) (fun iv _ => m - (intOf iv).toNat)
  case atStart => exact ⟨0, Nat.zero_le _, rfl, by rw [List.take_zero]; exact H2.out, H1.out.2⟩
  case round =>
    obtain ⟨i, hi, rfl, hown, hbel⟩ := hrel
    by_cases hlt : i < m
    · obtain ⟨p, hp⟩ : ∃ p, ws[i]? = some p := ⟨_, List.getElem?_eq_getElem (by have := H.out.2.2.2.1; omega)⟩
      obtain ⟨hp1, hp2, hp3⟩ := H.out.2.2.1 p (List.mem_of_getElem? hp)
      obtain ⟨q, hq⟩ : ∃ q : Nat, p.1 = q := ⟨p.1.toNat, by omega⟩
      have hqd : q < d := by omega
      have HR := Lib.hid (And.intro hown (And.intro hbel (And.intro hp (And.intro hp3 hq))))
      clear hown hbel hp hp1 hp2 hp3 hq
      go_wp2_with fail
      go_loopw [7] (fun iv wx => ∃ k : Nat, k ≤ 64 ∧ iv = .int .i64 k ∧ wx.ownsRow w.heap.size 5 1 (.slice (some ⟨go, 0, none⟩) N cv) N (Vb (setN (layB xs (ws.take i)) (64 * q) p.2 k)) ∧ Below w.heap.size w wx) (fun iv _ => 64 - (intOf iv).toNat)
      case atStart => exact ⟨0, Nat.zero_le _, rfl, HR.out.1, HR.out.2.1⟩
      case round =>
        obtain ⟨k, hk, rfl, hown, hbel⟩ := hrel
        by_cases hkt : k < 64
        · obtain ⟨g2, Q2, m2, k2, rfl, hg2, hAg, c0, c1, hl2, hbt, hmk, hkk⟩ := (H.out.2.1.below hbel).at_ HR.out.2.2.1
          rw [HR.out.2.2.2.2] at c0
          have hm64 : m2 = 64 := by rw [← hl2]; exact HR.out.2.2.2.1
          subst hm64
          obtain ⟨g3, o3, rfl, _, _, hc3⟩ := hbt.cells.2 (by omega)
          have c3 := hc3 k (.int .u8 (nb (p.2.getD k 0))) (by rw [Vb_get, List.getD_eq_getElem?_getD, List.getElem?_eq_getElem (by omega)]; rfl)
          obtain ⟨e, he⟩ : ∃ e : Nat, 64 * q + k = e := ⟨_, rfl⟩
          have hei : (64 : Int) * (q : Int) + (k : Int) = (e : Int) := by omega
          have heN : e < N := by have := HN.out; omega
          obtain ⟨⟨u, e1⟩, f1⟩ := own_at hown heN
          have HK := Lib.hid (And.intro hown (And.intro hbel he))
          have hmul : IntKind.i64.wrap ((64 : Int) * (q : Int)) = 64 * q := IntWalk.i64_in _ (by omega)
          clear hown hbel hbt hc3 he hl2
          go_wp2_with fail
          go_region
          go_wp2_with fail
          go_roundw
          case rel =>
            refine ⟨k + 1, by omega, by go_num, ?_, HK.out.2.1.drew.setCell (p := ⟨go, e, none⟩) hgo _⟩
            rw [show setN (layB xs (ws.take i)) (64 * q) p.2 (k + 1) = (setN (layB xs (ws.take i)) (64 * q) p.2 k).set (64 * q + k) (p.2.getD k 0) from rfl, HK.out.2.2]
            have h := own_set (HK.out.1.drew) heN (.int .u8 (nb (p.2.getD k 0)))
            have e2 : (Vb (setN (layB xs (ws.take i)) (64 * q) p.2 k)).set e (.int .u8 (nb (p.2.getD k 0))) = Vb ((setN (layB xs (ws.take i)) (64 * q) p.2 k).set e (p.2.getD k 0)) := by
              unfold Vb
              rw [List.map_set]
            rw [e2] at h
            exact h
          case measure => simp [intOf]; omega
        · obtain rfl : k = 64 := by omega
          have HK := Lib.hid (And.intro hown hbel)
          clear hown hbel
          go_wp2_with fail
          go_roundw
          case rel =>
            refine ⟨i + 1, by omega, by go_num, ?_, HK.out.2⟩
            rw [take_snoc_ HR.out.2.2.1, layB_snoc, show p.1.toNat = q by have := HR.out.2.2.2.2; omega]
            exact HK.out.1
          case measure => simp [intOf]; omega
    · obtain rfl : i = m := by omega
      rw [List.take_of_length_le (by have := H.out.2.2.2.1; omega)] at hown
      have HE := Lib.hid (And.intro hown hbel)
      clear hown hbel
      go_wp2_with fail
      go_ret
      exact ⟨.slice (some ⟨go, 0, none⟩) N cv, rfl, HE.out.1, HE.out.2⟩
end Go.Proofs.YtlfgbmfojghhcaaGreatDoor
end

/-
  The document's turned: a word's bits, to the right. Condition: 1 to 31 bits.
-/

section
set_option maxRecDepth 100000
set_option linter.unusedSimpArgs false
set_option linter.unusedVariables false
namespace Go.Proofs.YtlfgbmfojghhcaaGreatDoor
open Go.RowKit

theorem rr_nat (x : B32) (n : Nat) (hn : n ≤ 32) : (rr x n).toNat = x.toNat / 2 ^ n + x.toNat % 2 ^ n * 2 ^ (32 - n) := by
  have hx := x.isLt
  have h32 : (2 : Nat) ^ 32 = 2 ^ n * 2 ^ (32 - n) := by rw [← Nat.pow_add]; congr 1; omega
  rw [rr_eq, BitVec.toNat_or, BitVec.toNat_shiftLeft, BitVec.toNat_ushiftRight, Nat.shiftLeft_eq, Nat.shiftRight_eq_div_pow]
  have e : x.toNat * 2 ^ (32 - n) % 2 ^ 32 = 2 ^ (32 - n) * (x.toNat % 2 ^ n) := by
    rw [h32, Nat.mul_mod_mul_right, Nat.mul_comm]
  have hl : x.toNat / 2 ^ n < 2 ^ (32 - n) := by
    rw [Nat.div_lt_iff_lt_mul (Nat.two_pow_pos n), Nat.mul_comm, ← h32]
    exact hx
  rw [e, ← Nat.two_pow_add_eq_or_of_lt hl, Nat.mul_comm (2 ^ (32 - n)), Nat.add_comm]
theorem rr_int (x : B32) (n : Nat) (hn : n ≤ 32) : nw x / 2 ^ n + nw x % 2 ^ n * 2 ^ (32 - n) = nw (rr x n) := by
  have h := rr_nat x n hn
  unfold nw
  rw [h]
  norm_cast

theorem turned_7 (w : World) (x : B32) : Calls Tryz.prog 101 #[.int .i64 (nw x), .int .i64 7] w fun e w' => e = .returned (.int .i64 (nw (rr x 7))) ∧ ∃ k, w' = w.drewN k := by
  have hx := nw_bound x
  have hr : nw x / 128 + nw x % 128 * 33554432 = nw (rr x 7) := rr_int x 7 (by omega)
  go_enter Tryz.func101, Tryz.ntmps101
  go_wp2_with fail
  go_quiet (fail)
  go_wp2_with fail
  go_ret
  exact ⟨rfl, _, rfl⟩
theorem turned_18 (w : World) (x : B32) : Calls Tryz.prog 101 #[.int .i64 (nw x), .int .i64 18] w fun e w' => e = .returned (.int .i64 (nw (rr x 18))) ∧ ∃ k, w' = w.drewN k := by
  have hx := nw_bound x
  have hr : nw x / 262144 + nw x % 262144 * 16384 = nw (rr x 18) := rr_int x 18 (by omega)
  go_enter Tryz.func101, Tryz.ntmps101
  go_wp2_with fail
  go_quiet (fail)
  go_wp2_with fail
  go_ret
  exact ⟨rfl, _, rfl⟩
theorem turned_17 (w : World) (x : B32) : Calls Tryz.prog 101 #[.int .i64 (nw x), .int .i64 17] w fun e w' => e = .returned (.int .i64 (nw (rr x 17))) ∧ ∃ k, w' = w.drewN k := by
  have hx := nw_bound x
  have hr : nw x / 131072 + nw x % 131072 * 32768 = nw (rr x 17) := rr_int x 17 (by omega)
  go_enter Tryz.func101, Tryz.ntmps101
  go_wp2_with fail
  go_quiet (fail)
  go_wp2_with fail
  go_ret
  exact ⟨rfl, _, rfl⟩
theorem turned_19 (w : World) (x : B32) : Calls Tryz.prog 101 #[.int .i64 (nw x), .int .i64 19] w fun e w' => e = .returned (.int .i64 (nw (rr x 19))) ∧ ∃ k, w' = w.drewN k := by
  have hx := nw_bound x
  have hr : nw x / 524288 + nw x % 524288 * 8192 = nw (rr x 19) := rr_int x 19 (by omega)
  go_enter Tryz.func101, Tryz.ntmps101
  go_wp2_with fail
  go_quiet (fail)
  go_wp2_with fail
  go_ret
  exact ⟨rfl, _, rfl⟩
theorem turned_6 (w : World) (x : B32) : Calls Tryz.prog 101 #[.int .i64 (nw x), .int .i64 6] w fun e w' => e = .returned (.int .i64 (nw (rr x 6))) ∧ ∃ k, w' = w.drewN k := by
  have hx := nw_bound x
  have hr : nw x / 64 + nw x % 64 * 67108864 = nw (rr x 6) := rr_int x 6 (by omega)
  go_enter Tryz.func101, Tryz.ntmps101
  go_wp2_with fail
  go_quiet (fail)
  go_wp2_with fail
  go_ret
  exact ⟨rfl, _, rfl⟩
theorem turned_11 (w : World) (x : B32) : Calls Tryz.prog 101 #[.int .i64 (nw x), .int .i64 11] w fun e w' => e = .returned (.int .i64 (nw (rr x 11))) ∧ ∃ k, w' = w.drewN k := by
  have hx := nw_bound x
  have hr : nw x / 2048 + nw x % 2048 * 2097152 = nw (rr x 11) := rr_int x 11 (by omega)
  go_enter Tryz.func101, Tryz.ntmps101
  go_wp2_with fail
  go_quiet (fail)
  go_wp2_with fail
  go_ret
  exact ⟨rfl, _, rfl⟩
theorem turned_25 (w : World) (x : B32) : Calls Tryz.prog 101 #[.int .i64 (nw x), .int .i64 25] w fun e w' => e = .returned (.int .i64 (nw (rr x 25))) ∧ ∃ k, w' = w.drewN k := by
  have hx := nw_bound x
  have hr : nw x / 33554432 + nw x % 33554432 * 128 = nw (rr x 25) := rr_int x 25 (by omega)
  go_enter Tryz.func101, Tryz.ntmps101
  go_wp2_with fail
  go_quiet (fail)
  go_wp2_with fail
  go_ret
  exact ⟨rfl, _, rfl⟩
theorem turned_2 (w : World) (x : B32) : Calls Tryz.prog 101 #[.int .i64 (nw x), .int .i64 2] w fun e w' => e = .returned (.int .i64 (nw (rr x 2))) ∧ ∃ k, w' = w.drewN k := by
  have hx := nw_bound x
  have hr : nw x / 4 + nw x % 4 * 1073741824 = nw (rr x 2) := rr_int x 2 (by omega)
  go_enter Tryz.func101, Tryz.ntmps101
  go_wp2_with fail
  go_quiet (fail)
  go_wp2_with fail
  go_ret
  exact ⟨rfl, _, rfl⟩
theorem turned_13 (w : World) (x : B32) : Calls Tryz.prog 101 #[.int .i64 (nw x), .int .i64 13] w fun e w' => e = .returned (.int .i64 (nw (rr x 13))) ∧ ∃ k, w' = w.drewN k := by
  have hx := nw_bound x
  have hr : nw x / 8192 + nw x % 8192 * 524288 = nw (rr x 13) := rr_int x 13 (by omega)
  go_enter Tryz.func101, Tryz.ntmps101
  go_wp2_with fail
  go_quiet (fail)
  go_wp2_with fail
  go_ret
  exact ⟨rfl, _, rfl⟩
theorem turned_22 (w : World) (x : B32) : Calls Tryz.prog 101 #[.int .i64 (nw x), .int .i64 22] w fun e w' => e = .returned (.int .i64 (nw (rr x 22))) ∧ ∃ k, w' = w.drewN k := by
  have hx := nw_bound x
  have hr : nw x / 4194304 + nw x % 4194304 * 1024 = nw (rr x 22) := rr_int x 22 (by omega)
  go_enter Tryz.func101, Tryz.ntmps101
  go_wp2_with fail
  go_quiet (fail)
  go_wp2_with fail
  go_ret
  exact ⟨rfl, _, rfl⟩

end Go.Proofs.YtlfgbmfojghhcaaGreatDoor
end

/-
  The document's words, as the machine's numbers of 64 bits: plain definitions and theorems. No condition.
-/

section
set_option maxRecDepth 100000
set_option linter.unusedSimpArgs false
set_option linter.unusedVariables false
namespace Go.Proofs.YtlfgbmfojghhcaaGreatDoor
open Go.RowKit

/-- Words as cells of 64 bits. -/
def Wi (xs : List B32) : List Value := xs.map fun x => .int .i64 (nw x)
theorem Wi_length (xs : List B32) : (Wi xs).length = xs.length := by simp [Wi]
theorem Wi_get (xs : List B32) (i : Nat) : (Wi xs)[i]? = xs[i]?.map fun x => .int .i64 (nw x) := by simp [Wi]
theorem Wi_append (xs ys : List B32) : Wi (xs ++ ys) = Wi xs ++ Wi ys := by simp [Wi]
theorem Wi_oneCell (xs : List B32) : ∀ u ∈ Wi xs, u.oneCell' = true := by
  intro u hu
  simp only [Wi, List.mem_map] at hu
  obtain ⟨x, _, rfl⟩ := hu
  rfl
theorem Wi_getD {xs : List B32} {i : Nat} (h : i < xs.length) : (Wi xs)[i]? = some (.int .i64 (nw (xs.getD i 0))) := by
  rw [Wi_get, List.getD_eq_getElem?_getD, List.getElem?_eq_getElem h]
  rfl
theorem Wi_set (xs : List B32) (i : Nat) (x : B32) : (Wi xs).set i (.int .i64 (nw x)) = Wi (xs.set i x) := by
  unfold Wi
  rw [List.map_set]

theorem wrap_i64 {n : Int} (h : 0 ≤ n) (h2 : n < 9223372036854775808) : IntKind.i64.wrap n = n := by
  simp [IntKind.wrap, IntKind.signed, IntKind.bits]
  omega
theorem ofInt64_nw (x : B32) : BitVec.ofInt 64 (nw x) = x.setWidth 64 := by
  apply BitVec.eq_of_toNat_eq
  have := x.isLt
  unfold nw
  simp
theorem wrap64_nw (x : B32) (y : BitVec 64) (h : y = x.setWidth 64) : IntKind.i64.wrap (y.toNat : Int) = nw x := by
  have e : (y.toNat : Int) = nw x := by
    have := x.isLt
    rw [h]
    unfold nw
    rw [BitVec.toNat_setWidth]
    omega
  rw [e]
  exact wrap_i64 (nw_bound x).1 (by have := (nw_bound x).2; omega)
theorem xor_i64 (x y : B32) : bits .xor .i64 (nw x) (nw y) = nw (x ^^^ y) := by
  unfold bits
  simp only [IntKind.bits, ofInt64_nw]
  exact wrap64_nw _ _ (by rw [BitVec.setWidth_xor]; rfl)
theorem and_i64 (x y : B32) : bits .and .i64 (nw x) (nw y) = nw (x &&& y) := by
  unfold bits
  simp only [IntKind.bits, ofInt64_nw]
  exact wrap64_nw _ _ (by rw [BitVec.setWidth_and]; rfl)
theorem or_i64 (x y : B32) : bits .or .i64 (nw x) (nw y) = nw (x ||| y) := by
  unfold bits
  simp only [IntKind.bits, ofInt64_nw]
  exact wrap64_nw _ _ (by rw [BitVec.setWidth_or]; rfl)
theorem not_i64 (x : B32) : 4294967295 - nw x = nw (~~~x) := by
  have := x.isLt
  unfold nw
  rw [BitVec.toNat_not]
  omega
theorem and_zero (x y z : B32) : (x &&& y) &&& (~~~x &&& z) = 0#32 := by
  ext i hi
  simp
  cases x[i] <;> simp
theorem pick_sum (x y z : B32) : nw (x &&& y) + nw (~~~x &&& z) = nw ((x &&& y) ^^^ (~~~x &&& z)) := by
  have h := and_zero x y z
  have e1 : (x &&& y) + (~~~x &&& z) = (x &&& y) ||| (~~~x &&& z) := BitVec.add_eq_or_of_and_eq_zero _ _ h
  have e2 : (x &&& y) ^^^ (~~~x &&& z) = (x &&& y) ||| (~~~x &&& z) := by
    ext i hi
    simp
    cases x[i] <;> simp
  have hn : (x &&& y).toNat + (~~~x &&& z).toNat < 4294967296 := by
    have hx : (x &&& y).toNat ≤ x.toNat := by rw [BitVec.toNat_and]; exact Nat.and_le_left
    have hz : (~~~x &&& z).toNat ≤ (~~~x).toNat := by rw [BitVec.toNat_and]; exact Nat.and_le_left
    rw [BitVec.toNat_not] at hz
    have := x.isLt
    omega
  rw [e2, ← e1]
  unfold nw
  rw [BitVec.toNat_add]
  omega
theorem most_or (x y z : B32) : (x &&& y) ||| (x &&& z) ||| (y &&& z) = (x &&& y) ^^^ (x &&& z) ^^^ (y &&& z) := by
  ext i hi
  simp
  cases x[i] <;> cases y[i] <;> cases z[i] <;> rfl
theorem mod_nw (n : Int) : n % 4294967296 = nw (BitVec.ofInt 32 n) := by
  rw [← wrap_u32]
  simp [IntKind.wrap, IntKind.signed, IntKind.bits]

/-- The words that lie there behind k steps of the first loop. -/
def schedN (bs : List B8) (k : Nat) : List B32 := if k < 16 then own16 bs k else more (own16 bs 16) (k - 16)
theorem schedN_length (bs : List B8) (k : Nat) : (schedN bs k).length = k := by
  unfold schedN
  split
  · exact own16_length bs k
  · rw [more_length, own16_length]; omega
theorem schedN_own (bs : List B8) {k : Nat} (hk : k < 16) : schedN bs (k + 1) = schedN bs k ++ [word4 bs k] := by
  unfold schedN
  rw [if_pos hk]
  split
  · rfl
  · obtain rfl : k = 15 := by omega
    rfl
theorem schedN_more (bs : List B8) {k : Nat} (hk : 16 ≤ k) : schedN bs (k + 1) = schedN bs k ++ [(schedN bs k).getD (k - 16) 0 + far ((schedN bs k).getD (k - 15) 0) + (schedN bs k).getD (k - 7) 0 + near ((schedN bs k).getD (k - 2) 0)] := by
  have hl := schedN_length bs k
  unfold schedN at hl ⊢
  rw [if_neg (by omega), if_neg (by omega)] at *
  have e : k + 1 - 16 = (k - 16) + 1 := by omega
  rw [e, more, nextW, hl]
theorem schedN_all (bs : List B8) : schedN bs 64 = sched bs := rfl
def parti (l : List B32) : List Value := Wi l ++ List.replicate (64 - l.length) (.int .i64 0)
theorem parti_length {l : List B32} (h : l.length ≤ 64) : (parti l).length = 64 := by simp [parti, Wi_length]; omega
theorem parti_set {l : List B32} (h : l.length < 64) (x : B32) : (parti l).set l.length (.int .i64 (nw x)) = parti (l ++ [x]) := by
  unfold parti
  rw [List.set_append_right _ _ (by rw [Wi_length]; omega), Wi_length, Nat.sub_self, Wi_append]
  obtain ⟨m, hm⟩ : ∃ m, 64 - l.length = m + 1 := ⟨64 - l.length - 1, by omega⟩
  rw [hm, List.replicate_succ, List.set_cons_zero, List.append_assoc]
  have : 64 - (l ++ [x]).length = m := by simp; omega
  rw [this]
  rfl
theorem parti_get {l : List B32} {i : Nat} (h : i < l.length) : (parti l)[i]? = some (.int .i64 (nw (l.getD i 0))) := by
  unfold parti
  rw [List.getElem?_append_left (by rw [Wi_length]; omega), Wi_getD h]
theorem parti_next {l : List B32} (h : l.length < 64) : (parti l)[l.length]? = some (.int .i64 0) := by
  unfold parti
  rw [List.getElem?_append_right (by rw [Wi_length]; omega), Wi_length, Nat.sub_self, List.getElem?_replicate]
  rw [if_pos (by omega)]
theorem parti_whole (l : List B32) (h : l.length = 64) : parti l = Wi l := by simp [parti, h]

theorem word_sum (b0 b1 b2 b3 : B8) : nb b0 * 16777216 + nb b1 * 65536 + nb b2 * 256 + nb b3 = nw (up b0 24 ||| up b1 16 ||| up b2 8 ||| b3.setWidth 32) := by
  have h0 := b0.isLt
  have h1 := b1.isLt
  have h2 := b2.isLt
  have h3 := b3.isLt
  have e : (up b0 24 ||| up b1 16 ||| up b2 8 ||| b3.setWidth 32).toNat = b0.toNat * 16777216 + b1.toNat * 65536 + b2.toNat * 256 + b3.toNat := by
    unfold up
    simp only [BitVec.toNat_or, BitVec.toNat_shiftLeft, BitVec.toNat_setWidth, Nat.shiftLeft_eq]
    rw [Nat.mod_eq_of_lt (a := b0.toNat) (by omega), Nat.mod_eq_of_lt (a := b1.toNat) (by omega), Nat.mod_eq_of_lt (a := b2.toNat) (by omega), Nat.mod_eq_of_lt (a := b3.toNat) (by omega)]
    rw [Nat.mod_eq_of_lt (a := b0.toNat * 2 ^ 24) (by omega), Nat.mod_eq_of_lt (a := b1.toNat * 2 ^ 16) (by omega), Nat.mod_eq_of_lt (a := b2.toNat * 2 ^ 8) (by omega)]
    rw [Nat.mul_comm b0.toNat, ← Nat.two_pow_add_eq_or_of_lt (i := 24) (b := b1.toNat * 2 ^ 16) (by omega)]
    have f1 : 2 ^ 24 * b0.toNat + b1.toNat * 2 ^ 16 = 2 ^ 16 * (256 * b0.toNat + b1.toNat) := by omega
    rw [f1, ← Nat.two_pow_add_eq_or_of_lt (i := 16) (b := b2.toNat * 2 ^ 8) (by omega)]
    have f2 : 2 ^ 16 * (256 * b0.toNat + b1.toNat) + b2.toNat * 2 ^ 8 = 2 ^ 8 * (256 * (256 * b0.toNat + b1.toNat) + b2.toNat) := by omega
    rw [f2, ← Nat.two_pow_add_eq_or_of_lt (i := 8) (b := b3.toNat) (by omega)]
    first | done | omega
  unfold nw nb
  rw [e]
  omega

end Go.Proofs.YtlfgbmfojghhcaaGreatDoor
end

/-
  The document's table, plainly: digits, products, roots, primes; and that it is the program's own constants, reckoned by the kernel. No condition.
-/

section
set_option maxRecDepth 100000
set_option linter.unusedSimpArgs false
set_option linter.unusedVariables false
namespace Go.Proofs.YtlfgbmfojghhcaaGreatDoor
open Go.RowKit

def digs (y : Nat) : List Nat := [y % 65536, y / 65536 % 65536, y / 65536 / 65536 % 65536]
def mulIn (a b out : List Nat) (i : Nat) : Nat → List Nat × Nat
  | 0 => (out, 0)
  | k + 1 =>
    let r := mulIn a b out i k
    let n := r.1.getD (i + k) 0 + a.getD i 0 * b.getD k 0 + r.2
    (r.1.set (i + k) (n % 65536), n / 65536)
def mulOut (a b : List Nat) : Nat → List Nat
  | 0 => List.replicate (a.length + b.length) 0
  | i + 1 =>
    let r := mulIn a b (mulOut a b i) i b.length
    r.1.set (i + b.length) r.2
def prodN (a b : List Nat) : List Nat := mulOut a b a.length
def powD (y : Nat) : Nat → List Nat
  | 0 => digs y
  | k + 1 => prodN (powD y k) (digs y)
def wholeR (z : List Nat) (top : Nat) : Nat → Nat × Nat
  | 0 => (0, 0)
  | j + 1 =>
    let r := wholeR z top j
    let d := z.getD (z.length - 1 - j) 0
    if top ≤ z.length - 1 - j then (65536 * r.1 + d, r.2) else (r.1, r.2 + d)
def goodR (prime power y : Nat) : Bool :=
  let r := wholeR (powD y (power - 1)) (2 * power) (3 * power)
  decide (r.1 < prime) || (r.1 == prime && r.2 == 0)
def rootX (prime power : Nat) : Nat → Nat
  | 0 => 0
  | j + 1 =>
    let x := rootX prime power j
    let y := x + 2 ^ (36 - j)
    if goodR prime power y then y else x
def rootN (prime power : Nat) : Nat := rootX prime power 37 % 4294967296

/-- All digits are small. -/
def S16 (l : List Nat) : Prop := ∀ i, l.getD i 0 < 65536
theorem S16.set {l : List Nat} (h : S16 l) (j : Nat) {x : Nat} (hx : x < 65536) : S16 (l.set j x) := by
  intro i
  have := h i
  rw [List.getD_eq_getElem?_getD, List.getElem?_set] at *
  split
  · split
    · exact hx
    · simp
  · exact this
theorem S16.zeros (n : Nat) : S16 (List.replicate n 0) := by
  intro i
  rw [List.getD_eq_getElem?_getD, List.getElem?_replicate]
  split <;> simp
theorem S16.digs (y : Nat) : S16 (digs y) := by
  intro i
  match i with
  | 0 | 1 | 2 => simp [Go.Proofs.YtlfgbmfojghhcaaGreatDoor.digs]; omega
  | i + 3 => simp [Go.Proofs.YtlfgbmfojghhcaaGreatDoor.digs]
theorem mulIn_length (a b out : List Nat) (i : Nat) : ∀ k, (mulIn a b out i k).1.length = out.length
  | 0 => rfl
  | k + 1 => by simp [mulIn, mulIn_length a b out i k]
theorem mul_small {o a b c : Nat} (ho : o < 65536) (ha : a < 65536) (hb : b < 65536) (hc : c < 65536) : a * b ≤ 4294836225 ∧ o + a * b + c ≤ 4294967295 := by
  have h : a * b ≤ 65535 * 65535 := Nat.mul_le_mul (by omega) (by omega)
  omega
theorem mulIn_small {a b out : List Nat} (ha : S16 a) (hb : S16 b) (ho : S16 out) (i : Nat) : ∀ k, S16 (mulIn a b out i k).1 ∧ (mulIn a b out i k).2 < 65536
  | 0 => ⟨ho, by simp [mulIn]⟩
  | k + 1 => by
    obtain ⟨h1, h2⟩ := mulIn_small ha hb ho i k
    have := mul_small (h1 (i + k)) (ha i) (hb k) h2
    refine ⟨h1.set _ (by omega), ?_⟩
    simp only [mulIn]
    omega
theorem mulOut_length (a b : List Nat) : ∀ i, (mulOut a b i).length = a.length + b.length
  | 0 => by simp [mulOut]
  | i + 1 => by simp [mulOut, mulIn_length, mulOut_length a b i]
theorem mulOut_small {a b : List Nat} (ha : S16 a) (hb : S16 b) : ∀ i, S16 (mulOut a b i)
  | 0 => S16.zeros _
  | i + 1 => by
    have := mulIn_small ha hb (mulOut_small ha hb i) i b.length
    exact this.1.set _ this.2
theorem prodN_length (a b : List Nat) : (prodN a b).length = a.length + b.length := mulOut_length a b _
theorem prodN_small {a b : List Nat} (ha : S16 a) (hb : S16 b) : S16 (prodN a b) := mulOut_small ha hb _
theorem powD_length (y : Nat) : ∀ k, (powD y k).length = 3 + 3 * k
  | 0 => rfl
  | k + 1 => by
    rw [powD, prodN_length, powD_length y k]
    show 3 + 3 * k + 3 = _
    omega
theorem powD_small (y : Nat) : ∀ k, S16 (powD y k)
  | 0 => S16.digs y
  | k + 1 => prodN_small (powD_small y k) (S16.digs y)
theorem wholeR_small {z : List Nat} (hz : S16 z) (top : Nat) : ∀ j, j ≤ z.length → (wholeR z top j).1 < 65536 ^ (min j (z.length - top)) ∧ (wholeR z top j).2 ≤ 65536 * j
  | 0, _ => by simp [wholeR]
  | j + 1, hj => by
    obtain ⟨h1, h2⟩ := wholeR_small hz top j (by omega)
    have hd := hz (z.length - 1 - j)
    simp only [wholeR]
    split
    · refine ⟨?_, by show _ ≤ _; omega⟩
      have e : min (j + 1) (z.length - top) = j + 1 := by omega
      have e2 : min j (z.length - top) = j := by omega
      rw [e2] at h1
      rw [e, Nat.pow_succ]
      show 65536 * (wholeR z top j).1 + _ < _
      omega
    · refine ⟨?_, by show _ + _ ≤ _; omega⟩
      exact Nat.lt_of_lt_of_le h1 (Nat.pow_le_pow_right (by omega) (by omega))
theorem rootX_small (prime power : Nat) : ∀ j, j ≤ 37 → rootX prime power j + 2 ^ (37 - j) ≤ 137438953472
  | 0, _ => by simp [rootX]
  | j + 1, h => by
    have := rootX_small prime power j (by omega)
    have e : 2 ^ (37 - j) = 2 ^ (36 - j) + 2 ^ (36 - j) := by
      rw [show 37 - j = (36 - j) + 1 by omega, Nat.pow_succ]
      omega
    have hp := Nat.two_pow_pos (36 - j)
    simp only [rootX]
    rw [show 37 - (j + 1) = 36 - j by omega]
    split <;> omega

def divsN (p : Nat) : Nat → Nat
  | 0 => 0
  | j + 1 => divsN p j + if p % (j + 1) = 0 then 1 else 0
theorem divsN_le (p : Nat) : ∀ j, divsN p j ≤ j
  | 0 => by simp [divsN]
  | j + 1 => by
    have := divsN_le p j
    simp only [divsN]
    split <;> omega
def isP (p : Nat) : Bool := divsN p p == 2
/-- The primes of k numbers from 2 on. -/
def primesN : Nat → List Nat
  | 0 => []
  | k + 1 => if isP (k + 2) then primesN k ++ [k + 2] else primesN k
def padN (n : Nat) (l : List Nat) : List Nat := l ++ List.replicate (n - l.length) 0
def tabN (ps : List Nat) : List Nat := padN 8 ((ps.take 8).map fun p => rootN p 2) ++ padN 64 (ps.map fun p => rootN p 3)
def Vn (l : List Nat) : List Value := l.map fun (n : Nat) => .int .i64 n
theorem Vn_length (l : List Nat) : (Vn l).length = l.length := by simp [Vn]

set_option maxRecDepth 1000000 in
theorem primes_now : primesN 310 = [2, 3, 5, 7, 11, 13, 17, 19, 23, 29, 31, 37, 41, 43, 47, 53, 59, 61, 67, 71, 73, 79, 83, 89, 97, 101, 103, 107, 109, 113, 127, 131, 137, 139, 149, 151, 157, 163, 167, 173, 179, 181, 191, 193, 197, 199, 211, 223, 227, 229, 233, 239, 241, 251, 257, 263, 269, 271, 277, 281, 283, 293, 307, 311] := by decide +kernel
set_option maxRecDepth 1000000 in
theorem primes_less : (primesN 309).length = 63 := by decide +kernel
theorem primes_mono : ∀ k d, (primesN k).length ≤ (primesN (k + d)).length
  | _, 0 => Nat.le_refl _
  | k, d + 1 => by
    have := primes_mono k d
    rw [← Nat.add_assoc]
    simp only [primesN]
    split
    · rw [List.length_append]; omega
    · exact this
theorem primes_63 {k : Nat} (h : k ≤ 309) : (primesN k).length < 64 := by
  have := primes_mono k (309 - k)
  rw [show k + (309 - k) = 309 by omega, primes_less] at this
  omega

end Go.Proofs.YtlfgbmfojghhcaaGreatDoor
end
