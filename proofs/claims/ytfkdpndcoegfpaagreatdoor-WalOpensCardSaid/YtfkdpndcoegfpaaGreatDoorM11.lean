/-
  is: whether these are a transaction's notes. Conditions: the writes and the notes are known, as many of the one as of the other; the constants lie in their variable.
-/
import Derived.Test.YtfkdpndcoegfpaaGreatDoorM9
import Derived.Test.YtfkdpndcoegfpaaGreatDoorM8
import Derived.Test.YtfkdpndcoegfpaaGreatDoorM10
import Derived.Test.YtfkdpndcoegfpaaGreatDoorM3
import Derived.Test.YtfkdpndcoegfpaaGreatDoorM4
section
set_option maxRecDepth 100000
set_option linter.unusedSimpArgs false
set_option linter.unusedVariables false
namespace Go.Proofs.YtfkdpndcoegfpaaGreatDoor
open Go.RowKit

def notesOf (num m : Nat) (d : List B8) (ws : List (Int × List B8)) : List (List B8) := ws.mapIdx fun i p => noteB num i m p.1.toNat d
theorem notesOf_get {num m i : Nat} {d : List B8} {ws : List (Int × List B8)} {p : Int × List B8} (h : ws[i]? = some p) : (notesOf num m d ws)[i]? = some (noteB num i m p.1.toNat d) := by
  unfold notesOf
  rw [List.getElem?_mapIdx, h]
  rfl
theorem notesOf_length (num m : Nat) (d : List B8) (ws : List (Int × List B8)) : (notesOf num m d ws).length = ws.length := by simp [notesOf]
/-- Whether these are the notes of a transaction's writes. -/
def isB (ks : List B32) (num : Nat) (ws : List (Int × List B8)) (xs : List (List B8)) : Prop := (secs ws).Nodup ∧ xs = notesOf num ws.length (digOf ks num ws) ws
def isPost (p : Prop) (w : World) (e : Ending) (w' : World) : Prop := ((e = .returned (.bool true) ∧ p) ∨ (e = .returned (.bool false) ∧ ¬ p)) ∧ Below w.heap.size w w'
theorem take_eq_snoc {α : Type} {xs ys : List α} {i : Nat} {x : α} (h : xs.take i = ys.take i) (hx : xs[i]? = some x) (hy : ys[i]? = some x) : xs.take (i + 1) = ys.take (i + 1) := by
  rw [take_snoc_ hx, take_snoc_ hy, h]

theorem Parts.below {A : Nat → Prop} {w w' : World} {v : Value} {xs : List (List B8)} (h : Parts A w v xs) (hb : Below w.heap.size w w') : Parts A w' v xs := by
  obtain ⟨g, cap, vs, e, hA, hk, h0, h1, h2, hc⟩ := h
  refine ⟨g, cap, vs, e, hA, hk.below hb hk.lt, h0, h1, h2, fun i x hx => ?_⟩
  obtain ⟨v, hv, hbt⟩ := hc i x hx
  exact ⟨v, hv, hbt.below hb⟩
theorem Parts.at_ {A : Nat → Prop} {w : World} {P : Option Addr} {n c : Nat} {xs : List (List B8)} (h : Parts A w (.slice P n c) xs) {i : Nat} {x : List B8} (hx : xs[i]? = some x) :
    ∃ g Q m k, P = some ⟨g, 0, none⟩ ∧ g < w.heap.size ∧ w.cell? ⟨g, i, none⟩ = some (.slice Q m k) ∧ Bts A w (.slice Q m k) x ∧ m ≤ k ∧ k ≤ 9223372036854775807 := by
  obtain ⟨g, cap, vs, e, hA, hk, h0, h1, h2, hc⟩ := h
  cases e
  obtain ⟨v, hv, hbt⟩ := hc i x hx
  obtain ⟨Q, k, rfl, h3, h4⟩ := hbt.form
  exact ⟨g, Q, x.length, k, rfl, hk.lt, by rw [hk.cell, hv], hbt, h3, h4⟩

set_option maxHeartbeats 2000000 in
theorem is_any (ks : List B32) (w : World) (A A' : Nat → Prop) (num m : Nat) (P Pn : Option Addr) (c cn : Nat) (ws : List (Int × List B8)) (xs : List (List B8)) (hK : Roots ks w) (hw : Wrs A w (.slice P m c) ws) (hx : Parts A' w (.slice Pn m cn) xs) (hnum : num ≤ 9223372036854775807) (hm : m ≤ 15)
    (hok : ∀ p ∈ ws, 0 ≤ p.1 ∧ p.1 ≤ 4294967296 ∧ p.2.length = 64) :
    Calls Tryz.prog 162 #[.agg #[.int .i64 num, .slice P m c], .slice Pn m cn] w (isPost (isB ks num ws xs) w) := by
  have hpos := hK.pos
  have hlen := hw.len
  have hz := zero32
  have hxl : xs.length = m := by obtain ⟨_, _, _, e, _⟩ := hx; cases e; rfl
  have hb1 := new_below w (.cells #[.int .i64 num, .slice P m c] 138)
  have hk1 := Blk.new w 138 [.int .i64 num, .slice P m c]
  have ⟨t0, t1⟩ := blk_pair hk1
  have H0 := Lib.hid (And.intro hb1 (And.intro hk1 (And.intro hK (And.intro hw (And.intro hx (And.intro hok (And.intro hlen hxl)))))))
  clear hb1 hk1 hK hw hx hok hlen hxl
  go_enter Tryz.func162, Tryz.ntmps162
  go_wp2_with fail
  refine (check_any _ A P m c ws (H0.out.2.2.2.1.below H0.out.1) (fun p hp => H0.out.2.2.2.2.2.1 p hp)).mono ?_
  rintro e w1 ⟨h, hb⟩
  have ⟨t0, t1⟩ := blk_pair (H0.out.2.1.below hb H0.out.2.1.lt)
  have H1 := Lib.hid (And.intro (below_of H0.out.1 hb) (H0.out.2.1.below hb H0.out.2.1.lt))
  clear hb
  rcases h with ⟨rfl, hnd⟩ | ⟨rfl, hnd⟩
  · have HND := Lib.hid hnd
    clear hnd
    go_wp2_with fail
    refine (digest_any ks _ A num m P c ws (H0.out.2.2.1.below H1.out.1 hpos) (H0.out.2.2.2.1.below H1.out.1) hnum hm H0.out.2.2.2.2.2.1).mono ?_
    rintro e w2 ⟨rfl, hb⟩
    have hd := digOf_length ks num ws
    have H2 := Lib.hid (And.intro (below_of H1.out.1 hb) (H1.out.2.below hb H1.out.2.lt))
    clear hb t0 t1
    have hisd : isB ks num ws xs ↔ xs = notesOf num m (digOf ks num ws) ws := by unfold isB; rw [H0.out.2.2.2.2.2.2.1]; exact ⟨fun h => h.2, fun h => ⟨HND.out, h⟩⟩
    generalize digOf ks num ws = d at hd hisd ⊢
    have HD := Lib.hid hd
    have HIS := Lib.hid hisd
    clear hd hisd
    go_wp2_with (refine wpList_store_blk rfl 184 (.tmp 5) (.tmp 13) rfl w2.heap.size 0 (Vb d) rfl rfl (Blk.new w2 184 (List.replicate 32 (.int .u8 0))) (by simp [Vb_length, HD.out]) (info31.trans (by simp [Vb_length, HD.out])) (Vb_oneCell _) ?_; intro w3 hA hO)
    rw [over_whole (by simp [Vb_length, HD.out])] at hA
    have hb2 := (new_below w2 (.cells (List.replicate 32 (Value.int .u8 0)).toArray 184)).trans (hO.below (B := w2.heap.size) (by simp) (by simp))
    have H3 := Lib.hid (And.intro (below_of H2.out.1 hb2) (And.intro (H2.out.2.below hb2 H2.out.2.lt) hA))
    clear hA hO hb2
    generalize w2.heap.size = b5 at *
    go_wp2_with fail
    go_loopw [16] (fun iv wx => ∃ i : Nat, i ≤ m ∧ iv = .int .i64 i ∧ xs.take i = (notesOf num m d ws).take i ∧ Blk wx w.heap.size 138 [.int .i64 num, .slice P m c] ∧ Blk wx b5 184 (Vb d) ∧ Below w.heap.size w wx) (fun iv _ => m - (intOf iv).toNat)
    case atStart => exact ⟨0, Nat.zero_le _, rfl, rfl, H3.out.2.1, H3.out.2.2, H3.out.1⟩
    case round =>
      clear H3
      obtain ⟨i, hi, rfl, h1, h2, h3, h4⟩ := hrel
      by_cases hlt : i < m
      · obtain ⟨p, hp⟩ : ∃ p, ws[i]? = some p := ⟨_, List.getElem?_eq_getElem (by have := H0.out.2.2.2.2.2.2.1; omega)⟩
        obtain ⟨y, hy⟩ : ∃ y, xs[i]? = some y := ⟨_, List.getElem?_eq_getElem (by have := H0.out.2.2.2.2.2.2.2; omega)⟩
        obtain ⟨gn, Qn, mn, kn, rfl, hgn, cn0, hbn, hmn, hkn⟩ := (H0.out.2.2.2.2.1.below h4).at_ hy
        obtain ⟨q, hq⟩ : ∃ q : Nat, p.1 = q := ⟨p.1.toNat, by have := (H0.out.2.2.2.2.2.1 p (List.mem_of_getElem? hp)).1; omega⟩
        have hqb : q ≤ 4294967296 := by have := (H0.out.2.2.2.2.2.1 p (List.mem_of_getElem? hp)).2.1; omega
        have hno : (notesOf num m d ws)[i]? = some (noteB num i m q d) := by rw [notesOf_get hp, show p.1.toNat = q by omega]
        have ⟨t0, t1⟩ := blk_pair h2
        have hwr := H0.out.2.2.2.1.below h4
        have HR := Lib.hid (And.intro h1 (And.intro h2 (And.intro h3 (And.intro h4 (And.intro hp (And.intro hy (And.intro hbn (And.intro hq (And.intro hno hwr)))))))))
        clear h1 h2 h3 h4 hp hy hbn hq hno hwr
        go_wp2_with (refine wpList_load_mid rfl 184 (.tmp 5) rfl b5 0 rfl _ _ HR.out.2.2.1.range Tryz.underlying184 rfl (info31.trans (by simp [Vb_length, HD.out])) ?_)
        refine (note_any _ A num m P c ws i p q d HR.out.2.2.2.2.2.2.2.2.2 HR.out.2.2.2.2.1 HR.out.2.2.2.2.2.2.2.1 hqb hnum (by omega) HD.out).mono ?_
        rintro e w5 ⟨g5, rfl, hg5, hB, hW⟩
        have H5 := Lib.hid (And.intro hB hW)
        clear hB hW t0 t1
        go_wp2_with fail
        cases hyn : decide (y = noteB num i m q d) with
        | true =>
          have HY := Lib.hid hyn
          clear hyn
          refine (equal_bts (HR.out.2.2.2.2.2.2.1.below H5.out.2) (Bts.whole H5.out.1 (.inl rfl) (A := fun _ => True) trivial (noteB_length _ _ _ _ HD.out) (by omega)) HY.out).mono ?_
          rintro e w6 ⟨rfl, rfl⟩
          go_wp2_with fail
          go_roundw
          case rel =>
            refine ⟨i + 1, by omega, by go_num, ?_, HR.out.2.1.below H5.out.2 HR.out.2.1.lt, HR.out.2.2.1.below H5.out.2 HR.out.2.2.1.lt, below_of HR.out.2.2.2.1 H5.out.2⟩
            have hye := of_decide_eq_true HY.out
            exact take_eq_snoc HR.out.1 HR.out.2.2.2.2.2.1 (by rw [HR.out.2.2.2.2.2.2.2.2.1, hye])
          case measure => simp [intOf]; omega
        | false =>
          have HY := Lib.hid hyn
          clear hyn
          refine (equal_bts (HR.out.2.2.2.2.2.2.1.below H5.out.2) (Bts.whole H5.out.1 (.inl rfl) (A := fun _ => True) trivial (noteB_length _ _ _ _ HD.out) (by omega)) HY.out).mono ?_
          rintro e w6 ⟨rfl, rfl⟩
          go_wp2_with fail
          go_ret
          refine ⟨.inr ⟨rfl, fun h => ?_⟩, below_of HR.out.2.2.2.1 H5.out.2⟩
          have h2 := HIS.out.1 h
          have h3 := HR.out.2.2.2.2.2.1
          rw [h2, HR.out.2.2.2.2.2.2.2.2.1] at h3
          simp only [Option.some.injEq] at h3
          exact of_decide_eq_false HY.out h3.symm
      · obtain rfl : i = m := by omega
        rw [List.take_of_length_le (by have := H0.out.2.2.2.2.2.2.2; omega), List.take_of_length_le (by rw [notesOf_length]; have := H0.out.2.2.2.2.2.2.1; omega)] at h1
        have HF := Lib.hid (And.intro h1 h4)
        clear h1 h2 h3 h4
        go_wp2_with fail
        go_ret
        exact ⟨.inl ⟨rfl, HIS.out.2 HF.out.1⟩, HF.out.2⟩
  · have HND := Lib.hid hnd
    clear hnd
    go_wp2_with fail
    go_ret
    exact ⟨.inr ⟨rfl, fun h => HND.out h.1⟩, H1.out.1⟩
end Go.Proofs.YtfkdpndcoegfpaaGreatDoor
end

/-
  gathered: the writes that the journal has of a transaction, up to the first place that has none. Conditions: the disk has power that never goes; the journal has room for so many.
-/

section
set_option maxRecDepth 100000
set_option linter.unusedSimpArgs false
set_option linter.unusedVariables false
namespace Go.Proofs.YtfkdpndcoegfpaaGreatDoor
open Go.RowKit

/-- Place i of the journal is a note of transaction num, of so many writes. -/
def okAt (S : Nat → List B8) (data num cnt i : Nat) : Prop := fromB (sub (S (1 + 2 * i)) 0 8) = num ∧ fromB (sub (S (1 + 2 * i)) 12 4) = cnt ∧ fromB (sub (S (1 + 2 * i)) 16 4) < data
def wAt (S : Nat → List B8) (i : Nat) : Int × List B8 := ((fromB (sub (S (1 + 2 * i)) 16 4) : Nat), S (1 + 2 * i + 1))
def wrsTo (S : Nat → List B8) (k : Nat) : List (Int × List B8) := (List.range k).map (wAt S)
def notesTo (S : Nat → List B8) (k : Nat) : List (List B8) := (List.range k).map fun i => S (1 + 2 * i)
theorem wrsTo_succ (S : Nat → List B8) (k : Nat) : wrsTo S (k + 1) = wrsTo S k ++ [wAt S k] := by simp [wrsTo, List.range_succ]
theorem notesTo_succ (S : Nat → List B8) (k : Nat) : notesTo S (k + 1) = notesTo S k ++ [S (1 + 2 * k)] := by simp [notesTo, List.range_succ]
/-- What gathered answers. -/
def gathPost (S : Nat → List B8) (data num cnt : Nat) (w : World) (e : Ending) (w' : World) : Prop :=
  ∃ k vw vn, k ≤ cnt ∧ (∀ i, i < k → okAt S data num cnt i) ∧ (k < cnt → ¬ okAt S data num cnt k) ∧ e = .returned (.tuple #[.agg #[.int .i64 num, vw], vn, .int .i64 0]) ∧
    OWrs w.heap.size (fun g => w.heap.size ≤ g) w' vw k (wrsTo S k) ∧ OParts w.heap.size w' vn k (notesTo S k) ∧ Below w.heap.size w w'

/-- What gathered keeps behind i places. -/
structure GR (w : World) (D j num : Nat) (S : Nat → List B8) (i : Nat) (vn : Value) (wx : World) : Prop where
  lay : Blk wx w.heap.size 114 [.pointer (some ⟨D, 0, none⟩), .int .i64 (j : Int)]
  res : Blk wx (w.heap.size + 1) 138 [.int .i64 0, .slice none 0 0]
  tra : ∃ vw, Blk wx (w.heap.size + 2) 138 [.int .i64 num, vw] ∧ OWrs w.heap.size (fun g => w.heap.size ≤ g) wx vw i (wrsTo S i)
  nts : OParts w.heap.size wx vn i (notesTo S i)
  bel : Below w.heap.size w wx
theorem GR.start (w : World) (D j num : Nat) (S : Nat → List B8) : GR w D j num S 0 (.slice none 0 0) (((w.alloc (.cells #[.pointer (some ⟨D, 0, none⟩), .int .i64 (j : Int)] 114)).alloc (.cells #[.int .i64 0, .slice none 0 0] 138)).alloc (.cells #[.int .i64 num, .slice none 0 0] 138)) := by
  have b1 := new_below w (.cells #[.pointer (some ⟨D, 0, none⟩), .int .i64 (j : Int)] 114)
  have k1 := Blk.new w 114 [.pointer (some ⟨D, 0, none⟩), .int .i64 (j : Int)]
  have b2 := new_below (w.alloc (.cells #[.pointer (some ⟨D, 0, none⟩), .int .i64 (j : Int)] 114)) (.cells #[.int .i64 0, .slice none 0 0] 138)
  have k2 := Blk.new (w.alloc (.cells #[.pointer (some ⟨D, 0, none⟩), .int .i64 (j : Int)] 114)) 138 [.int .i64 0, .slice none 0 0]
  have b3 := new_below ((w.alloc (.cells #[.pointer (some ⟨D, 0, none⟩), .int .i64 (j : Int)] 114)).alloc (.cells #[.int .i64 0, .slice none 0 0] 138)) (.cells #[.int .i64 num, .slice none 0 0] 138)
  have k3 := Blk.new ((w.alloc (.cells #[.pointer (some ⟨D, 0, none⟩), .int .i64 (j : Int)] 114)).alloc (.cells #[.int .i64 0, .slice none 0 0] 138)) 138 [.int .i64 num, .slice none 0 0]
  simp only [World.size_alloc] at k2 k3
  exact ⟨k1.below (below_of b2 b3) k1.lt, k2.below b3 (by simp), ⟨_, k3, OWrs.empty _ _ _⟩, ⟨[], World.ownsRow_nil _ _ _ _, rfl, rfl, fun j x h => by simp [notesTo] at h⟩, below_of (below_of b1 b2) b3⟩
theorem GR.below {w : World} {D j num i : Nat} {S : Nat → List B8} {vn : Value} {a b : World} (h : GR w D j num S i vn a) (hb : Below a.heap.size a b) : GR w D j num S i vn b := by
  obtain ⟨vw, h1, h2⟩ := h.tra
  exact ⟨h.lay.below hb h.lay.lt, h.res.below hb h.res.lt, ⟨vw, h1.below hb h1.lt, h2.below hb⟩, h.nts.below hb, below_of h.bel hb⟩

theorem only_set1 (wk : World) (T o : Nat) (x : Value) : Only [T] wk (wk.setCell ⟨T, o, none⟩ x) := (Only.refl _ wk).setCell (p := ⟨T, o, none⟩) (.inl (by simp)) x
theorem own_only1 {N n s : Nat} {e : TypeId} {wk wk' : World} {v : Value} {xs : List Value} {T : Nat} {cs : List Value} (h : wk.ownsRow N e s v n xs) (ho : Only [T] wk wk') (hT : Blk wk T 138 cs) (hne : e ≠ 138) : wk'.ownsRow N e s v n xs :=
  ownsRow_only h ho fun q hq => by
    simp only [List.mem_singleton]
    rintro rfl
    exact own_blk_ne h hT hne hq
theorem new_row_set (w : World) (b o : Nat) (x : Value) (cs : List Value) (t : TypeId) : ∀ j u, cs[j]? = some u → ((w.setCell ⟨b, o, none⟩ x).alloc (.cells cs.toArray t)).cell? ((⟨w.heap.size, 0, none⟩ : Addr).add j) = some u := by
  have h := new_row (w.setCell ⟨b, o, none⟩ x) cs t
  have e : (w.setCell ⟨b, o, none⟩ x).heap.size = w.heap.size := by simp
  rw [e] at h
  exact h
theorem slice_one (Q : Option Addr) (m k : Nat) : ∀ u ∈ [Value.slice Q m k], u.oneCell' = true := by
  intro u hu
  simp only [List.mem_cons, List.not_mem_nil, or_false] at hu
  rw [hu]
  rfl
theorem own_sl {N n s : Nat} {e : TypeId} {w : World} {v : Value} {xs : List Value} (h : w.ownsRow N e s v n xs) : ∃ P c, v = .slice P n c := by
  rcases h.2 with ⟨rfl, rfl⟩ | ⟨g, cap, cur, rfl, _⟩
  · exact ⟨_, _, rfl⟩
  · exact ⟨_, _, rfl⟩
theorem Bts.only1 {A : Nat → Prop} {wk wk' : World} {u : Value} {xs : List B8} {T : Nat} {cs : List Value} (h : Bts A wk u xs) (ho : Only [T] wk wk') (hT : Blk wk T 138 cs) : Bts A wk' u xs := by
  rcases h with h | ⟨g, o, cap, t, ds, e, hA, hn, hb, ht, h5, h6⟩
  · exact .inl h
  · refine .inr ⟨g, o, cap, t, ds, e, hA, hn, hb.only ho ?_, ht, h5, h6⟩
    simp only [List.mem_singleton]
    rintro rfl
    exact hn.ne (by decide) (by decide) (hb.same hT).1
theorem OWrs.only1 {N n : Nat} {A : Nat → Prop} {wk wk' : World} {v : Value} {X : List (Int × List B8)} {T : Nat} {cs : List Value} (h : OWrs N A wk v n X) (ho : Only [T] wk wk') (hT : Blk wk T 138 cs) : OWrs N A wk' v n X := by
  obtain ⟨cells, c1, c2, c3⟩ := h
  refine ⟨cells, ownsRow_only c1 ho (fun q hq => ?_), c2, fun jj p hp => ?_⟩
  · simp only [List.mem_singleton]
    rintro rfl
    exact own_blk_ne c1 hT (by decide) hq
  · obtain ⟨d0, u, d1, hu⟩ := c3 jj p hp
    exact ⟨d0, u, d1, hu.only1 ho hT⟩
theorem OParts.only1 {N n : Nat} {wk wk' : World} {v : Value} {X : List (List B8)} {T : Nat} {cs : List Value} (h : OParts N wk v n X) (ho : Only [T] wk wk') (hT : Blk wk T 138 cs) : OParts N wk' v n X := by
  obtain ⟨cells, c1, c2, c3, c4⟩ := h
  refine ⟨cells, ownsRow_only c1 ho (fun q hq => ?_), c2, c3, fun jj p hp => ?_⟩
  · simp only [List.mem_singleton]
    rintro rfl
    exact own_blk_ne c1 hT (by decide) hq
  · obtain ⟨u, d1, hu⟩ := c4 jj p hp
    exact ⟨u, d1, hu.only1 ho hT⟩
theorem OParts.grown {N n : Nat} {w w' : World} {v : Value} {X : List (List B8)} {e sz k : Nat} {r : Value} {cs : List Value} (h : OParts N w v n X) (ho : w.ownsRow N e sz r k cs) (hg : w.grownBy w' r.ownBlock) (h1 : e ≠ 5) (h2 : e ≠ 184) (h3 : 22 ≠ e) : OParts N w' v n X := by
  obtain ⟨cells, c1, c2, c3, c4⟩ := h
  refine ⟨cells, own_grown c1 ho h3 hg, c2, c3, fun jj p hp => ?_⟩
  obtain ⟨u, d1, hu⟩ := c4 jj p hp
  exact ⟨u, d1, hu.grown ho hg h1 h2⟩
theorem OParts.add1 {N n : Nat} {w w' : World} {v v' u : Value} {X : List (List B8)} {x : List B8} {cells : List Value} (ho : w.ownsRow N 22 1 v n cells) (hcl : cells.length = n) (hx : X.length = n) (hg : w.grownBy w' v.ownBlock)
    (h4 : ∀ (j : Nat) (x : List B8), X[j]? = some x → ∃ u, cells[j]? = some u ∧ Bts (fun _ => True) w u x) (ho' : w'.ownsRow N 22 1 v' (n + 1) (cells ++ [u])) (hu : Bts (fun _ => True) w u x) : OParts N w' v' (n + 1) (X ++ [x]) := by
  refine ⟨_, ho', by simp [hcl], by simp [hx], fun j y hy => ?_⟩
  by_cases hj : j < n
  · rw [List.getElem?_append_left (by omega)] at hy
    obtain ⟨u0, d1, hu0⟩ := h4 j y hy
    exact ⟨u0, by rw [List.getElem?_append_left (by omega)]; exact d1, hu0.grown ho hg (by decide) (by decide)⟩
  · have hj' : j = n := by
      have := (List.getElem?_eq_some_iff.1 hy).1
      simp at this
      omega
    subst hj'
    rw [List.getElem?_append_right (by omega), hx, Nat.sub_self] at hy
    simp only [List.getElem?_cons_zero, Option.some.injEq] at hy
    subst hy
    exact ⟨u, by rw [List.getElem?_append_right (by omega), hcl, Nat.sub_self]; rfl, hu.grown ho hg (by decide) (by decide)⟩

theorem gath_end {w wk : World} {k : Nat} {S : Nat → List B8} {vw vn : Value} {cs : List Value} (h1 : OWrs w.heap.size (fun g => w.heap.size ≤ g) wk vw k (wrsTo S k)) (h2 : OParts w.heap.size wk vn k (notesTo S k)) (h3 : Below w.heap.size w wk) (h4 : Blk wk (w.heap.size + 1) 138 cs) (x y : Value) :
    OWrs w.heap.size (fun g => w.heap.size ≤ g) ((wk.setCell ⟨w.heap.size + 1, 0, none⟩ x).setCell ⟨w.heap.size + 1, 1, none⟩ y) vw k (wrsTo S k) ∧ OParts w.heap.size ((wk.setCell ⟨w.heap.size + 1, 0, none⟩ x).setCell ⟨w.heap.size + 1, 1, none⟩ y) vn k (notesTo S k) ∧
    Below w.heap.size w ((wk.setCell ⟨w.heap.size + 1, 0, none⟩ x).setCell ⟨w.heap.size + 1, 1, none⟩ y) := by
  have ho : Only [w.heap.size + 1] wk ((wk.setCell ⟨w.heap.size + 1, 0, none⟩ x).setCell ⟨w.heap.size + 1, 1, none⟩ y) := ((Only.refl _ wk).setCell (p := ⟨w.heap.size + 1, 0, none⟩) (.inl (by simp)) x).setCell (p := ⟨w.heap.size + 1, 1, none⟩) (.inl (by simp)) y
  have hbt : ∀ {A : Nat → Prop} {u : Value} {xs : List B8}, Bts A wk u xs → Bts A ((wk.setCell ⟨w.heap.size + 1, 0, none⟩ x).setCell ⟨w.heap.size + 1, 1, none⟩ y) u xs := by
    intro A u xs h
    rcases h with h | ⟨g, o, cap, t, ds, e, hA, hn, hb, ht, h5, h6⟩
    · exact .inl h
    · refine .inr ⟨g, o, cap, t, ds, e, hA, hn, hb.only ho ?_, ht, h5, h6⟩
      simp only [List.mem_singleton]
      rintro rfl
      exact hn.ne (by decide) (by decide) (hb.same h4).1
  refine ⟨?_, ?_, h3.trans (ho.below (B := w.heap.size) h3.size (by simp))⟩
  · obtain ⟨cells, c1, c2, c3⟩ := h1
    refine ⟨cells, ownsRow_only c1 ho (fun q hq => ?_), c2, fun jj p hp => ?_⟩
    · simp only [List.mem_singleton]
      rintro rfl
      exact own_blk_ne c1 h4 (by decide) hq
    · obtain ⟨d0, u, d1, hu⟩ := c3 jj p hp
      exact ⟨d0, u, d1, hbt hu⟩
  · obtain ⟨cells, c1, c2, c3, c4⟩ := h2
    refine ⟨cells, ownsRow_only c1 ho (fun q hq => ?_), c2, c3, fun jj p hp => ?_⟩
    · simp only [List.mem_singleton]
      rintro rfl
      exact own_blk_ne c1 h4 (by decide) hq
    · obtain ⟨u, d1, hu⟩ := c4 jj p hp
      exact ⟨u, d1, hbt hu⟩
theorem gath_read {wk : World} {b : Nat} {t : TypeId} {p q : Value} (h : Blk wk b t [p, q]) (x y : Value) :
    ((wk.setCell ⟨b, 0, none⟩ x).setCell ⟨b, 1, none⟩ y).cell? ⟨b, 0, none⟩ = some x ∧ ((wk.setCell ⟨b, 0, none⟩ x).setCell ⟨b, 1, none⟩ y).cell? ⟨b, 1, none⟩ = some y := by
  have := (h.set_ 0 x).set_ 1 y
  exact ⟨this.cell 0, this.cell 1⟩

set_option maxHeartbeats 4000000 in
theorem gathered_any (B : Nat) (w : World) (D L n j : Nat) (S : Nat → List B8) (cw cf num cnt : Nat) (hd : Idle B D L n S cw cf w) (hj : j + 1 < n) (hnum : num ≤ 9223372036854775807) (hcnt : 2 * cnt ≤ j) :
    Calls Tryz.prog 161 #[lay_ D j, .int .i64 num, .int .i64 cnt] w (gathPost S (n - j - 1) num cnt w) := by
  have hnb := hd.bound
  have hz := zeroTrans
  obtain ⟨i0, hi, hz0, hz1, hz2⟩ := info_parts writeInfo
  have HI := Lib.hid (And.intro hi (And.intro hz0 (And.intro hz1 hz2)))
  obtain ⟨i1, hjj, hy0, hy1, hy2⟩ := info_parts (show (Tryz.prog.info? 22).map (fun i => (i.zero, i.size, i.bytes)) = some (some (.slice none 0 0), 1, 24) by kernel_rfl)
  have HJ := Lib.hid (And.intro hjj (And.intro hy0 (And.intro hy1 hy2)))
  have HD := Lib.hid hd
  clear hd hi hz0 hz1 hz2 hjj hy0 hy1 hy2
  go_enter Tryz.func161, Tryz.ntmps161
  go_wp2_with fail
  go_step3
  go_wp2_with fail
  go_step3
  go_wp2_with fail
  have H0 := Lib.hid (GR.start w D j num S)
  go_loopw [22, 10] (fun iv vn wx => ∃ i : Nat, i ≤ cnt ∧ iv = .int .i64 i ∧ (∀ k, k < i → okAt S (n - j - 1) num cnt k) ∧ GR w D j num S i vn wx) (fun iv _ _ => cnt - (intOf iv).toNat)
  case atStart => exact ⟨0, Nat.zero_le _, rfl, fun k hk => absurd hk (by omega), H0.out⟩
  case round =>
    clear H0
    obtain ⟨i, hi, rfl, hall, hg⟩ := hrel
    have ⟨l0, l1⟩ := blk_pair hg.lay
    have HG := Lib.hid (And.intro hall hg)
    clear hall hg
    by_cases hlt : i < cnt
    · obtain ⟨a, ha⟩ : ∃ a : Nat, 1 + 2 * i = a := ⟨_, rfl⟩
      have hda := fun (w : World) => noteAt_any (D := D) (j := j) (w := w) i (by omega)
      rw [ha] at hda
      have HDA := Lib.hid hda
      have HA := Lib.hid ha
      have hab : a + 1 < n := by omega
      clear ha hda
      go_wp2_with fail
      refine (HDA.out _).mono ?_
      rintro e w2 ⟨rfl, hW⟩
      have ⟨l0, l1⟩ := blk_pair (HG.out.2.lay.below hW HG.out.2.lay.lt)
      have H2 := Lib.hid hW
      clear hW
      go_wp2_with fail
      refine (read_calm ((HD.out.below HG.out.2.bel).below H2.out).calm (k := a) (by omega)).mono ?_
      rintro e w3 ⟨v, rfl, hv, hW⟩
      have hs64 := HD.out.sec (k := a) (by omega)
      obtain ⟨Q, k3, rfl, hk64, hk3⟩ := hv.form
      rw [hs64] at hk64 hv ⊢
      obtain ⟨g, o, rfl, _, _, _⟩ := hv.cells.2 (by omega)
      have H3 := Lib.hid (And.intro (below_of H2.out hW) (hv.mono (A' := fun g => w.heap.size ≤ g) (fun g hg _ => Nat.le_trans HG.out.2.bel.size (Nat.le_trans H2.out.size hg))))
      have HG3 := Lib.hid (HG.out.2.below (below_of H2.out hW))
      clear hW hv l0 l1
      go_wp2_with fail
      refine (noted_any _ _ g o k3 (S a) H3.out.2 hk64 hk3).mono ?_
      rintro e w4 ⟨rfl, hW⟩
      have H4 := Lib.hid (And.intro (below_of H3.out.1 hW) (H3.out.2.below hW))
      have HG4 := Lib.hid (HG3.out.below hW)
      have ⟨l0, l1⟩ := blk_pair (HG3.out.lay.below hW HG3.out.lay.lt)
      clear hW HG3
      obtain ⟨f0, hf0⟩ : ∃ f, fromB (sub (S a) 0 8) = f := ⟨_, rfl⟩
      obtain ⟨f1, hf1⟩ : ∃ f, fromB (sub (S a) 12 4) = f := ⟨_, rfl⟩
      obtain ⟨f2, hf2⟩ : ∃ f, fromB (sub (S a) 16 4) = f := ⟨_, rfl⟩
      rw [hf0, hf1, hf2]
      have HF := Lib.hid (And.intro hf0 (And.intro hf1 hf2))
      have hokat : okAt S (n - j - 1) num cnt i ↔ f0 = num ∧ f1 = cnt ∧ f2 < n - j - 1 := by unfold okAt; rw [HA.out, hf0, hf1, hf2]
      have HOK := Lib.hid hokat
      clear hf0 hf1 hf2 hokat
      by_cases c0 : f0 = num
      · have e0 : ((f0 : Int) != (num : Int)) = false := by simp [c0]
        by_cases c1 : f1 = cnt
        · have e1 : ((f1 : Int) != (cnt : Int)) = false := by simp [c1]
          by_cases c2 : f2 < n - j - 1
          · have HOA := Lib.hid (HOK.out.2 ⟨c0, c1, c2⟩)
            clear c0 c1
            go_wp2_with (go_at_call 63; refine (has_yes ((HD.out.below HG4.out.bel)).calm hj hnb.2 f2 (by omega) (by omega)).mono ?_; rintro e w5 ⟨rfl, hW⟩; have HG5 := Lib.hid (HG4.out.below hW); have H5 := Lib.hid (H4.out.2.below hW); have ⟨l0, l1⟩ := blk_pair (HG4.out.lay.below hW HG4.out.lay.lt); clear hW)
            refine (read_calm ((HD.out.below HG5.out.bel)).calm (k := a + 1) (by omega)).mono ?_
            rintro e w6 ⟨v6, rfl, hv6, hW⟩
            have hs64 := HD.out.sec (k := a + 1) (by omega)
            obtain ⟨Q6, k6, rfl, hk64', hk6⟩ := hv6.form
            rw [hs64] at hk64' hv6 ⊢
            have hsz5 := HG5.out.bel.size
            have HG6 := HG5.out.below hW
            have hsz6 := HG6.bel.size
            have H6 := Lib.hid (And.intro (hv6.mono (A' := fun g => w.heap.size ≤ g) (fun g hg _ => Nat.le_trans hsz5 hg)) (And.intro (H5.out.below hW) HG6))
            obtain ⟨vw, hkt, how⟩ := HG6.tra
            obtain ⟨Pw, cw1, rfl⟩ := how.form
            have ⟨t0, t1⟩ := blk_pair hkt
            have hktl := hkt.lt
            obtain ⟨cells, ho, hxl, hcs⟩ := how
            obtain ⟨cn, hno, hncl, hnxl, hnc⟩ := HG6.nts
            have HT := Lib.hid (And.intro hkt (And.intro ho (And.intro hxl (And.intro hcs (And.intro hno (And.intro hncl (And.intro hnxl hnc)))))))
            clear hW hv6 HG6 hkt ho hxl hcs hno hncl hnxl hnc
            go_wp2_with (first
              | (at_builtin; refine wpList_append_own _ rfl (.tmp 73) (.tmp 77) 46 rfl w.heap.size 133 i0 (.agg #[.int .i64 0, .slice none 0 0]) 2 32 Tryz.underlying46 HI.out.1 HI.out.2.1 HI.out.2.2.1 HI.out.2.2.2 rfl (by decide) (.slice Pw i cw1) i cells rfl (HT.out.2.1.alloc _) ⟨w6.heap.size, 0, none⟩ 1 1 [.int .i64 f2, .slice Q6 64 k6] rfl rfl (new_row w6 [_, _] 133) (pair_one _ _ _ _) (by unfold maxLen; omega) (by omega) (by simp; omega) ?_; intro v7 w7 ho7 hg7 _; obtain ⟨P7, c7, rfl⟩ := own_sl ho7; have hkt7 := (HT.out.1.alloc (.cells #[.int .i64 f2, .slice Q6 64 k6] 133)).grown hg7 (fun e => own_blk_ne (HT.out.2.1.alloc (.cells #[.int .i64 f2, .slice Q6 64 k6] 133)) (HT.out.1.alloc (.cells #[.int .i64 f2, .slice Q6 64 k6] 133)) (by decide) e.symm); have ⟨t70, t71⟩ := blk_pair hkt7; have tf := hkt7.frozen 1; have hno7 := own_grown (HT.out.2.2.2.2.1.alloc (.cells #[.int .i64 f2, .slice Q6 64 k6] 133)) (HT.out.2.1.alloc (.cells #[.int .i64 f2, .slice Q6 64 k6] 133)) (by decide) hg7; have hno8 := own_only1 hno7 (only_set1 w7 (w.heap.size + 2) 1 (.slice P7 (i + 1) c7)) hkt7 (by decide); have hsz7 : w6.heap.size ≤ w7.heap.size := (by have := hg7.size; simp at this; omega); have H7 := Lib.hid (And.intro ho7 (And.intro hg7 (And.intro hkt7 hno8))); clear ho7 hg7 hkt7 hno7 hno8)
              | (at_builtin; refine wpList_append_own _ rfl (.tmp 80) (.tmp 82) 221 rfl w.heap.size 22 i1 (.slice none 0 0) 1 24 Tryz.underlying221 HJ.out.1 HJ.out.2.1 HJ.out.2.2.1 HJ.out.2.2.2 rfl (by decide) u10 i cn rfl (H7.out.2.2.2.alloc _) ⟨w7.heap.size, 0, none⟩ 1 1 [.slice (some ⟨g, o, none⟩) 64 k3] rfl rfl (new_row_set w7 _ _ _ [_] 22) (slice_one _ _ _) (by unfold maxLen; omega) (by omega) (by simp; omega) ?_; intro v9 w9 ho9 hg9 _; obtain ⟨P9, c9, rfl⟩ := own_sl ho9; have H9 := Lib.hid (And.intro ho9 hg9); clear ho9 hg9))
            have hbt6 : Bts (fun g => w.heap.size ≤ g) w6 (.slice Q6 64 k6) (S (a + 1)) := H6.out.1
            have own6 := HT.out.2.1.alloc (.cells #[.int .i64 f2, .slice Q6 64 k6] 133)
            have hn6 := new_below w6 (.cells #[.int .i64 f2, .slice Q6 64 k6] 133)
            have on7 := only_set1 w7 (w.heap.size + 2) 1 (.slice P7 (i + 1) c7)
            have hn8 := new_below (w7.setCell ⟨w.heap.size + 2, 1, none⟩ (.slice P7 (i + 1) c7)) (.cells #[.slice (some ⟨g, o, none⟩) 64 k3] 22)
            have own8 := H7.out.2.2.2.alloc (.cells #[.slice (some ⟨g, o, none⟩) 64 k3] 22)
            have HC := Lib.hid (And.intro own6 (And.intro hn6 (And.intro on7 (And.intro hn8 own8))))
            clear own6 hn6 on7 hn8 own8
            have hbch : ∀ (A : Nat → Prop) (u : Value) (xs : List B8), Bts A w6 u xs → Bts A ((w7.setCell ⟨w.heap.size + 2, 1, none⟩ (.slice P7 (i + 1) c7)).alloc (.cells #[.slice (some ⟨g, o, none⟩) 64 k3] 22)) u xs := fun A u xs h =>
              (((h.below HC.out.2.1).grown HC.out.1 H7.out.2.1 (by decide) (by decide)).only1 HC.out.2.2.1 H7.out.2.2.1).below HC.out.2.2.2.1
            have hch : ∀ (g' : Nat) (t : TypeId) (cs : List Value), 133 ≠ t → 22 ≠ t → t ≠ 138 → Blk w6 g' t cs → Blk w9 g' t cs := by
              intro g' t cs h1 h2 h3 hb
              have b7 := (hb.alloc (.cells #[.int .i64 f2, .slice Q6 64 k6] 133)).grown H7.out.2.1 (fun e => own_blk_ne HC.out.1 (hb.alloc _) h1 e.symm)
              have b8 := b7.only HC.out.2.2.1 (by simp only [List.mem_singleton]; rintro rfl; exact h3 (b7.same H7.out.2.2.1).1)
              exact (b8.alloc _).grown H9.out.2 (fun e => own_blk_ne HC.out.2.2.2.2 (b8.alloc _) h2 e.symm)
            have htr8 := H7.out.2.2.1.set_ 1 (.slice P7 (i + 1) c7)
            have htr9 := (htr8.alloc (.cells #[.slice (some ⟨g, o, none⟩) 64 k3] 22)).grown H9.out.2 (fun e => own_blk_ne HC.out.2.2.2.2 (htr8.alloc _) (by decide) e.symm)
            have how7 : OWrs w.heap.size (fun g => w.heap.size ≤ g) w7 (.slice P7 (i + 1) c7) (i + 1) (wrsTo S i ++ [((f2 : Int), S (a + 1))]) := by
              refine OWrs.add HC.out.1 HT.out.2.2.1 H7.out.2.1 (fun jj pp hpp => ?_) rfl H7.out.1 (fun jj pp hpp => ?_)
              · obtain ⟨c0, u, c1, hu⟩ := HT.out.2.2.2.1 jj pp hpp
                exact ⟨c0, u, c1, hu.below HC.out.2.1⟩
              · match jj, hpp with
                | 0, hpp =>
                  simp only [List.getElem?_cons_zero, Option.some.injEq] at hpp
                  subst hpp
                  exact ⟨rfl, _, rfl, hbt6.below HC.out.2.1⟩
            have how9 := ((how7.only1 HC.out.2.2.1 H7.out.2.2.1).below HC.out.2.2.2.1).grown HC.out.2.2.2.2 H9.out.2 (by decide) (by decide) (by decide)
            have hnt9 : OParts w.heap.size w9 (.slice P9 (i + 1) c9) (i + 1) (notesTo S i ++ [S a]) := by
              refine OParts.add1 HC.out.2.2.2.2 HT.out.2.2.2.2.2.1 HT.out.2.2.2.2.2.2.1 H9.out.2 (fun jj x hx => ?_) H9.out.1 ((hbch _ _ _ H6.out.2.1).mono (fun _ _ _ => trivial))
              obtain ⟨u, d1, hu⟩ := HT.out.2.2.2.2.2.2.2 jj x hx
              exact ⟨u, d1, hbch _ _ _ hu⟩
            have hbel9 : Below w.heap.size w w9 := by
              have b6 := H6.out.2.2.bel
              have b7 := (b6.trans (HC.out.2.1.mono b6.size)).grown H7.out.2.1 (by simp; omega) (fun q hq => own_ge HC.out.1 q hq)
              have b8 := b7.trans (HC.out.2.2.1.below (B := w.heap.size) b7.size (by simp))
              exact (b8.trans (HC.out.2.2.2.1.mono b8.size)).grown H9.out.2 (by simp; omega) (fun q hq => own_ge HC.out.2.2.2.2 q hq)
            have HE := Lib.hid (And.intro (hch _ _ _ (by decide) (by decide) (by decide) H6.out.2.2.lay) (And.intro htr9 (And.intro how9 (And.intro hnt9 hbel9))))
            have hres : Blk w9 (w.heap.size + 1) 138 [.int .i64 0, .slice none 0 0] := by
              have hb := H6.out.2.2.res
              have b7 := (hb.alloc (.cells #[.int .i64 f2, .slice Q6 64 k6] 133)).grown H7.out.2.1 (fun e => own_blk_ne HC.out.1 (hb.alloc _) (by decide) e.symm)
              have b8 := b7.only HC.out.2.2.1 (by simp)
              exact (b8.alloc _).grown H9.out.2 (fun e => own_blk_ne HC.out.2.2.2.2 (b8.alloc _) (by decide) e.symm)
            have HRS := Lib.hid hres
            clear hbch hch htr8 htr9 how7 how9 hnt9 hbel9 hres hbt6
            refine ⟨⟨i + 1, by omega, by go_num, fun k hk => ?_, ⟨HE.out.1, HRS.out, ⟨_, HE.out.2.1, ?_⟩, ?_, HE.out.2.2.2.2⟩⟩, by simp [intOf]; omega⟩
            · by_cases h : k = i
              · subst h; exact HOA.out
              · exact HG.out.1 k (by omega)
            · rw [wrsTo_succ]
              unfold wAt
              rw [HA.out, HF.out.2.2]
              exact HE.out.2.2.1
            · rw [notesTo_succ, HA.out]
              exact HE.out.2.2.2.1
          · have HNO := Lib.hid (fun h => c2 (HOK.out.1 h).2.2)
            clear c0 c1
            go_wp2_with (
              go_at_call 63
              refine (has_no ((HD.out.below HG4.out.bel)).calm hj hnb.2 f2 (by omega)).mono ?_
              rintro e w5 ⟨rfl, hW⟩
              have HG5 := Lib.hid (HG4.out.below hW)
              obtain ⟨vw, hkt, how⟩ := HG5.out.tra
              obtain ⟨Pw, cw1, rfl⟩ := how.form
              have ⟨t0, t1⟩ := blk_pair hkt
              have ⟨r0, r1⟩ := blk_pair HG5.out.res
              have rf0 := HG5.out.res.frozen 0
              have rf1 := HG5.out.res.frozen 1
              have HT := Lib.hid (And.intro how (And.intro HG5.out.nts (And.intro HG5.out.bel HG5.out.res)))
              clear how hkt hW)
            rw [Exit.noGoto_ret]
            have HS := Lib.hid (gath_end HT.out.1 HT.out.2.1 HT.out.2.2.1 HT.out.2.2.2 (.int .i64 num) (.slice Pw i cw1))
            have HC := Lib.hid (gath_read HT.out.2.2.2 (.int .i64 num) (.slice Pw i cw1))
            refine bodyPost_ret (v := .tuple #[.agg #[.int .i64 num, .slice Pw i cw1], u10, .int .i64 0]) ?_ rfl ⟨i, .slice Pw i cw1, u10, by omega, HG.out.1, fun _ => HNO.out, rfl, HS.out.1, HS.out.2.1, HS.out.2.2⟩
            have hc0 := HC.out.1
            have hc1 := HC.out.2
            simp [results, Tryz.results161, go_sem, hc0, hc1]
        · have e1 : ((f1 : Int) != (cnt : Int)) = true := by simp; omega
          have HNO := Lib.hid (fun h => c1 (HOK.out.1 h).2.1)
          clear c0 c1
          obtain ⟨vw, hkt, how⟩ := HG4.out.tra
          obtain ⟨Pw, cw1, rfl⟩ := how.form
          have ⟨t0, t1⟩ := blk_pair hkt
          have ⟨r0, r1⟩ := blk_pair HG4.out.res
          have rf0 := HG4.out.res.frozen 0
          have rf1 := HG4.out.res.frozen 1
          have HT := Lib.hid (And.intro how (And.intro HG4.out.nts (And.intro HG4.out.bel HG4.out.res)))
          clear how hkt
          go_wp2_with fail
          rw [Exit.noGoto_ret]
          have HS := Lib.hid (gath_end HT.out.1 HT.out.2.1 HT.out.2.2.1 HT.out.2.2.2 (.int .i64 num) (.slice Pw i cw1))
          have HC := Lib.hid (gath_read HT.out.2.2.2 (.int .i64 num) (.slice Pw i cw1))
          refine bodyPost_ret (v := .tuple #[.agg #[.int .i64 num, .slice Pw i cw1], u10, .int .i64 0]) ?_ rfl ⟨i, .slice Pw i cw1, u10, by omega, HG.out.1, fun _ => HNO.out, rfl, HS.out.1, HS.out.2.1, HS.out.2.2⟩
          have hc0 := HC.out.1
          have hc1 := HC.out.2
          simp [results, Tryz.results161, go_sem, hc0, hc1]
      · have e0 : ((f0 : Int) != (num : Int)) = true := by simp; omega
        have HNO := Lib.hid (fun h => c0 (HOK.out.1 h).1)
        clear c0
        obtain ⟨vw, hkt, how⟩ := HG4.out.tra
        obtain ⟨Pw, cw1, rfl⟩ := how.form
        have ⟨t0, t1⟩ := blk_pair hkt
        have ⟨r0, r1⟩ := blk_pair HG4.out.res
        have rf0 := HG4.out.res.frozen 0
        have rf1 := HG4.out.res.frozen 1
        have HT := Lib.hid (And.intro how (And.intro HG4.out.nts (And.intro HG4.out.bel HG4.out.res)))
        clear how hkt
        go_wp2_with fail
        rw [Exit.noGoto_ret]
        have HS := Lib.hid (gath_end HT.out.1 HT.out.2.1 HT.out.2.2.1 HT.out.2.2.2 (.int .i64 num) (.slice Pw i cw1))
        have HC := Lib.hid (gath_read HT.out.2.2.2 (.int .i64 num) (.slice Pw i cw1))
        refine bodyPost_ret (v := .tuple #[.agg #[.int .i64 num, .slice Pw i cw1], u10, .int .i64 0]) ?_ rfl ⟨i, .slice Pw i cw1, u10, by omega, HG.out.1, fun _ => HNO.out, rfl, HS.out.1, HS.out.2.1, HS.out.2.2⟩
        have hc0 := HC.out.1
        have hc1 := HC.out.2
        simp [results, Tryz.results161, go_sem, hc0, hc1]
    · obtain rfl : i = cnt := by omega
      obtain ⟨vw, hkt, how⟩ := HG.out.2.tra
      obtain ⟨Pw, cw1, rfl⟩ := how.form
      have ⟨t0, t1⟩ := blk_pair hkt
      have ⟨r0, r1⟩ := blk_pair HG.out.2.res
      have rf0 := HG.out.2.res.frozen 0
      have rf1 := HG.out.2.res.frozen 1
      have HT := Lib.hid (And.intro how (And.intro HG.out.2.nts (And.intro HG.out.2.bel HG.out.2.res)))
      clear how hkt
      go_wp2_with fail
      rw [Exit.noGoto_ret]
      have HS := Lib.hid (gath_end HT.out.1 HT.out.2.1 HT.out.2.2.1 HT.out.2.2.2 (.int .i64 num) (.slice Pw i cw1))
      have HC := Lib.hid (gath_read HT.out.2.2.2 (.int .i64 num) (.slice Pw i cw1))
      refine bodyPost_ret (v := .tuple #[.agg #[.int .i64 num, .slice Pw i cw1], u10, .int .i64 0]) ?_ rfl ⟨i, .slice Pw i cw1, u10, Nat.le_refl _, HG.out.1, fun h => absurd h (Nat.lt_irrefl _), rfl, HS.out.1, HS.out.2.1, HS.out.2.2⟩
      have hc0 := HC.out.1
      have hc1 := HC.out.2
      simp [results, Tryz.results161, go_sem, hc0, hc1]
end Go.Proofs.YtfkdpndcoegfpaaGreatDoor
end

/-
  The document's own Check: if it answers 0, the writes are right. Condition: the writes are known.
-/

section
set_option maxRecDepth 100000
set_option linter.unusedSimpArgs false
set_option linter.unusedVariables false
namespace Go.Proofs.YtfkdpndcoegfpaaGreatDoor
open Go.RowKit

theorem take_all {α : Type} {ws : List α} {i : Nat} {p : α} {q : α → Prop} (h : ∀ p ∈ ws.take i, q p) (hp : ws[i]? = some p) (hq : q p) : ∀ p ∈ ws.take (i + 1), q p := by
  intro x hx
  rw [take_snoc_ hp] at hx
  rcases List.mem_append.1 hx with hx | hx
  · exact h x hx
  · simp only [List.mem_singleton] at hx
    subst hx
    exact hq
theorem secs_snoc {ws : List (Int × List B8)} {i : Nat} {p : Int × List B8} (h : (secs (ws.take i)).Nodup) (hp : ws[i]? = some p) (hq : ∀ k q, k < i → ws[k]? = some q → q.1 ≠ p.1) : (secs (ws.take (i + 1))).Nodup := by
  rw [take_snoc_ hp]
  unfold secs at h ⊢
  rw [List.map_append, List.nodup_append]
  refine ⟨h, by simp, ?_⟩
  intro a ha b hb
  simp only [List.map_cons, List.map_nil, List.mem_singleton] at hb
  subst hb
  obtain ⟨q, hq1, rfl⟩ := List.mem_map.1 ha
  obtain ⟨k, hk⟩ := List.mem_iff_getElem?.1 hq1
  rw [List.getElem?_take] at hk
  split at hk
  · exact hq k q (by assumption) hk
  · cases hk

/-- What the document's Check answers. -/
def rcheckPost (data most m : Nat) (ws : List (Int × List B8)) (w : World) (e : Ending) (w' : World) : Prop := (∃ r : Int, e = .returned (.int .i64 r) ∧ (r = 0 → Right data ws ∧ m ≤ most)) ∧ Below w.heap.size w w'

set_option maxHeartbeats 2000000 in
theorem rcheck_any (w : World) (A : Nat → Prop) (P : Option Addr) (m c data most : Nat) (ws : List (Int × List B8)) (hw : Rfs A w (.slice P m c) ws) :
    Calls Tryz.prog 21 #[.slice P m c, .int .i64 data, .int .i64 most] w (rcheckPost data most m ws w) := by
  have hlen := hw.len
  have hm : m ≤ 9223372036854775807 := by obtain ⟨P', c', e, h1, h2⟩ := hw.form; cases e; omega
  have H := Lib.hid (And.intro hw hlen)
  clear hw hlen
  go_enter Tryz.func21, Tryz.ntmps21
  go_wp2_with fail
  go_loopw [7] (fun iv wx => ∃ i : Nat, i ≤ m ∧ iv = .int .i64 i ∧ Below w.heap.size w wx ∧ ∀ p ∈ ws.take i, 0 ≤ p.1 ∧ p.2.length = 64) (fun iv _ => m - (intOf iv).toNat)
  case atStart => exact ⟨0, Nat.zero_le _, rfl, Below.refl _ _, fun p hp => by simp at hp⟩
  case round =>
    obtain ⟨i, hi, rfl, hb, hall⟩ := hrel
    by_cases hlt : i < m
    · obtain ⟨p, hp⟩ : ∃ p, ws[i]? = some p := ⟨_, List.getElem?_eq_getElem (by have := H.out.2; omega)⟩
      obtain ⟨g, Q, m2, k2, rfl, hg, hAg, c0, c1, hl2, hbt, hmk, hk⟩ := (H.out.1.below hb).at_ hp
      have HR := Lib.hid (And.intro hb (And.intro hall hp))
      clear hb hall hp hbt
      by_cases h0 : p.1 < 0
      · have e0 : decide (p.1 < 0) = true := by simpa using h0
        clear h0 hl2
        go_wp2_with fail
        go_ret
        exact ⟨⟨1, rfl, fun h => absurd h (by decide)⟩, HR.out.1⟩
      · have e0 : decide (p.1 < 0) = false := by simpa using h0
        by_cases h64 : m2 = 64
        · have e1 : ((m2 : Int) != 64) = false := by simp; omega
          have HP := Lib.hid (show 0 ≤ p.1 ∧ p.2.length = 64 by omega)
          clear h0 h64 hl2
          go_wp2_with fail
          go_roundw
          case rel => exact ⟨i + 1, by omega, by go_num, HR.out.1, take_all HR.out.2.1 HR.out.2.2 HP.out⟩
          case measure => simp [intOf]; omega
        · have e1 : ((m2 : Int) != 64) = true := by simp; omega
          clear h0 h64 hl2
          go_wp2_with fail
          go_ret
          exact ⟨⟨1, rfl, fun h => absurd h (by decide)⟩, HR.out.1⟩
    · obtain rfl : i = m := by omega
      rw [List.take_of_length_le (by have := H.out.2; omega)] at hall
      have HA := Lib.hid (And.intro hb hall)
      clear hb hall hi
      go_wp2_with fail
      go_loopw [8] (fun iv wx => ∃ i' : Nat, i' ≤ i ∧ iv = .int .i64 i' ∧ Below w.heap.size w wx ∧ (secs (ws.take i')).Nodup) (fun iv _ => i - (intOf iv).toNat)
      case atStart => exact ⟨0, Nat.zero_le _, rfl, HA.out.1, by simp [secs]⟩
      case round =>
        obtain ⟨i', hi', rfl, hb, hnd⟩ := hrel
        by_cases hlt : i' < i
        · obtain ⟨p, hp⟩ : ∃ p, ws[i']? = some p := ⟨_, List.getElem?_eq_getElem (by have := H.out.2; omega)⟩
          have HR := Lib.hid (And.intro hb (And.intro hnd hp))
          clear hb hnd hp
          go_wp2_with fail
          go_loopw [9] (fun iv wx => ∃ k : Nat, k ≤ i' ∧ iv = .int .i64 k ∧ Below w.heap.size w wx ∧ ∀ k' q, k' < k → ws[k']? = some q → q.1 ≠ p.1) (fun iv _ => i' - (intOf iv).toNat)
          case atStart => exact ⟨0, Nat.zero_le _, rfl, HR.out.1, fun k' q h => absurd h (by omega)⟩
          case round =>
            obtain ⟨k, hk, rfl, hb, hall⟩ := hrel
            by_cases hkt : k < i'
            · obtain ⟨q, hq⟩ : ∃ q, ws[k]? = some q := ⟨_, List.getElem?_eq_getElem (by have := H.out.2; omega)⟩
              obtain ⟨g, Q, m2, k2, rfl, hg, hAg, c0, c1, _, _, _, _⟩ := (H.out.1.below hb).at_ HR.out.2.2
              obtain ⟨g', Q', m2', k2', e, hg', hAg', d0, d1, _, _, _, _⟩ := (H.out.1.below hb).at_ hq
              cases e
              have HK := Lib.hid (And.intro hb (And.intro hall hq))
              clear hb hall hq
              by_cases hpq : q.1 = p.1
              · have e0 : (q.1 == p.1) = true := by simpa using hpq
                clear hpq
                go_wp2_with fail
                go_region
                go_wp2_with fail
                go_ret
                exact ⟨⟨8, rfl, fun h => absurd h (by decide)⟩, HK.out.1.drew⟩
              · have e0 : (q.1 == p.1) = false := by simpa using hpq
                have HNE := Lib.hid hpq
                clear hpq
                go_wp2_with fail
                go_region
                go_wp2_with fail
                go_roundw
                case rel =>
                  refine ⟨k + 1, by omega, by go_num, HK.out.1.drew, fun k' x hk' hx => ?_⟩
                  by_cases h : k' = k
                  · subst h
                    rw [HK.out.2.2] at hx
                    cases hx
                    exact HNE.out
                  · exact HK.out.2.1 k' x (by omega) hx
                case measure => simp [intOf]; omega
            · obtain rfl : k = i' := by omega
              have HK := Lib.hid (And.intro hb (secs_snoc HR.out.2.1 HR.out.2.2 hall))
              clear hb hall
              go_wp2_with fail
              go_roundw
              case rel => exact ⟨k + 1, by omega, by go_num, HK.out.1, HK.out.2⟩
              case measure => simp [intOf]; omega
        · obtain rfl : i' = i := by omega
          rw [List.take_of_length_le (by have := H.out.2; omega)] at hnd
          have HN := Lib.hid (And.intro hb hnd)
          clear hb hnd hi'
          go_wp2_with fail
          go_loopw [10] (fun iv wx => ∃ k : Nat, k ≤ i' ∧ iv = .int .i64 k ∧ Below w.heap.size w wx ∧ ∀ p ∈ ws.take k, p.1 < data) (fun iv _ => i' - (intOf iv).toNat)
          case atStart => exact ⟨0, Nat.zero_le _, rfl, HN.out.1, fun p hp => by simp at hp⟩
          case round =>
            obtain ⟨k, hk, rfl, hb, hall⟩ := hrel
            by_cases hkt : k < i'
            · obtain ⟨q, hq⟩ : ∃ q, ws[k]? = some q := ⟨_, List.getElem?_eq_getElem (by have := H.out.2; omega)⟩
              obtain ⟨g, Q, m2, k2, rfl, hg, hAg, c0, c1, _, _, _, _⟩ := (H.out.1.below hb).at_ hq
              have HK := Lib.hid (And.intro hb (And.intro hall hq))
              clear hb hall hq
              by_cases hqd : q.1 < data
              · have e0 : decide ((data : Int) ≤ q.1) = false := by simpa using hqd
                have HQ := Lib.hid hqd
                clear hqd
                go_wp2_with fail
                go_roundw
                case rel => exact ⟨k + 1, by omega, by go_num, HK.out.1, take_all HK.out.2.1 HK.out.2.2 HQ.out⟩
                case measure => simp [intOf]; omega
              · have e0 : decide ((data : Int) ≤ q.1) = true := by simpa using hqd
                clear hqd
                go_wp2_with fail
                go_ret
                exact ⟨⟨1, rfl, fun h => absurd h (by decide)⟩, HK.out.1⟩
            · obtain rfl : k = i' := by omega
              rw [List.take_of_length_le (by have := H.out.2; omega)] at hall
              have HK := Lib.hid (And.intro hb hall)
              clear hb hall
              by_cases hmo : most < k
              · have e0 : decide (most < k) = true := by simpa using hmo
                clear hmo
                go_wp2_with fail
                go_ret
                exact ⟨⟨6, rfl, fun h => absurd h (by decide)⟩, HK.out.1⟩
              · have e0 : decide (most < k) = false := by simpa using hmo
                have HM := Lib.hid hmo
                clear hmo
                go_wp2_with fail
                go_ret
                exact ⟨⟨0, rfl, fun _ => ⟨⟨fun p hp => ⟨(HA.out.2 p hp).1, HK.out.2 p hp, (HA.out.2 p hp).2⟩, HN.out.2⟩, by have := HM.out; omega⟩⟩, HK.out.1⟩
end Go.Proofs.YtfkdpndcoegfpaaGreatDoor
end

/-
  Two logs side by side: a commit to the one leaves the other. Conditions: the disks have power that never goes; the writes are right.
-/

section
set_option maxRecDepth 100000
set_option linter.unusedSimpArgs false
set_option linter.unusedVariables false
namespace Go.Proofs.YtfkdpndcoegfpaaGreatDoor
open Go.RowKit

/-- What is read of the data of a log whose journal has 24 sectors. -/
def dv (S : Nat → List B8) : Nat → List B8 := fun k => S (25 + k)
theorem layS_cons (S : Nat → List B8) (p : Int × List B8) (ws : List (Int × List B8)) : layS S (p :: ws) = layS (upd S p.1.toNat p.2) ws := rfl
theorem layS_off (k : Nat) : ∀ (ws : List (Int × List B8)) (S : Nat → List B8), (∀ p ∈ ws, p.1.toNat ≠ k) → layS S ws k = S k
  | [], _, _ => rfl
  | p :: ws, S, h => by
    rw [layS_cons, layS_off k ws _ (fun q hq => h q (List.mem_cons_of_mem _ hq))]
    unfold upd
    rw [if_neg (fun e => h p (List.mem_cons_self) e.symm)]
theorem layS_on (k : Nat) : ∀ (ws : List (Int × List B8)) (S S' : Nat → List B8), (S k = S' k ∨ ∃ p ∈ ws, p.1.toNat = k) → layS S ws k = layS S' ws k
  | [], S, S', h => by
    rcases h with h | ⟨p, hp, _⟩
    · exact h
    · simp at hp
  | p :: ws, S, S', h => by
    rw [layS_cons, layS_cons]
    apply layS_on k ws
    by_cases hk : p.1.toNat = k
    · left
      unfold upd
      rw [if_pos hk.symm, if_pos hk.symm]
    · rcases h with h | ⟨q, hq, hqk⟩
      · left
        unfold upd
        rw [if_neg (fun e => hk e.symm), if_neg (fun e => hk e.symm)]
        exact h
      · rcases List.mem_cons.1 hq with rfl | hq
        · exact absurd hqk hk
        · exact .inr ⟨q, hq, hqk⟩
theorem layS_at {ws : List (Int × List B8)} (S : Nat → List B8) (hn : (secs ws).Nodup) (h0 : ∀ p ∈ ws, 0 ≤ p.1) {p : Int × List B8} (hp : p ∈ ws) : layS S ws p.1.toNat = p.2 := by
  induction ws generalizing S with
  | nil => simp at hp
  | cons q ws ih =>
    unfold secs at hn ih
    rw [List.map_cons, List.nodup_cons] at hn
    rw [layS_cons]
    rcases List.mem_cons.1 hp with rfl | hp
    · rw [layS_off]
      · unfold upd
        rw [if_pos rfl]
      · intro r hr e
        have h1 := h0 r (List.mem_cons_of_mem _ hr)
        have h2 := h0 p (List.mem_cons_self)
        have : r.1 = p.1 := by omega
        exact hn.1 (by rw [← this]; exact List.mem_map_of_mem hr)
    · exact ih _ hn.2 (fun r hr => h0 r (List.mem_cons_of_mem _ hr)) hp
/-- Whichever is first. -/
theorem layS_comm {X Y : List (Int × List B8)} (S : Nat → List B8) (h : ∀ p ∈ X, ∀ q ∈ Y, p.1.toNat ≠ q.1.toNat) (k : Nat) : layS (layS S X) Y k = layS (layS S Y) X k := by
  by_cases hx : ∃ p ∈ X, p.1.toNat = k
  · obtain ⟨p, hp, rfl⟩ := hx
    rw [layS_off _ Y _ (fun q hq => (h p hp q hq).symm)]
    exact layS_on _ X _ _ (.inr ⟨p, hp, rfl⟩)
  · rw [layS_off k X (layS S Y) (fun p hp e => hx ⟨p, hp, e⟩)]
    exact layS_on k Y _ _ (.inl (layS_off k X S (fun p hp e => hx ⟨p, hp, e⟩)))
theorem layS_data (S : Nat → List B8) : ∀ (ws : List (Int × List B8)), dv (layS S (dataOf 24 ws)) = layS (dv S) ws := by
  intro ws
  induction ws generalizing S with
  | nil => rfl
  | cons p ws ih =>
    have e : dataOf 24 (p :: ws) = ((((1 + 24 + p.1.toNat : Nat) : Int), p.2)) :: dataOf 24 ws := rfl
    rw [e, layS_cons, layS_cons, ih]
    congr 1
    funext k
    unfold dv upd
    show (if 25 + k = ((1 + 24 + p.1.toNat : Nat) : Int).toNat then _ else _) = _
    by_cases hk : k = p.1.toNat
    · rw [if_pos (by omega), if_pos hk]
    · rw [if_neg (by omega), if_neg hk]
theorem behind_data (ks : List B32) (num m : Nat) (S : Nat → List B8) (ws : List (Int × List B8)) (hm : ws.length ≤ 12) : dv (behind ks 24 num m S ws) = layS (dv S) ws := by
  have e : dv (behind ks 24 num m S ws) = dv (layS (layS S (jrnOf num m (digOf ks num ws) ws)) (dataOf 24 ws)) := by
    funext k
    unfold dv behind upd
    rw [if_neg (by omega)]
  rw [e, layS_data]
  congr 1
  funext k
  unfold dv
  refine layS_off _ _ _ fun p hp => ?_
  obtain ⟨i, q, hq, rfl | rfl⟩ := jrnOf_mem hp
  · have := (List.getElem?_eq_some_iff.1 hq).1
    show ((1 + 2 * i : Nat) : Int).toNat ≠ _
    omega
  · have := (List.getElem?_eq_some_iff.1 hq).1
    show ((1 + 2 * i + 1 : Nat) : Int).toNat ≠ _
    omega

/-- A log at rest, on a disk of 37 sectors, with a journal of 24; so many writes, flushes and transactions at most. -/
def One (B : Nat) (w : World) (D L G : Nat) (S : Nat → List B8) (c : Nat) : Prop :=
  ∃ cw cf dn, cw ≤ c ∧ cf ≤ c ∧ dn ≤ c ∧ Idle B D L 37 S cw cf w ∧ Blk w G 126 (logCells D 24 (1, 0) dn false) ∧ B ≤ G
theorem One.stp {B C : Nat} {w w' : World} {D L G c : Nat} {S : Nat → List B8} {X : List Nat} (h : One B w D L G S c) (hs : Stp C X w w') (hD : D ∉ X) (hL : L ∉ X) (hG : G ∉ X) : One B w' D L G S c := by
  obtain ⟨cw, cf, dn, h1, h2, h3, h4, h5, h6⟩ := h
  exact ⟨cw, cf, dn, h1, h2, h3, h4.stp hs hD hL, hs.keep G _ _ (by decide) hG h5, h6⟩
theorem One.below {B : Nat} {w w' : World} {D L G c : Nat} {S : Nat → List B8} (h : One B w D L G S c) (hs : Below w.heap.size w w') : One B w' D L G S c :=
  h.stp (X := []) (Stp.of_below (Nat.le_refl _) hs) (by simp) (by simp) (by simp)

theorem commit_one (ks : List B32) {B : Nat} {w : World} {D L G c : Nat} {S : Nat → List B8} {A : Nat → Prop} {P : Option Addr} {m cc : Nat} {ws : List (Int × List B8)} (h : One B w D L G S c) (hB : B ≤ w.heap.size) (hK : Roots ks w) (hKB : 1 < B)
    (hw : Wrs A w (.slice P m cc) ws) (hA : ∀ g, A g → g ∉ [D, L, G]) (hr : Right 12 ws) (hm : m ≤ 10) (hc : c ≤ 500000) :
    Calls Tryz.prog 22 #[.pointer (some ⟨G, 0, none⟩), .slice P m cc] w fun e w' => e = .returned (.int .i64 0) ∧ ∃ S', One B w' D L G S' (c + 31) ∧ dv S' = layS (dv S) ws ∧ Stp B [D, L, G] w w' := by
  obtain ⟨cw, cf, dn, h1, h2, h3, h4, h5, h6⟩ := h
  have hlen := hw.len
  by_cases hm0 : m = 0
  · subst hm0
    obtain rfl : ws = [] := List.eq_nil_of_length_eq_zero hlen
    refine (commit_none h4 h5 hw (by omega) (by omega)).mono ?_
    rintro e w' ⟨rfl, hW⟩
    exact ⟨rfl, S, ⟨cw, cf, dn, by omega, by omega, by omega, h4.below hW, h5.below hW h5.lt, h6⟩, rfl, Stp.of_below hB hW⟩
  · refine (commit_ok ks h4 hB hK hKB h6 h5 hw hA hr (by omega) (by omega) (by omega) (by omega) (by omega) (by omega) (by omega)).mono ?_
    rintro e w' ⟨rfl, hI, hG, hS⟩
    exact ⟨rfl, _, ⟨_, _, _, by omega, by omega, by omega, hI, hG, h6⟩, behind_data ks _ _ S ws (by omega), hS⟩

theorem read_one {B : Nat} {w : World} {D L G c : Nat} {S : Nat → List B8} (h : One B w D L G S c) (k : Nat) (hk : k < 12) :
    Calls Tryz.prog 23 #[.pointer (some ⟨G, 0, none⟩), .int .i64 k] w fun e w' => ∃ v, e = .returned (.tuple #[v, .int .i64 0]) ∧ Bts (fun g => w.heap.size ≤ g) w' v (dv S k) ∧ Below w.heap.size w w' := by
  obtain ⟨cw, cf, dn, h1, h2, h3, h4, h5, h6⟩ := h
  have := jread_any h4 h5 (by omega) k (by omega)
  rw [show 1 + 24 + k = 25 + k by omega] at this
  exact this
theorem One.sec {B : Nat} {w : World} {D L G c : Nat} {S : Nat → List B8} (h : One B w D L G S c) {k : Nat} (hk : k < 12) : (dv S k).length = 64 := by
  obtain ⟨cw, cf, dn, h1, h2, h3, h4, h5, h6⟩ := h
  exact h4.sec (by omega)
def all12 (T : Nat → List B8) : List B8 := ((List.range 12).map T).flatten
theorem all12_length {T : Nat → List B8} (h : ∀ k, k < 12 → (T k).length = 64) : (all12 T).length = 768 := by
  unfold all12
  rw [List.length_flatten, List.map_map]
  have e : (List.range 12).map (List.length ∘ T) = (List.range 12).map fun _ => 64 := List.map_congr_left fun k hk => h k (List.mem_range.1 hk)
  rw [e]
  rfl
theorem data_one {B : Nat} {w : World} {D L G c : Nat} {S : Nat → List B8} (h : One B w D L G S c) :
    Calls Tryz.prog 18 #[.pointer (some ⟨G, 0, none⟩)] w fun e w' => ∃ Q k, e = .returned (.slice Q 768 k) ∧ Bts (fun g => w.heap.size ≤ g) w' (.slice Q 768 k) (all12 (dv S)) ∧ Below w.heap.size w w' := by
  have hl := all12_length fun k hk => h.sec hk
  obtain ⟨cw, cf, dn, h1, h2, h3, h4, h5, h6⟩ := h
  have h := data_of h4 h5 (by omega) (by omega)
  have e : dataS S 24 (37 - 24 - 1) = all12 (dv S) := by
    unfold dataS all12 dv
    rfl
  rw [e] at h
  refine h.mono ?_
  rintro e w' ⟨v, rfl, hv, hW⟩
  obtain ⟨Q, k, rfl, _, _⟩ := hv.form
  rw [hl] at hv ⊢
  exact ⟨Q, k, rfl, hv, hW⟩

/-- Two of them, and where they are kept. -/
structure Pair (B : Nat) (w : World) (a L0 D0 G0 L1 D1 G1 : Nat) (S0 S1 : Nat → List B8) (c : Nat) : Prop where
  one : One B w D0 L0 G0 S0 c
  two : One B w D1 L1 G1 S1 c
  arr : Blk w a 49 [.pointer (some ⟨G0, 0, none⟩), .pointer (some ⟨G1, 0, none⟩)]
  ord : B ≤ a ∧ a < L0 ∧ L0 < D0 ∧ D0 < G0 ∧ G0 < L1 ∧ L1 < D1 ∧ D1 < G1
section
variable {B : Nat} {w w' : World} {a L0 D0 G0 L1 D1 G1 c c' : Nat} {S0 S1 S' : Nat → List B8}
theorem Pair.below (h : Pair B w a L0 D0 G0 L1 D1 G1 S0 S1 c) (hb : Below w.heap.size w w') : Pair B w' a L0 D0 G0 L1 D1 G1 S0 S1 c := ⟨h.one.below hb, h.two.below hb, h.arr.below hb h.arr.lt, h.ord⟩
theorem One.more {D L G : Nat} {S : Nat → List B8} (h : One B w D L G S c) (hc : c ≤ c') : One B w D L G S c' := by
  obtain ⟨cw, cf, dn, h1, h2, h3, h⟩ := h
  exact ⟨cw, cf, dn, by omega, by omega, by omega, h⟩
theorem Pair.first (h : Pair B w a L0 D0 G0 L1 D1 G1 S0 S1 c) (h1 : One B w' D0 L0 G0 S' c') (hc : c ≤ c') (hs : Stp B [D0, L0, G0] w w') : Pair B w' a L0 D0 G0 L1 D1 G1 S' S1 c' := by
  have ho := h.ord
  exact ⟨h1, (h.two.stp hs (by simp; omega) (by simp; omega) (by simp; omega)).more hc, hs.keep a _ _ (by decide) (by simp; omega) h.arr, ho⟩
theorem Pair.second (h : Pair B w a L0 D0 G0 L1 D1 G1 S0 S1 c) (h1 : One B w' D1 L1 G1 S' c') (hc : c ≤ c') (hs : Stp B [D1, L1, G1] w w') : Pair B w' a L0 D0 G0 L1 D1 G1 S0 S' c' := by
  have ho := h.ord
  exact ⟨(h.one.stp hs (by simp; omega) (by simp; omega) (by simp; omega)).more hc, h1, hs.keep a _ _ (by decide) (by simp; omega) h.arr, ho⟩
end
end Go.Proofs.YtfkdpndcoegfpaaGreatDoor
end

/-
  The document's Lay: data with writes laid in. Conditions: the data and the writes are known; the writes are to sectors that are there, bytes of a sector.
-/

section
set_option maxRecDepth 100000
set_option linter.unusedSimpArgs false
set_option linter.unusedVariables false
namespace Go.Proofs.YtfkdpndcoegfpaaGreatDoor
open Go.RowKit

/-- Bytes with the first k of others laid in from a place on. -/
def setN (xs : List B8) (off : Nat) (b : List B8) : Nat → List B8
  | 0 => xs
  | k + 1 => (setN xs off b k).set (off + k) (b.getD k 0)
theorem setN_length (xs : List B8) (off : Nat) (b : List B8) : ∀ k, (setN xs off b k).length = xs.length
  | 0 => rfl
  | k + 1 => by unfold setN; rw [List.length_set, setN_length xs off b k]
theorem setN_get (xs : List B8) (off : Nat) (b : List B8) : ∀ k, k ≤ b.length → off + k ≤ xs.length → ∀ i, (setN xs off b k)[i]? = if off ≤ i ∧ i < off + k then b[i - off]? else xs[i]?
  | 0, _, _, i => by
    unfold setN
    rw [if_neg (by omega)]
  | k + 1, hb, hx, i => by
    unfold setN
    rw [List.getElem?_set]
    by_cases h : off + k = i
    · subst h
      rw [if_pos rfl, if_pos (by rw [setN_length]; omega), if_pos (by omega), show off + k - off = k by omega, List.getD_eq_getElem?_getD, List.getElem?_eq_getElem (by omega)]
      rfl
    · rw [if_neg h, setN_get xs off b k (by omega) (by omega) i]
      by_cases h2 : off ≤ i ∧ i < off + k
      · rw [if_pos h2, if_pos (by omega)]
      · rw [if_neg h2, if_neg (by omega)]
def layB (xs : List B8) (ws : List (Int × List B8)) : List B8 := ws.foldl (fun xs p => setN xs (64 * p.1.toNat) p.2 64) xs
theorem layB_cons (xs : List B8) (p : Int × List B8) (ws : List (Int × List B8)) : layB xs (p :: ws) = layB (setN xs (64 * p.1.toNat) p.2 64) ws := by unfold layB; rw [List.foldl_cons]
theorem layB_snoc (xs : List B8) (ws : List (Int × List B8)) (p : Int × List B8) : layB xs (ws ++ [p]) = setN (layB xs ws) (64 * p.1.toNat) p.2 64 := by unfold layB; rw [List.foldl_append, List.foldl_cons, List.foldl_nil]
theorem layB_length (xs : List B8) (ws : List (Int × List B8)) : (layB xs ws).length = xs.length := by
  induction ws generalizing xs with
  | nil => rfl
  | cons p ws ih =>
    rw [layB_cons, ih, setN_length]
theorem dataS_get {S : Nat → List B8} {j : Nat} : ∀ {d : Nat}, (∀ k, k < d → (S (1 + j + k)).length = 64) → ∀ i, i < 64 * d → (dataS S j d)[i]? = (S (1 + j + i / 64))[i % 64]?
  | 0, _, i, hi => by omega
  | d + 1, h, i, hi => by
    rw [dataS_succ]
    have hl := dataS_length (S := S) (j := j) (k := d) (fun k hk => h k (by omega))
    by_cases h2 : i < 64 * d
    · rw [List.getElem?_append_left (by omega), dataS_get (fun k hk => h k (by omega)) i h2]
    · rw [List.getElem?_append_right (by omega), hl, show i / 64 = d by omega, show i % 64 = i - 64 * d by omega]
theorem lay_one {S : Nat → List B8} {j d no : Nat} {b : List B8} (h : ∀ k, k < d → (S (1 + j + k)).length = 64) (hno : no < d) (hb : b.length = 64) : setN (dataS S j d) (64 * no) b 64 = dataS (upd S (1 + j + no) b) j d := by
  have hl := dataS_length (S := S) (j := j) (k := d) h
  have h' : ∀ k, k < d → (upd S (1 + j + no) b (1 + j + k)).length = 64 := by
    intro k hk
    unfold upd
    split
    · exact hb
    · exact h k hk
  have hl' := dataS_length (S := upd S (1 + j + no) b) (j := j) (k := d) h'
  apply List.ext_getElem?
  intro i
  rw [setN_get _ _ _ 64 (by omega) (by omega)]
  by_cases hi : i < 64 * d
  · rw [dataS_get h i hi, dataS_get h' i hi]
    unfold upd
    by_cases h2 : 64 * no ≤ i ∧ i < 64 * no + 64
    · rw [if_pos h2, if_pos (by omega), show i % 64 = i - 64 * no by omega]
    · rw [if_neg h2, if_neg (by omega)]
  · rw [if_neg (by omega), List.getElem?_eq_none (by omega), List.getElem?_eq_none (by omega)]
theorem lay_data {j d : Nat} : ∀ (ws : List (Int × List B8)) (S : Nat → List B8), (∀ k, k < d → (S (1 + j + k)).length = 64) → (∀ p ∈ ws, 0 ≤ p.1 ∧ p.1 < (d : Nat) ∧ p.2.length = 64) → layB (dataS S j d) ws = dataS (layS S (dataOf j ws)) j d
  | [], _, _, _ => rfl
  | p :: ws, S, h, hw => by
    obtain ⟨h1, h2, h3⟩ := hw p (List.mem_cons_self)
    rw [layB_cons, lay_one h (by omega) h3]
    have e : dataOf j (p :: ws) = ((((1 + j + p.1.toNat : Nat) : Int), p.2)) :: dataOf j ws := rfl
    rw [e, layS_cons, show (((1 + j + p.1.toNat : Nat) : Int)).toNat = 1 + j + p.1.toNat by omega]
    refine lay_data ws _ ?_ (fun q hq => hw q (List.mem_cons_of_mem _ hq))
    intro k hk
    unfold upd
    split
    · exact h3
    · exact h k hk
theorem own_set {N n k g cap : Nat} {w : World} {xs : List Value} (h : w.ownsRow N 5 1 (.slice (some ⟨g, 0, none⟩) n cap) n xs) (hk : k < n) (u : Value) : (w.setCell ⟨g, k, none⟩ u).ownsRow N 5 1 (.slice (some ⟨g, 0, none⟩) n cap) n (xs.set k u) := by
  obtain ⟨h1, h2⟩ := h
  refine ⟨by rw [List.length_set]; exact h1, ?_⟩
  rcases h2 with ⟨h, _⟩ | ⟨g', cap', cur, e, hb, hg, hc1, hc2, hcs, ht⟩
  · cases h
  · cases e
    refine .inr ⟨g, cap, cur.setIfInBounds k u, rfl, hb, ?_, hc1, hc2, by simpa using hcs, ?_⟩
    · simp [World.setCell, Array.getElem?_modify, hg]
    · rw [← ht]
      simp [List.take_set]

theorem own_at {N n k g cap : Nat} {w : World} {xs : List Value} (h : w.ownsRow N 5 1 (.slice (some ⟨g, 0, none⟩) n cap) n xs) (hk : k < n) : (∃ u, w.cell? ⟨g, k, none⟩ = some u) ∧ w.frozen? ⟨g, k, none⟩ = false := by
  obtain ⟨h1, h2⟩ := h
  rcases h2 with ⟨h, _⟩ | ⟨g', cap', cur, e, hb, hg, hc1, hc2, hcs, ht⟩
  · cases h
  · cases e
    have hb : Blk w g 5 cur.toList := by simpa [Blk] using hg
    exact ⟨⟨_, by rw [hb.cell, List.getElem?_eq_getElem (by simp; omega)]⟩, hb.frozen k⟩
theorem own_some {N n s : Nat} {e : TypeId} {w : World} {v : Value} {xs : List Value} (h : w.ownsRow N e s v n xs) (hn : 0 < n) : ∃ g cap, v = .slice (some ⟨g, 0, none⟩) n cap ∧ n ≤ cap ∧ cap ≤ 9223372036854775807 ∧ N ≤ g := by
  rcases h.2 with ⟨_, h0⟩ | ⟨g, cap, cur, rfl, hb, _, h1, h2, _⟩
  · omega
  · exact ⟨g, cap, rfl, h1, by unfold maxLen at h2; omega, hb⟩

set_option maxHeartbeats 4000000 in
theorem rlay_any (w : World) (A A' : Nat → Prop) (Q : Option Addr) (N c d : Nat) (xs : List B8) (P : Option Addr) (m c2 : Nat) (ws : List (Int × List B8)) (hx : Bts A w (.slice Q N c) xs) (hw : Rfs A' w (.slice P m c2) ws) (hN : N = 64 * d) (hd0 : 0 < d) (hd : d ≤ 4096)
    (hok : ∀ p ∈ ws, 0 ≤ p.1 ∧ p.1 < (d : Nat) ∧ p.2.length = 64) :
    Calls Tryz.prog 54 #[.slice Q N c, .slice P m c2] w fun e w' => ∃ v, e = .returned v ∧ w'.ownsRow w.heap.size 5 1 v N (Vb (layB xs ws)) ∧ Below w.heap.size w w' := by
  obtain ⟨i0, hi, hz0, hz1, hz2⟩ := info_parts (show (Tryz.prog.info? 5).map (fun i => (i.zero, i.size, i.bytes)) = some (some (.int .u8 0), 1, 1) by kernel_rfl)
  have HI := Lib.hid (And.intro hi (And.intro hz0 (And.intro hz1 hz2)))
  have hlen := hw.len
  have hxl := hx.cells.1
  obtain ⟨g, o, rfl, _, _, _⟩ := hx.cells.2 (by omega)
  have hmm : m ≤ 9223372036854775807 := by obtain ⟨P', c', e, h1, h2⟩ := hw.form; cases e; omega
  have H := Lib.hid (And.intro hx (And.intro hw (And.intro hok (And.intro hlen hxl))))
  have hN0 : 0 < N := by omega
  have hN1 : N ≤ 262144 := by omega
  have HN := Lib.hid hN
  clear hx hw hok hlen hxl hi hz0 hz1 hz2 hN
  go_enter Tryz.func54, Tryz.ntmps54
  go_wp2_with (at_builtin; refine wpList_append_own _ rfl (.tmp 8) (.tmp 9) 22 rfl w.heap.size 5 i0 (.int .u8 0) 1 1 Tryz.underlying22 HI.out.1 HI.out.2.1 HI.out.2.2.1 HI.out.2.2.2 rfl (by decide) (.slice (some ⟨w.heap.size, 0, none⟩) 0 0) 0 [] rfl (made_empty w w (Nat.le_refl _)) ⟨g, o, none⟩ N c (Vb xs) rfl (by rw [Vb_length, Nat.mul_one]; exact H.out.2.2.2.2) ((H.out.1.below (new_below w _)).row) (Vb_oneCell _) (by unfold maxLen; omega) (by omega) (by simp) ?_; intro v1 w1 ho1 hg1 _; obtain ⟨go, cv, rfl, hcv1, hcv2, hgo⟩ := own_some ho1 (by omega); have H1 := Lib.hid (And.intro ho1 (empty_grown hg1)); clear ho1 hg1)
  have hown1 : w1.ownsRow w.heap.size 5 1 (.slice (some ⟨go, 0, none⟩) N cv) N (Vb xs) := by
    have h := H1.out.1
    rw [List.nil_append, Nat.zero_add] at h
    exact h
  have H2 := Lib.hid hown1
  clear hown1
  go_loopw [6] (fun iv wx => ∃ i : Nat, i ≤ m ∧ iv = .int .i64 i ∧ wx.ownsRow w.heap.size 5 1 (.slice (some ⟨go, 0, none⟩) N cv) N (Vb (layB xs (ws.take i))) ∧ Below w.heap.size w wx) (fun iv _ => m - (intOf iv).toNat)
  case atStart => exact ⟨0, Nat.zero_le _, rfl, by rw [List.take_zero]; exact H2.out, H1.out.2⟩
  case round =>
    obtain ⟨i, hi, rfl, hown, hbel⟩ := hrel
    by_cases hlt : i < m
    · obtain ⟨p, hp⟩ : ∃ p, ws[i]? = some p := ⟨_, List.getElem?_eq_getElem (by have := H.out.2.2.2.1; omega)⟩
      obtain ⟨hp1, hp2, hp3⟩ := H.out.2.2.1 p (List.mem_of_getElem? hp)
      obtain ⟨q, hq⟩ : ∃ q : Nat, p.1 = q := ⟨p.1.toNat, by omega⟩
      have hqd : q < d := by omega
      have HR := Lib.hid (And.intro hown (And.intro hbel (And.intro hp (And.intro hp3 hq))))
      clear hown hbel hp hp1 hp2 hp3 hq
      go_wp2_with fail
      go_loopw [7] (fun iv wx => ∃ k : Nat, k ≤ 64 ∧ iv = .int .i64 k ∧ wx.ownsRow w.heap.size 5 1 (.slice (some ⟨go, 0, none⟩) N cv) N (Vb (setN (layB xs (ws.take i)) (64 * q) p.2 k)) ∧ Below w.heap.size w wx) (fun iv _ => 64 - (intOf iv).toNat)
      case atStart => exact ⟨0, Nat.zero_le _, rfl, HR.out.1, HR.out.2.1⟩
      case round =>
        obtain ⟨k, hk, rfl, hown, hbel⟩ := hrel
        by_cases hkt : k < 64
        · obtain ⟨g2, Q2, m2, k2, rfl, hg2, hAg, c0, c1, hl2, hbt, hmk, hkk⟩ := (H.out.2.1.below hbel).at_ HR.out.2.2.1
          rw [HR.out.2.2.2.2] at c0
          have hm64 : m2 = 64 := by rw [← hl2]; exact HR.out.2.2.2.1
          subst hm64
          obtain ⟨g3, o3, rfl, _, _, hc3⟩ := hbt.cells.2 (by omega)
          have c3 := hc3 k (.int .u8 (nb (p.2.getD k 0))) (by rw [Vb_get, List.getD_eq_getElem?_getD, List.getElem?_eq_getElem (by omega)]; rfl)
          obtain ⟨e, he⟩ : ∃ e : Nat, 64 * q + k = e := ⟨_, rfl⟩
          have hei : (64 : Int) * (q : Int) + (k : Int) = (e : Int) := by omega
          have heN : e < N := by have := HN.out; omega
          obtain ⟨⟨u, e1⟩, f1⟩ := own_at hown heN
          have HK := Lib.hid (And.intro hown (And.intro hbel he))
          have hmul : IntKind.i64.wrap ((64 : Int) * (q : Int)) = 64 * q := IntWalk.i64_in _ (by omega)
          clear hown hbel hbt hc3 he hl2
          go_wp2_with fail
          go_region
          go_wp2_with fail
          go_roundw
          case rel =>
            refine ⟨k + 1, by omega, by go_num, ?_, HK.out.2.1.drew.setCell (p := ⟨go, e, none⟩) hgo _⟩
            rw [show setN (layB xs (ws.take i)) (64 * q) p.2 (k + 1) = (setN (layB xs (ws.take i)) (64 * q) p.2 k).set (64 * q + k) (p.2.getD k 0) from rfl, HK.out.2.2]
            have h := own_set (HK.out.1.drew) heN (.int .u8 (nb (p.2.getD k 0)))
            have e2 : (Vb (setN (layB xs (ws.take i)) (64 * q) p.2 k)).set e (.int .u8 (nb (p.2.getD k 0))) = Vb ((setN (layB xs (ws.take i)) (64 * q) p.2 k).set e (p.2.getD k 0)) := by
              unfold Vb
              rw [List.map_set]
            rw [e2] at h
            exact h
          case measure => simp [intOf]; omega
        · obtain rfl : k = 64 := by omega
          have HK := Lib.hid (And.intro hown hbel)
          clear hown hbel
          go_wp2_with fail
          go_roundw
          case rel =>
            refine ⟨i + 1, by omega, by go_num, ?_, HK.out.2⟩
            rw [take_snoc_ HR.out.2.2.1, layB_snoc, show p.1.toNat = q by have := HR.out.2.2.2.2; omega]
            exact HK.out.1
          case measure => simp [intOf]; omega
    · obtain rfl : i = m := by omega
      rw [List.take_of_length_le (by have := H.out.2.2.2.1; omega)] at hown
      have HE := Lib.hid (And.intro hown hbel)
      clear hown hbel
      go_wp2_with fail
      go_ret
      exact ⟨.slice (some ⟨go, 0, none⟩) N cv, rfl, HE.out.1, HE.out.2⟩
end Go.Proofs.YtfkdpndcoegfpaaGreatDoor
end

/-
  The document's table, and its full, of at most 64 bytes. Condition: the bytes are known.
-/

section
set_option maxRecDepth 100000
set_option linter.unusedSimpArgs false
set_option linter.unusedVariables false
namespace Go.Proofs.YtfkdpndcoegfpaaGreatDoor
open Go.RowKit

def Tbl : List Value := Wi start8.list ++ Wi Ks
theorem Tbl_length : Tbl.length = 72 := by simp [Tbl, Wi_length, S8.list, Ks, rootsZ]
theorem make_tbl (w : World) : Calls Tryz.prog 13 #[] w fun e w' => e = .returned (.agg Tbl.toArray) ∧ Below w.heap.size w w' := make_any w
theorem sum_tbl (w : World) (A : Option Addr) (n c : Nat) (bs : List B8) (ht : TxtN w w.heap.size A n c bs) (hn : n ≤ 4000) :
    Calls Tryz.prog 138 #[.agg Tbl.toArray, .slice A n c] w fun e w' => e = .returned (.agg (Vb (sha Ks bs)).toArray) ∧ Below w.heap.size w w' := refsum_any w A n c bs ht.txt hn
theorem rfull_pad (w : World) (A : Nat → Prop) (P : Option Addr) (n c : Nat) (xs : List B8) (hx : Bts A w (.slice P n c) xs) (hn : n ≤ 64) :
    Calls Tryz.prog 140 #[.slice P n c] w fun e w' => e = .returned (.slice (some ⟨w.heap.size, 0, none⟩) 64 64) ∧ Blk w' w.heap.size 5 (Vb (pad64 xs)) ∧ Below w.heap.size w w' := by
  have hl := hx.cells.1
  have h := rfull_walk w P n c (xs.map nb) (by rw [List.length_map]; exact hl) (by omega) hx.bytesAt
  have e : U (full (xs.map nb)) = Vb (pad64 xs) := by
    rw [← U_Vb]
    congr 1
    unfold full pad64
    rw [List.length_map, List.take_of_length_le (by rw [List.length_map]; omega), List.map_append, List.map_replicate, show nb (0 : B8) = 0 by unfold nb; rfl]
  rw [e] at h
  exact h

end Go.Proofs.YtfkdpndcoegfpaaGreatDoor
end

/-
  The document's table where it lies: what a load of it answers, as a rule on a whole operation. No condition but that it lies there.
-/

section
set_option maxRecDepth 100000
set_option linter.unusedSimpArgs false
set_option linter.unusedVariables false
namespace Go.Proofs.YtfkdpndcoegfpaaGreatDoor
open Go.RowKit

/-- A pointer to the document's table. -/
def TblV (W : World) (v : Value) : Prop := ∃ b, v = .pointer (some ⟨b, 0, none⟩) ∧ Blk W b 38 Tbl
theorem TblV.below {w w' : World} {v : Value} (h : TblV w v) (hb : Below w.heap.size w w') : TblV w' v := by
  obtain ⟨b, e, hk⟩ := h
  exact ⟨b, e, hk.below hb hk.lt⟩
theorem TblV.drew {w : World} {v : Value} (h : TblV w v) : TblV w.drew v := h.below (drew_below w)
theorem TblV.of_drew {w w' : World} {v : Value} (h : TblV w v) (hb : Below w.drew.heap.size w.drew w') : TblV w' v := TblV.below (w := w.drew) h.drew hb
theorem TblV.new (w : World) : TblV (w.alloc (.cells Tbl.toArray 38)) (.pointer (some ⟨w.heap.size, 0, none⟩)) := ⟨_, rfl, Blk.new w _ Tbl⟩
theorem tblInfo : (Tryz.prog.info? 38).map (·.size) = some Tbl.length := by rw [Tbl_length]; kernel_rfl
section
variable (ρ : Operand → Value) (d : Option Tmp) (t : TypeId) (p : String) (af : Array Edge) (gd : Option (Nat × Bool)) (W : World)
theorem exec_loadTbl (x : Operand) (h : TblV W (ρ x)) :
    (execOp ρ ⟨d, .load 38 x, t, p, af, gd⟩).run Tryz.prog W = .ok (.value (.agg Tbl.toArray)) W := by
  obtain ⟨b, hv, hk⟩ := h
  simp only [execOp, hv, Sem.run_bind, run_loadAt_mid W b 0 _ Tbl _ hk.range Tryz.underlying38 rfl tblInfo, Result.andThen_ok, Sem.run_pure]
end
/-- The same, of a digest's 32 bytes. -/
def is32 (W : World) (v : Value) : Prop := ∃ b cs, v = .pointer (some ⟨b, 0, none⟩) ∧ Blk W b 184 cs ∧ cs.length = 32
def rd32 (W : World) (v : Value) : List Value :=
  match v with
  | .pointer (some a) => (List.range 32).map fun i => (W.cell? (a.add i)).getD undef
  | _ => []
theorem rd32_blk {W : World} {b : Nat} {cs : List Value} (hb : Blk W b 184 cs) (hc : cs.length = 32) : is32 W (.pointer (some ⟨b, 0, none⟩)) ∧ rd32 W (.pointer (some ⟨b, 0, none⟩)) = cs := by
  refine ⟨⟨b, cs, rfl, hb, hc⟩, ?_⟩
  apply List.ext_getElem?
  intro k
  unfold rd32
  simp only [List.getElem?_map]
  by_cases hk : k < 32
  · rw [List.getElem?_range hk, Option.map_some, Addr.add_mid, Nat.zero_add, hb.cell, List.getElem?_eq_getElem (by omega)]
    rfl
  · rw [List.getElem?_eq_none (by simp; omega), List.getElem?_eq_none (by omega)]
    rfl
section
variable (ρ : Operand → Value) (d : Option Tmp) (t : TypeId) (p : String) (af : Array Edge) (gd : Option (Nat × Bool)) (W : World)
theorem exec_load32 (x : Operand) (h : is32 W (ρ x)) :
    (execOp ρ ⟨d, .load 184 x, t, p, af, gd⟩).run Tryz.prog W = .ok (.value (.agg (rd32 W (ρ x)).toArray)) W := by
  obtain ⟨b, cs, hv, hk, hc⟩ := h
  rw [hv, (rd32_blk hk hc).2]
  simp only [execOp, hv, Sem.run_bind, run_loadAt_mid W b 0 _ cs _ hk.range Tryz.underlying184 rfl (info31.trans (by rw [hc])), Result.andThen_ok, Sem.run_pure]
end
theorem there_set {w : World} {g t : Nat} {cs vs : List Value} (hb : Blk w g t cs) (hl : vs.length = cs.length) : Blk (w.setCells g 0 vs) g t vs := by
  have h := hb.setCells vs 0 (by omega)
  rw [over_whole hl] at h
  exact h
theorem set_below {B : Nat} {w : World} {g o : Nat} {vs : List Value} (hg : B ≤ g) (hB : B ≤ w.heap.size) : Below B w (w.setCells g o vs) :=
  (Only.setCells vs g o (Only.refl _ _) (S := [g]) (.inl (by simp))).below hB (by simpa using hg)
theorem frames_len (num : Nat) (ws : List (Int × List B8)) (h : ∀ p ∈ ws, p.2.length = 64) : (framesOf (txtsOf num ws)).length = 20 + 76 * ws.length := by
  have e : ∀ ws : List (Int × List B8), (∀ p ∈ ws, p.2.length = 64) → (framesOf (ws.flatMap fun p => [big 4 p.1.toNat, p.2])).length = 76 * ws.length := by
    intro ws
    induction ws with
    | nil => intro _; rfl
    | cons p ws ih =>
      intro h
      have h1 := ih (fun q hq => h q (List.mem_cons_of_mem _ hq))
      have h2 := h p (List.mem_cons_self)
      unfold framesOf at h1 ⊢
      simp [fr_big, big_length] at h1 ⊢
      omega
  have h1 := e ws h
  unfold txtsOf framesOf at *
  simp [fr_big, big_length] at h1 ⊢
  omega
theorem TblV.set {w : World} {b g : Nat} {vs : List Value} (h : TblV w (.pointer (some ⟨b, 0, none⟩))) (hne : b ≠ g) : TblV (w.setCells g 0 vs) (.pointer (some ⟨b, 0, none⟩)) := by
  obtain ⟨b', e, hk⟩ := h
  cases e
  exact ⟨_, rfl, hk.only (Only.setCells vs g 0 (Only.refl _ _) (S := [g]) (.inl (by simp))) (by simpa using hne)⟩
theorem Rfs.blk {A : Nat → Prop} {w : World} {g n c : Nat} {ws : List (Int × List B8)} (h : Rfs A w (.slice (some ⟨g, 0, none⟩) n c) ws) : ∃ cs, Blk w g 52 cs := by
  rcases h with ⟨e, _⟩ | ⟨g', cap, cs, e, _, hb, _⟩
  · cases e
  · cases e
    exact ⟨cs, hb⟩
end Go.Proofs.YtfkdpndcoegfpaaGreatDoor
end

/-
  The document's Note. Conditions: the numbers aren't below 0; the digest has 32 bytes.
-/

section
set_option maxRecDepth 100000
set_option linter.unusedSimpArgs false
set_option linter.unusedVariables false
namespace Go.Proofs.YtfkdpndcoegfpaaGreatDoor
open Go.RowKit

theorem own_bts {N g n : Nat} {w : World} {xs : List B8} (hb : Blk w g 5 (Vb xs)) (hN : N ≤ g) (hn : xs.length = n) (hm : n ≤ 1000000) : w.ownsRow N 5 1 (.slice (some ⟨g, 0, none⟩) n n) n (Vb xs) := by
  refine ⟨by rw [Vb_length, Nat.mul_one]; exact hn, .inr ⟨g, n, (Vb xs).toArray, rfl, hN, hb, Nat.le_refl _, by unfold maxLen; omega, by simp [Vb_length, hn], ?_⟩⟩
  rw [List.take_of_length_le (by simp [Vb_length, hn])]

set_option maxHeartbeats 4000000 in
theorem rnote_any (w : World) (num place cnt no : Nat) (d : List B8) (hd : d.length = 32) (h1 : num ≤ 9223372036854775807) (h2 : place ≤ 9223372036854775807) (h3 : cnt ≤ 9223372036854775807) (h4 : no ≤ 9223372036854775807) :
    Calls Tryz.prog 99 #[.int .i64 num, .int .i64 place, .int .i64 cnt, .int .i64 no, .agg (Vb d).toArray] w fun e w' => ∃ g, e = .returned (.slice (some ⟨g, 0, none⟩) 64 64) ∧ w.heap.size ≤ g ∧ Blk w' g 5 (Vb (noteB num place cnt no d)) ∧ Below w.heap.size w w' := by
  obtain ⟨i0, hi, hz0, hz1, hz2⟩ := info_parts (show (Tryz.prog.info? 5).map (fun i => (i.zero, i.size, i.bytes)) = some (some (.int .u8 0), 1, 1) by kernel_rfl)
  have HI := Lib.hid (And.intro hi (And.intro hz0 (And.intro hz1 hz2)))
  have hs32 := slice32
  have hb0 := new_below w (.cells (Vb d).toArray 184)
  have hk0 := Blk.new w 184 (Vb d)
  have H0 := Lib.hid (And.intro hb0 (And.intro hk0 hd))
  clear hb0 hk0 hd hi hz0 hz1 hz2
  go_enter Tryz.func99, Tryz.ntmps99
  have hszw : (w.alloc (.cells (Vb d).toArray 184)).heap.size = w.heap.size + 1 := by simp
  go_wp2_with fail
  refine (rbig_any _ num 8 h1 (by omega)).mono ?_
  rintro e w1 ⟨rfl, hB, hW⟩
  rw [hszw] at hB hW
  have hs1 := hW.size
  rw [hszw] at hs1
  have H1 := Lib.hid (And.intro hB hW)
  clear hB hW
  go_wp2_with fail
  refine (rbig_any _ place 4 h2 (by omega)).mono ?_
  rintro e w2 ⟨rfl, hB, hW⟩
  have H2 := Lib.hid (And.intro (H1.out.1.below hW H1.out.1.lt) (And.intro hB (H1.out.2.trans (hW.mono (by omega)))))
  have hs2 := hW.size
  have hl1 := H1.out.1.lt
  clear hB hW
  go_wp2_with (at_builtin; refine wpList_append_own _ rfl (.tmp 13) (.tmp 15) 22 rfl (w.heap.size + 1) 5 i0 (.int .u8 0) 1 1 Tryz.underlying22 HI.out.1 HI.out.2.1 HI.out.2.2.1 HI.out.2.2.2 rfl (by decide) _ 8 _ rfl (own_bts (N := w.heap.size + 1) H2.out.1 (Nat.le_refl _) (big_length _ _) (by omega)) ⟨w1.heap.size, 0, none⟩ 4 4 (Vb (big 4 place)) rfl (by rw [Vb_length]; first | exact big_length _ _ | exact H0.out.2.2) (Bts.whole (A := fun _ => True) H2.out.2.1 (.inl rfl) trivial (big_length _ _) (by omega)).row (Vb_oneCell _) (by unfold maxLen; omega) (by omega) (by omega) ?_; intro v3 w3 ho hg _; obtain ⟨g3, c3, rfl, hc3, hd3, he3⟩ := own_some ho (by omega); have hb := (H2.out.2.2).grown hg (by omega) (fun q hq => own_ge (own_bts (N := w.heap.size + 1) H2.out.1 (Nat.le_refl _) (big_length _ _) (by omega)) q hq); have H3 := Lib.hid (And.intro ho hb); have hs3 := hb.size; clear ho hg hb)
  refine (rbig_any _ cnt 4 h3 (by omega)).mono ?_
  rintro e w4 ⟨rfl, hB, hW⟩
  have H4 := Lib.hid (And.intro (own_below H3.out.1 hW) (And.intro hB (H3.out.2.trans (hW.mono (by omega)))))
  have hs4 := hW.size
  clear hB hW
  go_wp2_with (at_builtin; refine wpList_append_own _ rfl (.tmp 17) (.tmp 19) 22 rfl (w.heap.size + 1) 5 i0 (.int .u8 0) 1 1 Tryz.underlying22 HI.out.1 HI.out.2.1 HI.out.2.2.1 HI.out.2.2.2 rfl (by decide) _ _ _ rfl (H4.out.1) ⟨w3.heap.size, 0, none⟩ 4 4 (Vb (big 4 cnt)) rfl (by rw [Vb_length]; first | exact big_length _ _ | exact H0.out.2.2) (Bts.whole (A := fun _ => True) H4.out.2.1 (.inl rfl) trivial (big_length _ _) (by omega)).row (Vb_oneCell _) (by unfold maxLen; omega) (by omega) (by omega) ?_; intro v5 w5 ho hg _; obtain ⟨g5, c5, rfl, hc5, hd5, he5⟩ := own_some ho (by omega); have hb := (H4.out.2.2).grown hg (by omega) (fun q hq => own_ge (H4.out.1) q hq); have H5 := Lib.hid (And.intro ho hb); have hs5 := hb.size; clear ho hg hb)
  refine (rbig_any _ no 4 h4 (by omega)).mono ?_
  rintro e w6 ⟨rfl, hB, hW⟩
  have H6 := Lib.hid (And.intro (own_below H5.out.1 hW) (And.intro hB (H5.out.2.trans (hW.mono (by omega)))))
  have hs6 := hW.size
  clear hB hW
  go_wp2_with (first
    | (at_builtin; refine wpList_append_own _ rfl (.tmp 20) (.tmp 22) 22 rfl (w.heap.size + 1) 5 i0 (.int .u8 0) 1 1 Tryz.underlying22 HI.out.1 HI.out.2.1 HI.out.2.2.1 HI.out.2.2.2 rfl (by decide) _ _ _ rfl (H6.out.1) ⟨w5.heap.size, 0, none⟩ 4 4 (Vb (big 4 no)) rfl (by rw [Vb_length]; first | exact big_length _ _ | exact H0.out.2.2) (Bts.whole (A := fun _ => True) H6.out.2.1 (.inl rfl) trivial (big_length _ _) (by omega)).row (Vb_oneCell _) (by unfold maxLen; omega) (by omega) (by omega) ?_; intro v7 w7 ho hg _; obtain ⟨g7, c7, rfl, hc7, hd7, he7⟩ := own_some ho (by omega); have hb := (H6.out.2.2).grown hg (by omega) (fun q hq => own_ge (H6.out.1) q hq); have H7 := Lib.hid (And.intro ho hb); have hs7 := hb.size; clear ho hg hb)
    | (at_builtin; refine wpList_append_own _ rfl (.tmp 24) (.tmp 25) 22 rfl (w.heap.size + 1) 5 i0 (.int .u8 0) 1 1 Tryz.underlying22 HI.out.1 HI.out.2.1 HI.out.2.2.1 HI.out.2.2.2 rfl (by decide) _ _ _ rfl (H7.out.1) ⟨w.heap.size, 0, none⟩ 32 32 (Vb d) rfl (by rw [Vb_length]; first | exact big_length _ _ | exact H0.out.2.2) (Bts.whole (A := fun _ => True) (H0.out.2.1.below (H7.out.2.mono (by omega)) H0.out.2.1.lt) (.inr rfl) trivial H0.out.2.2 (by omega)).row (Vb_oneCell _) (by unfold maxLen; omega) (by omega) (by omega) ?_; intro v8 w8 ho hg _; obtain ⟨g8, c8, rfl, hc8, hd8, he8⟩ := own_some ho (by omega); have hb := (H7.out.2).grown hg (by omega) (fun q hq => own_ge (H7.out.1) q hq); have H8 := Lib.hid (And.intro ho hb); have hs8 := hb.size; clear ho hg hb))
  have ho : w8.ownsRow (w.heap.size + 1) 5 1 (.slice (some ⟨g8, 0, none⟩) 52 c8) 52 (Vb (big 8 num ++ (big 4 place ++ (big 4 cnt ++ (big 4 no ++ d))))) := by
    have h := H8.out.1
    simp only [← Vb_append, List.append_assoc] at h
    exact h
  have hl : (big 8 num ++ (big 4 place ++ (big 4 cnt ++ (big 4 no ++ d)))).length = 52 := by simp [big_length, H0.out.2.2]
  refine (rfull_pad _ _ _ _ _ _ (bts_len hl ho) (by omega)).mono ?_
  rintro e w9 ⟨rfl, hB, hW⟩
  have H9 := Lib.hid (And.intro hB (H8.out.2.trans (hW.mono (by omega))))
  clear hB hW ho hl
  go_wp2_with fail
  go_ret
  exact ⟨w8.heap.size, rfl, by omega, H9.out.1, H0.out.1.trans (H9.out.2.mono (by omega))⟩
end Go.Proofs.YtfkdpndcoegfpaaGreatDoor
end
