/-
  Two logs side by side: a commit to the one leaves the other. Conditions: the disks have power that never goes; the writes are right.
-/
import Derived.Test.YtbmflnnfnbepdaaGreatDoorM6
import Derived.Test.YtbmflnnfnbepdaaGreatDoorM3
import Derived.ProofKit
import Derived.Deep.Slices
import Derived.Test.YtbmflnnfnbepdaaGreatDoorM2
section
set_option maxRecDepth 100000
set_option linter.unusedSimpArgs false
set_option linter.unusedVariables false
namespace Go.Proofs.YtbmflnnfnbepdaaGreatDoor
open Go.RowKit

/-- What is read of the data of a log whose journal has 24 sectors. -/
def dv (S : Nat → List B8) : Nat → List B8 := fun k => S (25 + k)
theorem layS_cons (S : Nat → List B8) (p : Int × List B8) (ws : List (Int × List B8)) : layS S (p :: ws) = layS (upd S p.1.toNat p.2) ws := rfl
theorem layS_off (k : Nat) : ∀ (ws : List (Int × List B8)) (S : Nat → List B8), (∀ p ∈ ws, p.1.toNat ≠ k) → layS S ws k = S k
  | [], _, _ => rfl
  | p :: ws, S, h => by
    rw [layS_cons, layS_off k ws _ (fun q hq => h q (List.mem_cons_of_mem _ hq))]
    unfold upd
    rw [if_neg (fun e => h p (List.mem_cons_self) e.symm)]
theorem layS_on (k : Nat) : ∀ (ws : List (Int × List B8)) (S S' : Nat → List B8), (S k = S' k ∨ ∃ p ∈ ws, p.1.toNat = k) → layS S ws k = layS S' ws k
  | [], S, S', h => by
    rcases h with h | ⟨p, hp, _⟩
    · exact h
    · simp at hp
  | p :: ws, S, S', h => by
    rw [layS_cons, layS_cons]
    apply layS_on k ws
    by_cases hk : p.1.toNat = k
    · left
      unfold upd
      rw [if_pos hk.symm, if_pos hk.symm]
    · rcases h with h | ⟨q, hq, hqk⟩
      · left
        unfold upd
        rw [if_neg (fun e => hk e.symm), if_neg (fun e => hk e.symm)]
        exact h
      · rcases List.mem_cons.1 hq with rfl | hq
        · exact absurd hqk hk
        · exact .inr ⟨q, hq, hqk⟩
theorem layS_at {ws : List (Int × List B8)} (S : Nat → List B8) (hn : (secs ws).Nodup) (h0 : ∀ p ∈ ws, 0 ≤ p.1) {p : Int × List B8} (hp : p ∈ ws) : layS S ws p.1.toNat = p.2 := by
  induction ws generalizing S with
  | nil => simp at hp
  | cons q ws ih =>
    unfold secs at hn ih
    rw [List.map_cons, List.nodup_cons] at hn
    rw [layS_cons]
    rcases List.mem_cons.1 hp with rfl | hp
    · rw [layS_off]
      · unfold upd
        rw [if_pos rfl]
      · intro r hr e
        have h1 := h0 r (List.mem_cons_of_mem _ hr)
        have h2 := h0 p (List.mem_cons_self)
        have : r.1 = p.1 := by omega
        exact hn.1 (by rw [← this]; exact List.mem_map_of_mem hr)
    · exact ih _ hn.2 (fun r hr => h0 r (List.mem_cons_of_mem _ hr)) hp
/-- Whichever is first. -/
theorem layS_comm {X Y : List (Int × List B8)} (S : Nat → List B8) (h : ∀ p ∈ X, ∀ q ∈ Y, p.1.toNat ≠ q.1.toNat) (k : Nat) : layS (layS S X) Y k = layS (layS S Y) X k := by
  by_cases hx : ∃ p ∈ X, p.1.toNat = k
  · obtain ⟨p, hp, rfl⟩ := hx
    rw [layS_off _ Y _ (fun q hq => (h p hp q hq).symm)]
    exact layS_on _ X _ _ (.inr ⟨p, hp, rfl⟩)
  · rw [layS_off k X (layS S Y) (fun p hp e => hx ⟨p, hp, e⟩)]
    exact layS_on k Y _ _ (.inl (layS_off k X S (fun p hp e => hx ⟨p, hp, e⟩)))
theorem layS_data (S : Nat → List B8) : ∀ (ws : List (Int × List B8)), dv (layS S (dataOf 24 ws)) = layS (dv S) ws := by
  intro ws
  induction ws generalizing S with
  | nil => rfl
  | cons p ws ih =>
    have e : dataOf 24 (p :: ws) = ((((1 + 24 + p.1.toNat : Nat) : Int), p.2)) :: dataOf 24 ws := rfl
    rw [e, layS_cons, layS_cons, ih]
    congr 1
    funext k
    unfold dv upd
    show (if 25 + k = ((1 + 24 + p.1.toNat : Nat) : Int).toNat then _ else _) = _
    by_cases hk : k = p.1.toNat
    · rw [if_pos (by omega), if_pos hk]
    · rw [if_neg (by omega), if_neg hk]
theorem behind_data (ks : List B32) (num m : Nat) (S : Nat → List B8) (ws : List (Int × List B8)) (hm : ws.length ≤ 12) : dv (behind ks 24 num m S ws) = layS (dv S) ws := by
  have e : dv (behind ks 24 num m S ws) = dv (layS (layS S (jrnOf num m (digOf ks num ws) ws)) (dataOf 24 ws)) := by
    funext k
    unfold dv behind upd
    rw [if_neg (by omega)]
  rw [e, layS_data]
  congr 1
  funext k
  unfold dv
  refine layS_off _ _ _ fun p hp => ?_
  obtain ⟨i, q, hq, rfl | rfl⟩ := jrnOf_mem hp
  · have := (List.getElem?_eq_some_iff.1 hq).1
    show ((1 + 2 * i : Nat) : Int).toNat ≠ _
    omega
  · have := (List.getElem?_eq_some_iff.1 hq).1
    show ((1 + 2 * i + 1 : Nat) : Int).toNat ≠ _
    omega

/-- A log at rest, on a disk of 37 sectors, with a journal of 24; so many writes, flushes and transactions at most. -/
def One (B : Nat) (w : World) (D L G : Nat) (S : Nat → List B8) (c : Nat) : Prop :=
  ∃ cw cf dn, cw ≤ c ∧ cf ≤ c ∧ dn ≤ c ∧ Idle B D L 37 S cw cf w ∧ Blk w G 87 (logCells D 24 (1, 0) dn false) ∧ B ≤ G
theorem One.stp {B C : Nat} {w w' : World} {D L G c : Nat} {S : Nat → List B8} {X : List Nat} (h : One B w D L G S c) (hs : Stp C X w w') (hD : D ∉ X) (hL : L ∉ X) (hG : G ∉ X) : One B w' D L G S c := by
  obtain ⟨cw, cf, dn, h1, h2, h3, h4, h5, h6⟩ := h
  exact ⟨cw, cf, dn, h1, h2, h3, h4.stp hs hD hL, hs.keep G _ _ (by decide) hG h5, h6⟩
theorem One.below {B : Nat} {w w' : World} {D L G c : Nat} {S : Nat → List B8} (h : One B w D L G S c) (hs : Below w.heap.size w w') : One B w' D L G S c :=
  h.stp (X := []) (Stp.of_below (Nat.le_refl _) hs) (by simp) (by simp) (by simp)

theorem commit_one (ks : List B32) {B : Nat} {w : World} {D L G c : Nat} {S : Nat → List B8} {A : Nat → Prop} {P : Option Addr} {m cc : Nat} {ws : List (Int × List B8)} (h : One B w D L G S c) (hB : B ≤ w.heap.size) (hK : Roots ks w) (hKB : 1 < B)
    (hw : Wrs A w (.slice P m cc) ws) (hA : ∀ g, A g → g ∉ [D, L, G]) (hr : Right 12 ws) (hm : m ≤ 10) (hc : c ≤ 500000) :
    Calls Tryz.prog 19 #[.pointer (some ⟨G, 0, none⟩), .slice P m cc] w fun e w' => e = .returned (.int .i64 0) ∧ ∃ S', One B w' D L G S' (c + 31) ∧ dv S' = layS (dv S) ws ∧ Stp B [D, L, G] w w' := by
  obtain ⟨cw, cf, dn, h1, h2, h3, h4, h5, h6⟩ := h
  have hlen := hw.len
  by_cases hm0 : m = 0
  · subst hm0
    obtain rfl : ws = [] := List.eq_nil_of_length_eq_zero hlen
    refine (commit_none h4 h5 hw (by omega) (by omega)).mono ?_
    rintro e w' ⟨rfl, hW⟩
    exact ⟨rfl, S, ⟨cw, cf, dn, by omega, by omega, by omega, h4.below hW, h5.below hW h5.lt, h6⟩, rfl, Stp.of_below hB hW⟩
  · refine (commit_ok ks h4 hB hK hKB h6 h5 hw hA hr (by omega) (by omega) (by omega) (by omega) (by omega) (by omega) (by omega)).mono ?_
    rintro e w' ⟨rfl, hI, hG, hS⟩
    exact ⟨rfl, _, ⟨_, _, _, by omega, by omega, by omega, hI, hG, h6⟩, behind_data ks _ _ S ws (by omega), hS⟩

theorem read_one {B : Nat} {w : World} {D L G c : Nat} {S : Nat → List B8} (h : One B w D L G S c) (k : Nat) (hk : k < 12) :
    Calls Tryz.prog 20 #[.pointer (some ⟨G, 0, none⟩), .int .i64 k] w fun e w' => ∃ v, e = .returned (.tuple #[v, .int .i64 0]) ∧ Bts (fun g => w.heap.size ≤ g) w' v (dv S k) ∧ Below w.heap.size w w' := by
  obtain ⟨cw, cf, dn, h1, h2, h3, h4, h5, h6⟩ := h
  have := jread_any h4 h5 (by omega) k (by omega)
  rw [show 1 + 24 + k = 25 + k by omega] at this
  exact this
theorem One.sec {B : Nat} {w : World} {D L G c : Nat} {S : Nat → List B8} (h : One B w D L G S c) {k : Nat} (hk : k < 12) : (dv S k).length = 64 := by
  obtain ⟨cw, cf, dn, h1, h2, h3, h4, h5, h6⟩ := h
  exact h4.sec (by omega)
def all12 (T : Nat → List B8) : List B8 := ((List.range 12).map T).flatten
theorem all12_length {T : Nat → List B8} (h : ∀ k, k < 12 → (T k).length = 64) : (all12 T).length = 768 := by
  unfold all12
  rw [List.length_flatten, List.map_map]
  have e : (List.range 12).map (List.length ∘ T) = (List.range 12).map fun _ => 64 := List.map_congr_left fun k hk => h k (List.mem_range.1 hk)
  rw [e]
  rfl
theorem data_one {B : Nat} {w : World} {D L G c : Nat} {S : Nat → List B8} (h : One B w D L G S c) :
    Calls Tryz.prog 15 #[.pointer (some ⟨G, 0, none⟩)] w fun e w' => ∃ Q k, e = .returned (.slice Q 768 k) ∧ Bts (fun g => w.heap.size ≤ g) w' (.slice Q 768 k) (all12 (dv S)) ∧ Below w.heap.size w w' := by
  have hl := all12_length fun k hk => h.sec hk
  obtain ⟨cw, cf, dn, h1, h2, h3, h4, h5, h6⟩ := h
  have h := data_of h4 h5 (by omega) (by omega)
  have e : dataS S 24 (37 - 24 - 1) = all12 (dv S) := by
    unfold dataS all12 dv
    rfl
  rw [e] at h
  refine h.mono ?_
  rintro e w' ⟨v, rfl, hv, hW⟩
  obtain ⟨Q, k, rfl, _, _⟩ := hv.form
  rw [hl] at hv ⊢
  exact ⟨Q, k, rfl, hv, hW⟩

/-- Two of them, and where they are kept. -/
structure Pair (B : Nat) (w : World) (a L0 D0 G0 L1 D1 G1 : Nat) (S0 S1 : Nat → List B8) (c : Nat) : Prop where
  one : One B w D0 L0 G0 S0 c
  two : One B w D1 L1 G1 S1 c
  arr : Blk w a 49 [.pointer (some ⟨G0, 0, none⟩), .pointer (some ⟨G1, 0, none⟩)]
  ord : B ≤ a ∧ a < L0 ∧ L0 < D0 ∧ D0 < G0 ∧ G0 < L1 ∧ L1 < D1 ∧ D1 < G1
section
variable {B : Nat} {w w' : World} {a L0 D0 G0 L1 D1 G1 c c' : Nat} {S0 S1 S' : Nat → List B8}
theorem Pair.below (h : Pair B w a L0 D0 G0 L1 D1 G1 S0 S1 c) (hb : Below w.heap.size w w') : Pair B w' a L0 D0 G0 L1 D1 G1 S0 S1 c := ⟨h.one.below hb, h.two.below hb, h.arr.below hb h.arr.lt, h.ord⟩
theorem One.more {D L G : Nat} {S : Nat → List B8} (h : One B w D L G S c) (hc : c ≤ c') : One B w D L G S c' := by
  obtain ⟨cw, cf, dn, h1, h2, h3, h⟩ := h
  exact ⟨cw, cf, dn, by omega, by omega, by omega, h⟩
theorem Pair.first (h : Pair B w a L0 D0 G0 L1 D1 G1 S0 S1 c) (h1 : One B w' D0 L0 G0 S' c') (hc : c ≤ c') (hs : Stp B [D0, L0, G0] w w') : Pair B w' a L0 D0 G0 L1 D1 G1 S' S1 c' := by
  have ho := h.ord
  exact ⟨h1, (h.two.stp hs (by simp; omega) (by simp; omega) (by simp; omega)).more hc, hs.keep a _ _ (by decide) (by simp; omega) h.arr, ho⟩
theorem Pair.second (h : Pair B w a L0 D0 G0 L1 D1 G1 S0 S1 c) (h1 : One B w' D1 L1 G1 S' c') (hc : c ≤ c') (hs : Stp B [D1, L1, G1] w w') : Pair B w' a L0 D0 G0 L1 D1 G1 S0 S' c' := by
  have ho := h.ord
  exact ⟨(h.one.stp hs (by simp; omega) (by simp; omega) (by simp; omega)).more hc, h1, hs.keep a _ _ (by decide) (by simp; omega) h.arr, ho⟩
end
end Go.Proofs.YtbmflnnfnbepdaaGreatDoor
end

/-
  In whatever order: the law's walk. Conditions: the writes are known; the constants lie in their variable.
-/

section
set_option maxRecDepth 100000
set_option linter.unusedSimpArgs false
set_option linter.unusedVariables false
namespace Go.Proofs.YtbmflnnfnbepdaaGreatDoor
open Go.RowKit

theorem WIn.below {w w' : World} {P : Option Addr} {n : Nat} {ws : List (Int × List B8)} (h : WIn w P n ws) (hb : Below w.heap.size w w') : WIn w' P n ws := by
  refine ⟨h.1, fun hn => ?_⟩
  obtain ⟨g, o, rfl, hg, hc⟩ := h.2 hn
  have hs := hb.size
  refine ⟨g, o, rfl, by omega, fun i p hp => ?_⟩
  obtain ⟨Q, m, c, c0, c1, ht⟩ := hc i p hp
  refine ⟨Q, m, c, (hb.cell (p := ⟨g, o + i * 2, none⟩) hg).trans c0, (hb.cell (p := ⟨g, o + i * 2 + 1, none⟩) hg).trans c1, ⟨⟨ht.txt.len, ht.txt.cap, ht.txt.capm, fun hm => ?_⟩, ht.nil⟩⟩
  obtain ⟨g', o', rfl, hg', hc'⟩ := ht.txt.cells hm
  have hl := World.block_lt_of_cell? w _ (hc' 0 (by omega))
  have hl' : g' < w.heap.size := hl
  refine ⟨g', o', rfl, by omega, fun j hj => (hb.cell (p := ⟨g', o' + j, none⟩) hl').trans (hc' j hj)⟩
theorem toW_length (ws : List (Int × List B8)) : (toW ws).length ≤ 10 := by simp [toW]; omega
/-- Where the logs are kept, as they are opened. -/
def Opened (B a : Nat) (wx : World) : Nat → Prop
  | 0 => Blk wx a 49 [.pointer none, .pointer none]
  | 1 => ∃ L D G, One B wx D L G (fun _ => List.replicate 64 0) 0 ∧ Blk wx a 49 [.pointer (some ⟨G, 0, none⟩), .pointer none] ∧ a < L ∧ L < D ∧ D < G
  | _ => ∃ L0 D0 G0 L1 D1 G1, Pair B wx a L0 D0 G0 L1 D1 G1 (fun _ => List.replicate 64 0) (fun _ => List.replicate 64 0) 0
theorem Idle.lower {B C D L n : Nat} {S : Nat → List B8} {cw cf : Nat} {w : World} (h : Idle B D L n S cw cf w) (hC : C ≤ B) : Idle C D L n S cw cf w := by
  obtain ⟨s, hd, hw, rest⟩ := h
  refine ⟨s, ⟨hd.disk, hd.laid, ?_, Nat.le_trans hC hd.baseD, Nat.le_trans hC hd.baseL, hd.good⟩, hw, rest⟩
  rw [hw]
  exact World.ownsRow_nil _ _ _ _

set_option maxHeartbeats 8000000 in
theorem order_walk (ks : List B32) (w : World) (P Q : Option Addr) (n c m d : Nat) (ws vs : List (Int × List B8)) (hK : Roots ks w) (hw : WIn w P n ws) (hv : WIn w Q m vs) (hn : n ≤ 9223372036854775807) (hm : m ≤ 9223372036854775807) :
    Calls Tryz.prog 4 #[.slice P n c, .slice Q m d] w fun e w' => e = .returned (.bool true) ∧ Below w.heap.size w w' := by
  have hpos := hK.pos
  have HK := Lib.hid hK
  have HW := Lib.hid (And.intro hw hv)
  clear hK hw hv
  go_enter Tryz.func4, Tryz.ntmps4
  go_wp2_with fail
  refine (to_any _ P n c ws HW.out.1 hn).mono ?_
  rintro e w1 ⟨v1, d1, rfl, hv1, hd1, hb1⟩
  have H1 := Lib.hid (And.intro hv1 (And.intro hd1 hb1))
  clear hv1 hd1 hb1
  go_wp2_with fail
  refine (to_any _ Q m d vs (HW.out.2.below H1.out.2.2) hm).mono ?_
  rintro e w2 ⟨v2, d2, rfl, hv2, hd2, hb2⟩
  have hl1 := toW_length ws
  have hl2 := toW_length vs
  obtain ⟨P1, c1, rfl⟩ := H1.out.1.form
  obtain ⟨R1, r1, rfl⟩ := H1.out.2.1.form
  obtain ⟨P2, c2, rfl⟩ := hv2.form
  obtain ⟨R2, r2, rfl⟩ := hd2.form
  generalize hn1 : (toW ws).length = n1 at *
  generalize hn2 : (toW vs).length = n2 at *
  have hs1 := H1.out.2.2.size
  have hs2 := hb2.size
  have A1 : Wrs (fun g => g < w2.heap.size) w2 (.slice P1 n1 c1) (toW ws) := ((H1.out.1.wrs (fun g hg => hg)).below hb2).mono (fun g _ h => h)
  have A2 : Rfs (fun g => g < w2.heap.size) w2 (.slice R1 n1 r1) (toW ws) := ((H1.out.2.1.rfs (fun g hg => hg)).below hb2).mono (fun g _ h => h)
  have A3 : Wrs (fun g => g < w2.heap.size) w2 (.slice P2 n2 c2) (toW vs) := (hv2.wrs (fun g hg => hg)).mono (fun g _ h => h)
  have A4 : Rfs (fun g => g < w2.heap.size) w2 (.slice R2 n2 r2) (toW vs) := (hd2.rfs (fun g hg => hg)).mono (fun g _ h => h)
  have HA := Lib.hid (And.intro A1 (And.intro A2 (And.intro A3 A4)))
  have HB := Lib.hid (below_of H1.out.2.2 hb2)
  clear A1 A2 A3 A4 hb2 hv2 hd2
  generalize toW ws = X at *
  generalize toW vs = Y at *
  go_wp2_with fail
  have hb2 := new_below w2 (.cells #[.pointer none, .pointer none] 49)
  have ha2 := Blk.new w2 49 [.pointer none, .pointer none]
  have H2 := Lib.hid (And.intro hb2 ha2)
  clear hb2 ha2
  go_loopw [10] (fun iv wx => ∃ i : Nat, i ≤ 2 ∧ iv = .int .i64 i ∧ Opened w2.heap.size w2.heap.size wx i ∧ Stp w2.heap.size [] w2 wx) (fun iv _ => 2 - (intOf iv).toNat)
  case atStart => exact ⟨0, by omega, rfl, H2.out.2, Stp.of_below (Nat.le_refl _) H2.out.1⟩
  case round =>
    obtain ⟨i, hi, rfl, ho, hs⟩ := hrel
    rcases Nat.lt_or_ge i 2 with hlt | hge
    · rcases Nat.lt_or_ge i 1 with h0 | h0
      · obtain rfl : i = 0 := by omega
        have ho : Blk wr w2.heap.size 49 [.pointer none, .pointer none] := ho
        have HR := Lib.hid (And.intro ho hs)
        have hsw := hs.size
        clear ho hs hi
        go_wp2_with fail
        refine (new_idle _ 37 (by omega) (by omega)).mono ?_
        rintro e w3 ⟨rfl, hI, hW⟩
        have H3 := Lib.hid (And.intro (hI.lower (C := w2.heap.size) hsw) hW)
        have hs3 := hW.size
        clear hI hW
        go_wp2_with fail
        refine (open_none ks w2.heap.size _ (wr.heap.size + 1) wr.heap.size 37 24 (fun _ => List.replicate 64 0) 0 0 0 H3.out.1 (by omega) ((HK.out.below HB.out hpos).below (HR.out.2.below.trans (H3.out.2.mono hsw)) (by omega)) (by omega) (by omega) (by omega) (by omega) (by omega) (by unfold doneB zeros64; rw [if_pos rfl]) (by rw [zeros_from]; omega)).mono ?_
        rintro e w4 ⟨rfl, hI, hG, hS⟩
        have hs4 := hS.size
        have hal := (HR.out.1).lt
        have ha4 : Blk w4 w2.heap.size 49 [.pointer none, .pointer none] := hS.keep _ _ _ (by decide) (by simp; omega) (((HR.out.1)).below H3.out.2 (HR.out.1).lt)
        have ⟨a0, a1⟩ := blk_pair ha4
        have z0 := ha4.frozen 0
        have z1 := ha4.frozen 1
        have h3l := H3.out.1.lt
        have hset := stp_set (B := w2.heap.size) (G := w2.heap.size) (w := w4) (o := 0) (by omega) (Nat.le_refl _) (.pointer (some ⟨w3.heap.size, 0, none⟩))
        have ha5 := ha4.set_ 0 (.pointer (some ⟨w3.heap.size, 0, none⟩))
        have hone : One w2.heap.size w4 (wr.heap.size + 1) wr.heap.size w3.heap.size (fun _ => List.replicate 64 0) 0 := ⟨0, 0, 0, Nat.le_refl _, Nat.le_refl _, Nat.le_refl _, hI, hG, by omega⟩
        have hst : Stp w2.heap.size [] w2 w4 := ((HR.out.2.trans (Stp.of_below hsw H3.out.2)).mono (Y := [wr.heap.size + 1, wr.heap.size]) (by simp)).trans hS |>.mono (by intro k hk hl; simp at hk; omega)
        have H4 := Lib.hid (And.intro hone (And.intro ha5 (And.intro hst (And.intro hset hS))))
        clear hI hG hS ha4 ha5 hset hone hst
        go_wp2_with fail
        go_roundw
        case rel =>
          refine ⟨0 + 1, by omega, by go_num, ?_, (H4.out.2.2.1.mono (Y := [w2.heap.size]) (by simp)).trans H4.out.2.2.2.1 |>.mono (by intro k hk hl; simp at hk; omega)⟩
          exact ⟨_, _, _, H4.out.1.stp H4.out.2.2.2.1 (by simp; omega) (by simp; omega) (by simp; omega), H4.out.2.1, hal, by omega, by omega⟩
        case measure => simp [intOf]
      · obtain rfl : i = 1 := by omega
        obtain ⟨L0, D0, G0, ho, har, hx1, hx2, hx3⟩ : ∃ L D G, One w2.heap.size wr D L G (fun _ => List.replicate 64 0) 0 ∧ Blk wr w2.heap.size 49 [.pointer (some ⟨G, 0, none⟩), .pointer none] ∧ w2.heap.size < L ∧ L < D ∧ D < G := ho
        have hGl : G0 < wr.heap.size := by obtain ⟨_, _, _, _, _, _, _, h, _⟩ := ho; exact h.lt
        have HO := Lib.hid (And.intro ho har)
        clear ho har
        have ho := True.intro
        have HR := Lib.hid (And.intro ho hs)
        have hsw := hs.size
        clear ho hs hi
        go_wp2_with fail
        refine (new_idle _ 37 (by omega) (by omega)).mono ?_
        rintro e w3 ⟨rfl, hI, hW⟩
        have H3 := Lib.hid (And.intro (hI.lower (C := w2.heap.size) hsw) hW)
        have hs3 := hW.size
        clear hI hW
        go_wp2_with fail
        refine (open_none ks w2.heap.size _ (wr.heap.size + 1) wr.heap.size 37 24 (fun _ => List.replicate 64 0) 0 0 0 H3.out.1 (by omega) ((HK.out.below HB.out hpos).below (HR.out.2.below.trans (H3.out.2.mono hsw)) (by omega)) (by omega) (by omega) (by omega) (by omega) (by omega) (by unfold doneB zeros64; rw [if_pos rfl]) (by rw [zeros_from]; omega)).mono ?_
        rintro e w4 ⟨rfl, hI, hG, hS⟩
        have hs4 := hS.size
        have hal := (HO.out.2).lt
        have ha4 : Blk w4 w2.heap.size 49 [.pointer (some ⟨G0, 0, none⟩), .pointer none] := hS.keep _ _ _ (by decide) (by simp; omega) (((HO.out.2)).below H3.out.2 (HO.out.2).lt)
        have ⟨a0, a1⟩ := blk_pair ha4
        have z0 := ha4.frozen 0
        have z1 := ha4.frozen 1
        have h3l := H3.out.1.lt
        have hset := stp_set (B := w2.heap.size) (G := w2.heap.size) (w := w4) (o := 1) (by omega) (Nat.le_refl _) (.pointer (some ⟨w3.heap.size, 0, none⟩))
        have ha5 := ha4.set_ 1 (.pointer (some ⟨w3.heap.size, 0, none⟩))
        have hone : One w2.heap.size w4 (wr.heap.size + 1) wr.heap.size w3.heap.size (fun _ => List.replicate 64 0) 0 := ⟨0, 0, 0, Nat.le_refl _, Nat.le_refl _, Nat.le_refl _, hI, hG, by omega⟩
        have hst : Stp w2.heap.size [] w2 w4 := ((HR.out.2.trans (Stp.of_below hsw H3.out.2)).mono (Y := [wr.heap.size + 1, wr.heap.size]) (by simp)).trans hS |>.mono (by intro k hk hl; simp at hk; omega)
        have H4 := Lib.hid (And.intro hone (And.intro ha5 (And.intro hst (And.intro hset hS))))
        clear hI hG hS ha4 ha5 hset hone hst
        go_wp2_with fail
        go_roundw
        case rel =>
          refine ⟨1 + 1, by omega, by go_num, ?_, (H4.out.2.2.1.mono (Y := [w2.heap.size]) (by simp)).trans H4.out.2.2.2.1 |>.mono (by intro k hk hl; simp at hk; omega)⟩
          exact ⟨L0, D0, G0, _, _, _, ⟨((HO.out.1.below H3.out.2).stp H4.out.2.2.2.2 (by simp; omega) (by simp; omega) (by simp; omega)).stp H4.out.2.2.2.1 (by simp; omega) (by simp; omega) (by simp; omega), H4.out.1.stp H4.out.2.2.2.1 (by simp; omega) (by simp; omega) (by simp; omega), H4.out.2.1, Nat.le_refl _, hx1, hx2, hx3, hGl, by omega, by omega⟩⟩
        case measure => simp [intOf]
    · obtain rfl : i = 2 := by omega
      obtain ⟨L0, D0, G0, L1, D1, G1, hp⟩ : ∃ L0 D0 G0 L1 D1 G1, Pair w2.heap.size wr w2.heap.size L0 D0 G0 L1 D1 G1 (fun _ => List.replicate 64 0) (fun _ => List.replicate 64 0) 0 := ho
      have HP := Lib.hid (And.intro hp hs)
      clear hp hs
      go_wp2_with fail
      have hb0 := HP.out.2.below
      have hs0 := HP.out.2.size
      have hkb : 1 < w2.heap.size := by omega
      have HK0 := Lib.hid (show Roots ks w2 from HK.out.below HB.out hpos)
      have HF := Lib.hid (show ∀ wx wy, Below w2.heap.size w2 wx → Below wx.heap.size wx wy → Below w.heap.size w wy from fun wx wy h h' => HB.out.trans ((h.trans (h'.mono h.size)).mono HB.out.size))
      refine (rcheck_any _ (fun g => g < w2.heap.size) R1 n1 r1 12 12 X (HA.out.2.1.stp HP.out.2 (by simp))).mono ?_
      rintro e w5 ⟨⟨ra, rfl, hra⟩, hW5⟩
      by_cases hra0 : ra = 0
      · subst hra0
        have H5 := Lib.hid (And.intro (hra rfl) hW5)
        have hs5 := hW5.size
        clear hra hW5
        go_wp2_with fail
        refine (rcheck_any _ (fun g => g < w2.heap.size) R2 n2 r2 12 12 Y ((HA.out.2.2.2.stp HP.out.2 (by simp)).below H5.out.2)).mono ?_
        rintro e w6 ⟨⟨rb, rfl, hrb⟩, hW6⟩
        by_cases hrb0 : rb = 0
        · subst hrb0
          have hb6 := below_of H5.out.2 hW6
          have hs6 := hb6.size
          have H6 := Lib.hid (And.intro H5.out.1.1 (And.intro (hrb rfl).1 (And.intro (HP.out.1.below hb6) (HP.out.2.trans (Stp.of_below (by omega) hb6)))))
          clear hrb hW6 hb6 H5
          go_wp2_with fail
          have hl1 : X.length = n1 := HA.out.1.len
          have hl2 : Y.length = n2 := HA.out.2.2.1.len
          have HL := Lib.hid (And.intro hl1 hl2)
          clear hl1 hl2 hn1 hn2
          go_loopw [15] (fun iv wx => ∃ i : Nat, i ≤ n1 ∧ iv = .int .i64 i ∧ Below w6.heap.size w6 wx ∧ ∀ (k : Nat) p, k < i → X[k]? = some p → ∀ q ∈ Y, p.1 ≠ q.1) (fun iv _ => n1 - (intOf iv).toNat)
          case atStart => exact ⟨0, Nat.zero_le _, rfl, Below.refl _ _, fun k p h => absurd h (by omega)⟩
          case round =>
            obtain ⟨i, hi, rfl, hb, hall⟩ := hrel
            by_cases hlt : i < n1
            · obtain ⟨p, hp⟩ : ∃ p, X[i]? = some p := ⟨_, List.getElem?_eq_getElem (by have := HL.out.1; omega)⟩
              have HR := Lib.hid (And.intro hb (And.intro hall hp))
              clear hb hall hp
              go_wp2_with fail
              go_loopw [16] (fun iv wx => ∃ k : Nat, k ≤ n2 ∧ iv = .int .i64 k ∧ Below w6.heap.size w6 wx ∧ ∀ (k' : Nat) q, k' < k → Y[k']? = some q → p.1 ≠ q.1) (fun iv _ => n2 - (intOf iv).toNat)
              case atStart => exact ⟨0, Nat.zero_le _, rfl, HR.out.1, fun k p h => absurd h (by omega)⟩
              case round =>
                obtain ⟨k, hk, rfl, hb, hall⟩ := hrel
                by_cases hkt : k < n2
                · obtain ⟨q, hq⟩ : ∃ q, Y[k]? = some q := ⟨_, List.getElem?_eq_getElem (by have := HL.out.2; omega)⟩
                  obtain ⟨g, Q1, m1, k1, rfl, hg, hAg, c0, c1, _, _, _, _⟩ := ((HA.out.2.1.stp H6.out.2.2.2 (by simp)).below hb).at_ HR.out.2.2
                  obtain ⟨g', Q2, m2, k2, rfl, hg', hAg', e0, e1, _, _, _, _⟩ := ((HA.out.2.2.2.stp H6.out.2.2.2 (by simp)).below hb).at_ hq
                  have HKK := Lib.hid (And.intro hb (And.intro hall hq))
                  clear hb hall hq
                  by_cases hpq : p.1 = q.1
                  · have e0' : (p.1 == q.1) = true := by simpa using hpq
                    clear hpq
                    go_wp2_with fail
                    go_region
                    have HBW := Lib.hid (H6.out.2.2.2.below.trans (HKK.out.1.drew.mono H6.out.2.2.2.size))
                    go_wp2_with (go_at_call 11; refine (jknown_walk ks _ (HK0.out.below HBW.out hkb)).mono ?_; rintro e w9 ⟨rfl, hW⟩; have H9 := Lib.hid hW; clear hW)
                    go_ret
                    exact ⟨rfl, HF.out _ _ HBW.out H9.out⟩
                  · have e0' : (p.1 == q.1) = false := by simpa using hpq
                    have HNE := Lib.hid hpq
                    clear hpq
                    go_wp2_with fail
                    go_region
                    go_wp2_with fail
                    go_roundw
                    case rel =>
                      refine ⟨k + 1, by omega, by go_num, HKK.out.1.drew, fun k' x hk' hx => ?_⟩
                      by_cases h : k' = k
                      · subst h
                        rw [HKK.out.2.2] at hx
                        cases hx
                        exact HNE.out
                      · exact HKK.out.2.1 k' x (by omega) hx
                    case measure => simp [intOf]; omega
                · obtain rfl : k = n2 := by omega
                  have HKK := Lib.hid (And.intro hb hall)
                  clear hb hall
                  go_wp2_with fail
                  go_roundw
                  case rel =>
                    refine ⟨i + 1, by omega, by go_num, HKK.out.1, fun k' x hk' hx q hq => ?_⟩
                    by_cases h : k' = i
                    · subst h
                      rw [HR.out.2.2] at hx
                      cases hx
                      obtain ⟨j, hj⟩ := List.mem_iff_getElem?.1 hq
                      exact HKK.out.2 j q (by have := (List.getElem?_eq_some_iff.1 hj).1; have := HL.out.2; omega) hj
                    · exact HR.out.2.1 k' x (by omega) hx q hq
                  case measure => simp [intOf]; omega
            · obtain rfl : i = n1 := by omega
              have hne : ∀ p ∈ X, ∀ q ∈ Y, p.1 ≠ q.1 := by
                intro p hp q hq
                obtain ⟨k, hk⟩ := List.mem_iff_getElem?.1 hp
                exact hall k p (by have := (List.getElem?_eq_some_iff.1 hk).1; have := HL.out.1; omega) hk q hq
              have hpr := H6.out.2.2.1.below hb
              have HN := Lib.hid (And.intro hne (And.intro (H6.out.2.2.2.trans (Stp.of_below H6.out.2.2.2.size hb)) hpr))
              have ⟨a0, a1⟩ := blk_pair hpr.arr
              have hso := hpr.ord
              have hsw := HN.out.2.1.size
              clear hb hall hne hpr
              go_wp2_with fail
              refine (commit_one ks (A := fun g => g < w2.heap.size) HN.out.2.2.one HN.out.2.1.size (HK0.out.below HN.out.2.1.below hkb) hkb (HA.out.1.stp HN.out.2.1 (by simp)) (fun g hg h => by simp at h; omega) H6.out.1 (by omega) (by omega)).mono ?_
              rintro e w7 ⟨rfl, S7, hO, hdv, hS⟩
              have hpr := HN.out.2.2.first hO (by omega) hS
              have H7 := Lib.hid (And.intro hdv (And.intro (((HN.out.2.1.mono (Y := [D0, L0, G0]) (by simp)).trans hS).mono (Y := []) (by intro k hk hl; simp at hk; omega)) hpr))
              have ⟨a0, a1⟩ := blk_pair hpr.arr
              clear hO hdv hS hpr
              go_wp2_with fail
              refine (commit_one ks (A := fun g => g < w2.heap.size) H7.out.2.2.one H7.out.2.1.size (HK0.out.below H7.out.2.1.below hkb) hkb (HA.out.2.2.1.stp H7.out.2.1 (by simp)) (fun g hg h => by simp at h; omega) H6.out.2.1 (by omega) (by omega)).mono ?_
              rintro e w8 ⟨rfl, S8, hO, hdv, hS⟩
              have hpr := H7.out.2.2.first hO (by omega) hS
              have H8 := Lib.hid (And.intro hdv (And.intro (((H7.out.2.1.mono (Y := [D0, L0, G0]) (by simp)).trans hS).mono (Y := []) (by intro k hk hl; simp at hk; omega)) hpr))
              have ⟨a0, a1⟩ := blk_pair hpr.arr
              clear hO hdv hS hpr
              go_wp2_with fail
              refine (commit_one ks (A := fun g => g < w2.heap.size) H8.out.2.2.two H8.out.2.1.size (HK0.out.below H8.out.2.1.below hkb) hkb (HA.out.2.2.1.stp H8.out.2.1 (by simp)) (fun g hg h => by simp at h; omega) H6.out.2.1 (by omega) (by omega)).mono ?_
              rintro e w10 ⟨rfl, T1, hO, hdv, hS⟩
              have hpr := H8.out.2.2.second hO (by omega) hS
              have H10 := Lib.hid (And.intro hdv (And.intro (((H8.out.2.1.mono (Y := [D1, L1, G1]) (by simp)).trans hS).mono (Y := []) (by intro k hk hl; simp at hk; omega)) hpr))
              have ⟨a0, a1⟩ := blk_pair hpr.arr
              clear hO hdv hS hpr
              go_wp2_with fail
              refine (commit_one ks (A := fun g => g < w2.heap.size) H10.out.2.2.two H10.out.2.1.size (HK0.out.below H10.out.2.1.below hkb) hkb (HA.out.1.stp H10.out.2.1 (by simp)) (fun g hg h => by simp at h; omega) H6.out.1 (by omega) (by omega)).mono ?_
              rintro e w11 ⟨rfl, T2, hO, hdv, hS⟩
              have hpr := H10.out.2.2.second hO (by omega) hS
              have H11 := Lib.hid (And.intro hdv (And.intro (((H10.out.2.1.mono (Y := [D1, L1, G1]) (by simp)).trans hS).mono (Y := []) (by intro k hk hl; simp at hk; omega)) hpr))
              have ⟨a0, a1⟩ := blk_pair hpr.arr
              clear hO hdv hS hpr
              go_wp2_with fail
              go_loopw [18, 17] (fun iv bv wx => ∃ k : Nat, k ≤ i ∧ iv = .int .i64 k ∧ bv = .bool true ∧ Below w11.heap.size w11 wx) (fun iv _ _ => i - (intOf iv).toNat)
              case atStart => exact ⟨0, Nat.zero_le _, rfl, rfl, Below.refl _ _⟩
              case round =>
                obtain ⟨k, hk, rfl, rfl, hb⟩ := hrel
                have HR := Lib.hid hb
                by_cases hkt : k < i
                · obtain ⟨p, hp⟩ : ∃ p, X[k]? = some p := ⟨_, List.getElem?_eq_getElem (by have := HL.out.1; omega)⟩
                  obtain ⟨g, Qk, mk, kk, rfl, hg, hAg, c0, c1, hml, hbt, hmk, hkk⟩ := ((HA.out.2.1.stp H11.out.2.1 (by simp)).below hb).at_ hp
                  have hpm := H6.out.1.each p (List.mem_of_getElem? hp)
                  obtain ⟨q, hq⟩ : ∃ q : Nat, p.1 = q := ⟨p.1.toNat, by omega⟩
                  have hq12 : q < 12 := by omega
                  rw [hq] at c0
                  have hval : dv T2 q = p.2 := by
                    rw [H11.out.1, show q = p.1.toNat by omega]
                    exact layS_at _ H6.out.1.nodup (fun r hr => (H6.out.1.each r hr).1) (List.mem_of_getElem? hp)
                  have HV := Lib.hid (And.intro hval (And.intro hbt (And.intro hp hpm)))
                  have hpw := H11.out.2.2.below hb
                  have ⟨a0, a1⟩ := blk_pair hpw.arr
                  have H12 := Lib.hid (And.intro hpw hb)
                  clear hval hbt hp hpm hpw hb hq hml
                  go_wp2_with fail
                  go_region_held3 (fun w' => w'.cell? ⟨w2.heap.size, 1, none⟩ = some (.pointer (some ⟨G1, 0, none⟩)) ∧ w'.cell? ⟨g, k * 2, none⟩ = some (.int .i64 q))
                    (first | exact ⟨y1, y0⟩ | exact ⟨a1, c0⟩)
                    (first
                      | (go_at_call 20; refine (read_one (H12.out.1.two.below (drew_below _)) q hq12).mono ?_; rintro e w13 ⟨v, rfl, hv, hW⟩; have y1 := cell_drew a1 hW; have y0 := cell_drew c0 hW; have z1 := cell_drew c1 hW; obtain ⟨Qv, kv, rfl, hv1, hv2⟩ := hv.form; have H13 := Lib.hid (And.intro hv (below_drew (Below.refl _ _) hW)); clear hW hv))
                  go_wp2_with (go_at_call 14; refine (same_bts (b := true) H13.out.1 (HV.out.2.1.below H13.out.2) (by simpa using HV.out.1)).mono ?_; rintro e w14 ⟨rfl, hW⟩; have H14 := Lib.hid (below_of H13.out.2 hW); clear hW)
                  go_roundw
                  case rel => exact ⟨k + 1, by omega, by go_num, rfl, below_of H12.out.2 H14.out⟩
                  case measure => simp [intOf]; omega
                · obtain rfl : k = i := by omega
                  have hpw := H11.out.2.2.below hb
                  have ⟨a0, a1⟩ := blk_pair hpw.arr
                  have hbw := H11.out.2.1.below.trans (hb.mono H11.out.2.1.size)
                  have H12 := Lib.hid (And.intro hpw hbw)
                  have hsame : dv S8 = dv T2 := by
                    rw [H8.out.1, H7.out.1, H11.out.1, H10.out.1]
                    funext x
                    refine layS_comm _ (fun p hp q hq h => HN.out.1 p hp q hq ?_) x
                    have := (H6.out.1.each p hp).1
                    have := (H6.out.2.1.each q hq).1
                    omega
                  have HS := Lib.hid hsame
                  have hswr := hbw.size
                  clear hpw hbw hb hsame
                  go_wp2_with fail
                  go_region_held3 (fun w' => w'.cell? ⟨w2.heap.size, 0, none⟩ = some (.pointer (some ⟨G0, 0, none⟩)) ∧ w'.cell? ⟨w2.heap.size, 1, none⟩ = some (.pointer (some ⟨G1, 0, none⟩)))
                    (first | exact ⟨x0, x1⟩ | exact ⟨q0, q1⟩ | exact ⟨z0, z1⟩ | exact ⟨y0, y1⟩ | exact ⟨a0, a1⟩)
                    (first
                      | (go_at_call 11; refine (jknown_walk ks _ (HK0.out.below (H12.out.2.trans ((drew_below _).mono hswr)) hkb)).mono ?_; rintro e w13 ⟨rfl, hW⟩; have y0 := cell_drew a0 hW; have y1 := cell_drew a1 hW; have H13 := Lib.hid (And.intro (H12.out.1.below (below_drew (Below.refl _ _) hW)) (below_drew (Below.refl _ _) hW)); clear hW)
                      | (go_at_call 15; refine (data_one H14.out.1.two).mono ?_; rintro e w15 ⟨Qy, ky, rfl, hv, hW⟩; have q0 := cell_below z0 hW; have q1 := cell_below z1 hW; have H15 := Lib.hid (And.intro (H14.out.2.1.below hW) (And.intro hv (below_of H14.out.2.2 hW))); clear hW hv)
                      | (go_at_call 15; refine (data_one H13.out.1.one).mono ?_; rintro e w14 ⟨Qv, kv, rfl, hv, hW⟩; have z0 := cell_below y0 hW; have z1 := cell_below y1 hW; have H14 := Lib.hid (And.intro (H13.out.1.below hW) (And.intro hv (below_of H13.out.2 hW))); clear hW hv)
                      | (go_at_call 14; refine (same_bts (b := true) H15.out.1 H15.out.2.1 (by rw [HS.out]; simp)).mono ?_; rintro e w16 ⟨rfl, hW⟩; have x0 := cell_below q0 hW; have x1 := cell_below q1 hW; have H16 := Lib.hid (below_of H15.out.2.2 hW); clear hW))
                  go_wp2_with fail
                  go_ret
                  exact ⟨rfl, HF.out _ _ H12.out.2 H16.out⟩
        · have e0 : (rb != 0) = true := by simpa using hrb0
          have HBW := Lib.hid (HP.out.2.below.trans ((below_of H5.out.2 hW6).mono HP.out.2.size))
          clear hrb hW6 hrb0
          go_wp2_with (go_at_call 11; refine (jknown_walk ks _ (HK0.out.below HBW.out hkb)).mono ?_; rintro e w9 ⟨rfl, hW⟩; have H9 := Lib.hid hW; clear hW)
          go_ret
          exact ⟨rfl, HF.out _ _ HBW.out H9.out⟩
      · have e0 : (ra != 0) = true := by simpa using hra0
        have HBW := Lib.hid (HP.out.2.below.trans (hW5.mono HP.out.2.size))
        clear hra hW5 hra0
        go_wp2_with (go_at_call 11; refine (jknown_walk ks _ (HK0.out.below HBW.out hkb)).mono ?_; rintro e w9 ⟨rfl, hW⟩; have H9 := Lib.hid hW; clear hW)
        go_ret
        exact ⟨rfl, HF.out _ _ HBW.out H9.out⟩
end Go.Proofs.YtbmflnnfnbepdaaGreatDoor
end

/-
  Opening what comes in: slices of bytes, slices of them. Plain theorems on readings.
-/

section
set_option maxRecDepth 100000
set_option linter.unusedSimpArgs false
set_option linter.unusedVariables false
namespace Go.Proofs.YtbmflnnfnbepdaaGreatDoor
open Go.ChangeShapes Go.WideShapes Go.ChangeAt Go.RowKit

theorem spot_none {w : World} {a : Addr} {u : Value} (h : w.cell? a = some u) : a.spot = none := by
  unfold World.cell? at h
  split at h
  · split at h
    · cases h
    · rename_i hs; simpa using hs
  · cases h
theorem add_zero (a : Addr) : a.add 0 = a := by simp [Addr.add]
theorem byte_of {n : Int} (h : (Lit.int .u8 n).wf = true) : n = nb (BitVec.ofInt 8 n) := by
  rw [← wrap_u8]
  simp [Lit.wf, IntKind.min, IntKind.max, IntKind.signed, IntKind.bits] at h
  simp [IntKind.wrap, IntKind.signed, IntKind.bits]
  omega

section
variable {H : Type} {enc : TypeId × Value → H} {w : World} {base : Nat} {spare : Nat → Bool} {held : Bool}
theorem came_text {fuel : Nat} {v : Value} {x : DataW H × List MemPlace} (h : DataW.trod enc Tryz.prog w base spare held fuel 22 [v] = some x) : ∃ A n c bs, v = .slice A n c ∧ TxtN w w.heap.size A n c bs := by
  rcases open_ints Tryz.underlying22 Tryz.underlying5 (by kernel_rfl) h with ⟨hcs, _⟩ | ⟨a, len, cap, zs, hcs, _, hl, hm, hz, _, hcell, hwz⟩
  · simp only [List.cons.injEq, and_true] at hcs
    subst hcs
    exact ⟨none, 0, 0, [], rfl, ⟨⟨rfl, Nat.le_refl _, Nat.zero_le _, fun h => absurd h (by omega)⟩, fun _ => ⟨rfl, rfl⟩⟩⟩
  · simp only [List.cons.injEq, and_true] at hcs
    subst hcs
    have hlz : len ≤ zs.length := by rw [hz]; split <;> omega
    refine ⟨some a, len, cap, (zs.take len).map (BitVec.ofInt 8), rfl, ⟨⟨by rw [List.length_map, List.length_take]; omega, hl, hm, fun hn => ?_⟩, fun h => by cases h⟩⟩
    have h0 := hcell 0 (by omega)
    rw [add_zero] at h0
    have hs := spot_none h0
    have hlt := World.block_lt_of_cell? w _ h0
    obtain ⟨b, o, s⟩ := a
    simp only at hs
    subst hs
    refine ⟨b, o, rfl, by have h2 : b < w.heap.size := hlt; omega, fun j hj => ?_⟩
    have hjz : j < zs.length := by omega
    have hc := hcell j hjz
    rw [Addr.add_mid] at hc
    rw [hc]
    have hg : (zs.getD j 0) = zs[j] := by simp [List.getD_eq_getElem?_getD, List.getElem?_eq_getElem hjz]
    have hg2 : ((zs.take len).map (BitVec.ofInt 8)).getD j 0 = BitVec.ofInt 8 zs[j] := by
      rw [List.getD_eq_getElem?_getD, List.getElem?_map, List.getElem?_take, if_pos hj, List.getElem?_eq_getElem hjz]
      rfl
    rw [hg, hg2]
    exact congrArg (fun z => some (Value.int .u8 z)) (byte_of (hwz _ (List.getElem_mem hjz)))
theorem came_texts {fuel : Nat} {v : Value} {x : DataW H × List MemPlace} (h : DataW.trod enc Tryz.prog w base spare held fuel 130 [v] = some x) : ∃ A n c xs, v = .slice A n c ∧ n ≤ 9223372036854775807 ∧ TxtsN w w.heap.size A n xs := by
  rcases Go.Deep.open_slice1 Tryz.underlying130 (by kernel_rfl) h with ⟨hcs, _⟩ | ⟨a, len, cap, m, n, V, D, Pl, hcs, _, hl, hm, hmm, _, hx⟩
  · simp only [List.cons.injEq, and_true] at hcs
    subst hcs
    exact ⟨none, 0, 0, [], rfl, Nat.zero_le _, ⟨rfl, fun h => absurd h (by omega)⟩⟩
  · simp only [List.cons.injEq, and_true] at hcs
    subst hcs
    have hlm : len ≤ m := by rw [hmm]; split <;> omega
    have each : ∀ i, i < len → ∃ r : Option Addr × Nat × Nat × List B8, w.cell? (a.add i) = some (.slice r.1 r.2.1 r.2.2.1) ∧ TxtN w w.heap.size r.1 r.2.1 r.2.2.1 r.2.2.2 := by
      intro i hi
      obtain ⟨h1, h2⟩ := hx i (by omega)
      obtain ⟨A2, n2, c2, x2, q2, r2⟩ := came_text h2
      exact ⟨(A2, n2, c2, x2), by rw [h1, q2], r2⟩
    obtain ⟨f, hf⟩ := Go.Deep.choose_lt each
    refine ⟨some a, len, cap, (List.range len).map (fun i => (f i).2.2.2), rfl, by unfold maxLen at hm; omega, ⟨by simp, fun hn => ?_⟩⟩
    have d0 := (hf 0 hn).1
    rw [add_zero] at d0
    have hs := spot_none d0
    have hlt := World.block_lt_of_cell? w _ d0
    obtain ⟨b, o, s⟩ := a
    simp only at hs
    subst hs
    refine ⟨b, o, rfl, by have h2 : b < w.heap.size := hlt; omega, fun i y hy => ?_⟩
    have hi : i < len := by
      have := (List.getElem?_eq_some_iff.1 hy).1
      simpa using this
    rw [List.getElem?_map, List.getElem?_range hi] at hy
    simp only [Option.map_some, Option.some.injEq] at hy
    subst hy
    obtain ⟨c0, rb⟩ := hf i hi
    rw [Addr.add_mid] at c0
    exact ⟨_, _, _, c0, rb⟩
end

end Go.Proofs.YtbmflnnfnbepdaaGreatDoor
end

/-
  Opening what comes in: lists of writes. Plain theorems on readings.
-/

section
set_option linter.unusedSimpArgs false
set_option linter.unusedVariables false
set_option maxRecDepth 100000
namespace Go.Proofs.YtbmflnnfnbepdaaGreatDoor
open Go.ChangeShapes Go.WideShapes Go.ChangeAt Go.RowKit

noncomputable def rwfields : Array Field := match Tryz.prog.underlying 52 with | some (.struct f) => f | _ => #[]
theorem rwfields_eq : Tryz.prog.underlying 52 = some (.struct rwfields) := by kernel_rfl
theorem rwf0 : (rwfields[0]?).map (fun f => (f.type, f.offset)) = some (3, 0) := by kernel_rfl
theorem rwf1 : (rwfields[1]?).map (fun f => (f.type, f.offset)) = some (22, 1) := by kernel_rfl
theorem rwcells : Tryz.prog.cellsOf 52 = 2 := by kernel_rfl
theorem rwf_get {i : Nat} {t o : Nat} (h : (rwfields[i]?).map (fun f => (f.type, f.offset)) = some (t, o)) : ∃ f, rwfields[i]? = some f ∧ f.type = t ∧ f.offset = o := by
  cases hf : rwfields[i]? with
  | none => rw [hf] at h; cases h
  | some f => rw [hf] at h; simp only [Option.map_some, Option.some.injEq, Prod.mk.injEq] at h; exact ⟨f, rfl, h.1, h.2⟩
/-- A write that came in, as two values and what they lead to. -/
def CameW (w : World) (v0 v1 : Value) (p : Int × List B8) : Prop := v0 = .int .i64 p.1 ∧ ∃ A n c, v1 = .slice A n c ∧ TxtN w w.heap.size A n c p.2

section
variable {H : Type} {enc : TypeId × Value → H} {w : World} {base : Nat} {spare : Nat → Bool} {held : Bool}
theorem came_write {fuel : Nat} {v0 v1 : Value} {x : DataW H × List MemPlace} (h : DataW.trod enc Tryz.prog w base spare held fuel 52 [v0, v1] = some x) : ∃ p, CameW w v0 v1 p := by
  obtain ⟨xs, n, _, _, _, hxl, hf⟩ := DataW.trod_struct rwfields_eq h
  obtain ⟨f0, g0, t0, o0⟩ := rwf_get rwf0
  obtain ⟨f1, g1, t1, o1⟩ := rwf_get rwf1
  have k0 := hf 0 f0 g0
  have k1 := hf 1 f1 g1
  rw [t0, o0, show Tryz.prog.cellsOf 3 = 1 from by kernel_rfl] at k0
  rw [t1, o1, show Tryz.prog.cellsOf 22 = 1 from by kernel_rfl] at k1
  simp only [List.drop_zero, List.drop_succ_cons, List.take_succ_cons, List.take_zero] at k0 k1
  have full : ∀ i, i < 2 → ∃ y, xs[i]? = some y := by
    intro i hi
    refine ⟨_, List.getElem?_eq_getElem ?_⟩
    have h3 := (Array.getElem?_eq_some_iff.1 g1).1
    omega
  obtain ⟨y0, e0⟩ := full 0 (by omega)
  obtain ⟨y1, e1⟩ := full 1 (by omega)
  rw [e0] at k0
  rw [e1] at k1
  obtain ⟨z0, q0, _, w0⟩ := DataW.trod_int Tryz.underlying3 k0
  simp only [List.cons.injEq, and_true] at q0
  obtain ⟨A2, n2, c2, b, q2, r2⟩ := came_text k1
  exact ⟨⟨z0, b⟩, q0, A2, n2, c2, q2, r2⟩
theorem came_writes {fuel : Nat} {v : Value} {x : DataW H × List MemPlace} (h : DataW.trod enc Tryz.prog w base spare held fuel 45 [v] = some x) :
    ∃ A n c ws, v = .slice A n c ∧ n ≤ 9223372036854775807 ∧ WIn w A n ws := by
  rcases Go.Deep.open_slice Tryz.underlying45 h with ⟨hcs, _⟩ | ⟨a, len, cap, m, n, D, Pl, hcs, _, hl, hm, hmm, _, hx⟩
  · simp only [List.cons.injEq, and_true] at hcs
    subst hcs
    exact ⟨none, 0, 0, [], rfl, by omega, rfl, fun h => absurd h (by omega)⟩
  · simp only [List.cons.injEq, and_true] at hcs
    subst hcs
    have hlm : len ≤ m := by rw [hmm]; split <;> omega
    have each : ∀ i, i < len → ∃ q : Int × List B8, ∃ v0 v1, w.cell? (a.add (i * 2)) = some v0 ∧ w.cell? ((a.add (i * 2)).add 1) = some v1 ∧ CameW w v0 v1 q := by
      intro i hi
      obtain ⟨cs', h1, h2⟩ := hx i (by omega)
      rw [rwcells] at h1
      obtain ⟨_, hlen, hcell⟩ := World.cells?_some h1
      match cs', hlen with
      | [v0, v1], _ =>
        obtain ⟨q, hq⟩ := came_write h2
        have e0 := hcell 0 (by omega)
        rw [add_zero] at e0
        exact ⟨q, v0, v1, e0, hcell 1 (by omega), hq⟩
    have : Inhabited (Int × List B8) := ⟨(0, [])⟩
    obtain ⟨f, hf⟩ := Go.Deep.choose_lt each
    refine ⟨some a, len, cap, (List.range len).map f, rfl, by unfold maxLen at hm; omega, by simp, fun hn => ?_⟩
    have hsp : a.spot = none := by
      obtain ⟨_, _, d0, _⟩ := hf 0 hn
      rw [Nat.zero_mul, add_zero] at d0
      exact spot_none d0
    have hlt : a.block < w.heap.size := by
      obtain ⟨_, _, d0, _⟩ := hf 0 hn
      rw [Nat.zero_mul, add_zero] at d0
      exact World.block_lt_of_cell? w _ d0
    obtain ⟨b, o, sp⟩ := a
    simp only at hsp
    subst hsp
    refine ⟨b, o, rfl, hlt, fun i t ht => ?_⟩
    have hi : i < len := by
      have := (List.getElem?_eq_some_iff.1 ht).1
      simpa using this
    rw [List.getElem?_map, List.getElem?_range hi] at ht
    simp only [Option.map_some, Option.some.injEq] at ht
    subst ht
    obtain ⟨v0, v1, c0, c1, r0, A2, n2, k2, r2, hb⟩ := hf i hi
    subst r0 r2
    simp only [add_off] at c0 c1
    exact ⟨A2, n2, k2, c0, c1, hb⟩
end
end Go.Proofs.YtbmflnnfnbepdaaGreatDoor
end

/-
  WalOrder: for every input the law returns true, and the arguments read as they read: its card, tied to the program's text. Condition: the listed variable reads as its initialiser lays it.
-/

section
set_option linter.unusedSimpArgs false
set_option linter.unusedVariables false
set_option maxRecDepth 100000
namespace Go.Proofs.YtbmflnnfnbepdaaGreatDoor.walOrder
open Go.ChangeShapes Go.WideShapes Go.ChangeAt Go.RowKit

set_option maxRecDepth 100000 in
theorem contract (H : Type) (enc : TypeId × Value → H) (W : World) (base : Nat) (args : Array Value) (ds gs : List (DataW H)) (before : List MemPlace)
    (hval : ∀ (j : Nat) t v, Tryz.f4.params[j]? = some t → args[j]? = some v → Value.okWide Tryz.prog W .any base t v)
    (hW : DataW.Whole enc Tryz.prog Tryz.f4.params.toList Rows.walOrderSpec.vars false W args.toList ds gs before) (hL : laidMetH Tryz.prog Rows.walOrderRow.laid W) :
    Calls Tryz.prog 4 args W fun e W' => ∃ v, e = .returned v ∧ Rows.walOrderSpec.post enc Tryz.prog Tryz.f4 false true false false W args v W' := by
  have hW' := hW
  obtain ⟨p, q, hA0, hV, rfl, hfz, hnd⟩ := hW
  have hA : DataW.TrodAll enc Tryz.prog W 0 (fun _ => true) true Tryz.f4.params.toList args.toList ds p := hA0
  rw [Tryz.params4] at hA hval
  obtain ⟨v0, vs0, d0, ds0, p0, q0, hargs, rfl, rfl, h0, r0⟩ := trodAll_cons hA
  obtain ⟨v1, vs1, d1, ds1, p1, q1, rfl, rfl, rfl, h1, r1⟩ := trodAll_cons r0
  obtain ⟨rfl, rfl, rfl⟩ := trodAll_nil r1
  obtain rfl : args = #[v0, v1] := by cases args; simp_all
  obtain ⟨rfl, rfl⟩ := trodVars_none hV
  have k0 := h0
  have k1 := h1
  have lt0 : ∀ x ∈ p0, x.block < W.heap.size := by obtain ⟨m, hm⟩ := k0; exact DataW.trod_lt m _ _ _ hm
  have lt1 : ∀ x ∈ p1, x.block < W.heap.size := by obtain ⟨m, hm⟩ := k1; exact DataW.trod_lt m _ _ _ hm
  clear hA0
  obtain ⟨a0, len0, cap0, rfl⟩ := okWide_slice Tryz.underlying45 (hval 0 45 v0 rfl rfl)
  obtain ⟨A0, n0, c0, ts0, e0, hn0, hk0⟩ : ∃ A n c ts, Value.slice a0 len0 cap0 = .slice A n c ∧ n ≤ 9223372036854775807 ∧ WIn W A n ts := by
    obtain ⟨fuel, hf⟩ := h0
    exact came_writes (by simpa [Value.cells] using hf)
  cases e0
  obtain ⟨a1, len1, cap1, rfl⟩ := okWide_slice Tryz.underlying45 (hval 1 45 v1 rfl rfl)
  obtain ⟨A1, n1, c1, ts1, e1, hn1, hk1⟩ : ∃ A n c ts, Value.slice a1 len1 cap1 = .slice A n c ∧ n ≤ 9223372036854775807 ∧ WIn W A n ts := by
    obtain ⟨fuel, hf⟩ := h1
    exact came_writes (by simpa [Value.cells] using hf)
  cases e1
  refine (order_walk Ks W _ _ _ _ _ _ _ _ (roots_of hL) hk0 hk1 hn0 hn1).mono fun e W' ⟨he, bel⟩ => ?_
  subst he
  exact ⟨_, rfl, _, _, _, [], _, [], hW', trodAll_mk1 (shut_bool Tryz.underlying4 _), (trodAll_cons_mk (Below.trod laidOut (by kernel_rfl) (of_decide_eq_true (by kernel_rfl)) k0 bel lt0) (trodAll_cons_mk (Below.trod laidOut (by kernel_rfl) (of_decide_eq_true (by kernel_rfl)) k1 bel lt1) trodAll_mk0)), rfl, bel.frame _, fun h => by cases h⟩

theorem laid_met (os : Os) : laidMet Tryz.prog Rows.walOrderRow.laid ((laidWorld os).forCall (fun _ _ => 0) ⟨#[], #[.slice none 0 0, .slice none 0 0], []⟩).memory :=
  laidMet_of_run' 8 (by kernel_rfl) (by kernel_rfl)
theorem reads (os : Os) {H : Type} (enc : TypeId × Value → H) : ∃ places, DataW.whole enc Tryz.prog ((laidWorld os).forCall (fun _ _ => 0) ⟨#[], #[.slice none 0 0, .slice none 0 0], []⟩).memory Tryz.f4.params.toList Rows.walOrderSpec.vars false (#[.slice none 0 0, .slice none 0 0] : Array Value).toList 8 = some ([.nil, .nil], [], places) :=
  ⟨[], by kernel_rfl⟩

set_option maxRecDepth 100000 in
theorem lifted (os : Os) (started : os.Started) (H : Type) (enc : TypeId × Value → H) (F : Stop.Interp) :
    ReturnsInHanded {} Tryz.checked os 4 .any ((OpenSpec.ofChange Rows.walOrderSpec).preRow enc Tryz.prog Tryz.f4 Rows.walOrderRow.domain false Rows.walOrderRow.laid) (((OpenSpec.ofChange Rows.walOrderSpec).at F).post enc Tryz.prog Tryz.f4 false true false false) := by
  obtain ⟨places, hx⟩ := reads os enc
  refine returnsInHanded_of_row (C := Tryz.checked) (s := OpenSpec.ofChange Rows.walOrderSpec) own started (by kernel_rfl) Tryz.func4
    (witness_row_at (enc := enc) (C := Tryz.checked) false (laidWorld os) #[.slice none 0 0, .slice none 0 0] rfl (by kernel_rfl) (by kernel_rfl) (by kernel_rfl)
      (OpenSpec.preRow_of_cond 8 hx (by kernel_rfl) (fun k hk => by cases hk) (by kernel_rfl) (laid_met os))) ?_
  intro W base args ds gs before hval hW _ _ _ hL _ _
  exact contract H enc W base args ds gs before hval hW hL

theorem said : Rows.WalOrderSaid :=
  OpenClaim.holds_of_cond 4 Tryz.f4 rfl rfl rfl rfl rfl rfl rfl ⟨rfl, rfl, rfl, rfl, rfl⟩ rfl rfl rfl rfl rfl (by kernel_rfl) Tryz.func4 (by kernel_rfl)
    (of_decide_eq_true (by kernel_rfl)) (by unfold Func.isWrapper; first | (rw [if_pos (by decide +kernel)]; kernel_rfl) | (rw [if_neg (by decide +kernel)]; exact ⟨rfl, rfl⟩))
    (fun os started H enc _ F => by rw [OpenClaim.pre_eq_preRow]; exact lifted os started H enc F)

theorem plain (f : FuncId) (fn : Func) (hf : Tryz.pinned.checked.prog.funcNamed "creel/creellaw04.WalOrder" = some f) (hfn : Tryz.pinned.checked.prog.funcs[f]? = some fn) :
    false = Tryz.pinned.checked.prog.looks [] ∧ ∀ (j : Nat) t, fn.params[j]? = some t → Tryz.pinned.checked.prog.wantsStandIn t = false := by
  obtain rfl : f = 4 := Option.some.inj ((show Tryz.prog.funcNamed "creel/creellaw04.WalOrder" = some 4 by kernel_rfl).symm.trans hf) |>.symm
  obtain rfl : fn = Tryz.f4 := (Option.some.inj (Tryz.func4.symm.trans hfn)).symm
  refine ⟨by kernel_rfl, fun j t ht => ?_⟩
  rw [Tryz.params4] at ht
  have hm : t ∈ [45, 45] := by simpa using Array.mem_of_getElem? ht
  have hall : ([45, 45].all fun u => !Tryz.prog.wantsStandIn u) = true := by kernel_rfl
  exact (show Tryz.prog.wantsStandIn t = false by simpa using List.all_eq_true.1 hall t hm)

end Go.Proofs.YtbmflnnfnbepdaaGreatDoor.walOrder
namespace Go.Proofs.YtbmflnnfnbepdaaGreatDoor
theorem WalOrder_holds : Rows.WalOrderCardSaid :=
  Claim7.holds_tied_plain_at .later [] _ _ _ _ walOrder.said (fun _ h => by cases h) (by kernel_rfl) (fun _ h => by cases h) walOrder_row_tie rfl ⟨rfl, rfl⟩ (by kernel_rfl) rfl walOrder.plain (by kernel_rfl)
end Go.Proofs.YtbmflnnfnbepdaaGreatDoor
end
