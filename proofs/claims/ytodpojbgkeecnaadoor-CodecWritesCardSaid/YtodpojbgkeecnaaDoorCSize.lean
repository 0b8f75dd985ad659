/-
  size: how many bytes a right value has, up to the bound. Conditions: the value reads as a tree of no more than 131072 bytes; the library's table is as laid.
-/
import Derived.Test.YtodpojbgkeecnaaDoorCDepth
import Derived.Test.YtodpojbgkeecnaaDoorShelf
import Derived.Lib.AppendIntMem
import Derived.Lib.ItoaLen
import Derived.Deep.QuietTactic
import Derived.BigQuiet
import Derived.Deep.RegionHeld3
import Derived.Deep.RegionLaw
set_option linter.unusedSimpArgs false
set_option linter.unusedVariables false
namespace Go.Proofs.YtodpojbgkeecnaaDoor
open Go.RowKit

mutual
/-- A value's bytes. -/
def T.enc : T → List UInt8
  | .mk k n b l => if k = 0 then 105 :: (Lib.itoa n ++ [59]) else if k = 1 then Lib.itoa (b.length : Int) ++ 58 :: b else 40 :: (T.encAll l ++ [41])
def T.encAll : List T → List UInt8
  | [] => []
  | t :: r => t.enc ++ T.encAll r
end
theorem T.encAll_snoc : ∀ (l : List T) (t : T), T.encAll (l ++ [t]) = T.encAll l ++ t.enc
  | [], t => by simp [T.encAll]
  | s :: r, t => by
    show T.encAll (s :: (r ++ [t])) = _
    rw [T.encAll, T.encAll, T.encAll_snoc r t, List.append_assoc]
theorem T.encAll_take {l : List T} {k : Nat} {t : T} (h : l[k]? = some t) : T.encAll (l.take (k + 1)) = T.encAll (l.take k) ++ t.enc := by
  rw [List.take_add_one, h]
  exact T.encAll_snoc _ t
theorem T.encAll_take_le : ∀ (l : List T) (k : Nat), (T.encAll (l.take k)).length ≤ (T.encAll l).length
  | [], k => by simp
  | s :: r, 0 => by simp [T.encAll]
  | s :: r, k + 1 => by
    rw [List.take_succ_cons, T.encAll, T.encAll]
    have := T.encAll_take_le r k
    simp
    omega
theorem T.enc_le {l : List T} {t : T} (h : t ∈ l) : t.enc.length ≤ (T.encAll l).length := by
  induction l with
  | nil => cases h
  | cons s r ih =>
    rw [T.encAll]
    simp
    rcases List.mem_cons.1 h with rfl | h
    · omega
    · have := ih h; omega

/-- The library's table of powers, below block B. -/
def Tab (B : Nat) (w : World) : Prop := Lib.TabBelow Tryd.prog B w "internal/strconv.uint64pow10" .u64 Lib.pow10Tab
theorem Tab.on {B : Nat} {w w' : World} (h : Tab B w) (hb : Below B w w') : Tab B w' := Lib.TabBelow.on h hb
theorem Tab.later {B : Nat} {w w' : World} (h : Tab B w) (hB : B ≤ w.heap.size) (hb : Below w.heap.size w w') : Tab B w' := Lib.TabBelow.on h (hb.mono hB)

theorem itoa_any (B : Nat) (w : World) (n : Int) (h0 : -9223372036854775808 ≤ n) (h1 : n ≤ 9223372036854775807) (ht : Tab B w) : Calls Tryd.prog 34 #[.int .i64 n] w fun e w' => e = .returned (.string ⟨(Lib.itoa n).toArray⟩) ∧ Below w.heap.size w w' :=
  (Tryd.strconv_Itoa n h0 h1 w ht.here).mono fun _ _ ⟨he, k, os, hw⟩ => ⟨he, by rw [hw]; exact Lib.below_grow _ w (Nat.le_refl _) k os⟩

set_option maxRecDepth 100000 in
set_option maxHeartbeats 1000000 in
theorem size_any : ∀ (N : Nat) (t : T), t.high < N → t.ok → t.enc.length ≤ 131072 → ∀ (B : Nat) (w : World) (Q : Nat → Prop) (v : Value), B ≤ w.heap.size → Tab B w → In w Q t v → Calls Tryd.prog 22 #[v] w fun e w' => e = .returned (.int .i64 (t.enc.length : Nat)) ∧ Below w.heap.size w w'
  | 0, t, h, _, _, _, _, _, _, _, _, _ => absurd h (Nat.not_lt_zero _)
  | N + 1, .mk kd nn b l, hN, hok, hlen, B, w, Q, v, hB, htab, hin => by
    obtain ⟨A, nb, cb, L, nl, cl, xs, rfl, hb, hl⟩ := hin.open_
    have hnl : nl ≤ 1000000 := by rw [T.ok] at hok; have := hl.len; omega
    have hnb : nb ≤ 1000000 := by rw [T.ok] at hok; have := hb.len; omega
    have hn1 : -9223372036854775808 ≤ nn ∧ nn ≤ 9223372036854775807 := by rw [T.ok] at hok; exact hok.2.1
    have HL := Lib.hid hl
    have HBL := Lib.hid hb.len
    have hb1 : Below w.heap.size w (w.alloc (.cells #[.int .i64 kd, .int .i64 nn, .slice A nb cb, .slice L nl cl] 26)) := (Below.refl _ _).alloc (Nat.le_refl _) _
    have HB1 := Lib.hid hb1
    have HT := Lib.hid (htab.later hB hb1)
    by_cases k0 : kd = 0
    · subst k0
      have he : (T.mk 0 nn b l).enc = 105 :: (Lib.itoa nn ++ [59]) := by rw [T.enc, if_pos rfl]
      have hil := Lib.itoa_length_le nn hn1.1 hn1.2
      have HE := Lib.hid he
      clear hl hb hin hok hN size_any hb1 he
      go_enter Tryd.func22, Tryd.ntmps22
      go_wp2_with fail
      refine (itoa_any B _ nn hn1.1 hn1.2 HT.out).mono ?_
      rintro e w2 ⟨rfl, hb2⟩
      have HB2 := Lib.hid (HB1.out.trans (hb2.mono HB1.out.size))
      clear hb2
      go_wp2_with fail
      go_ret
      refine ⟨ret_int ?_, HB2.out⟩
      rw [HE.out]
      simp [ByteArray.size]
      omega
    · by_cases k1 : kd = 1
      · subst k1
        have he : (T.mk 1 nn b l).enc = Lib.itoa (b.length : Int) ++ 58 :: b := by rw [T.enc, if_neg k0, if_pos rfl]
        have hil := Lib.itoa_length_le (b.length : Int) (by omega) (by have := HBL.out; omega)
        have HE := Lib.hid he
        have HN := Lib.hid hlen
        clear hl hb hin hok hN size_any hb1 he hlen
        go_enter Tryd.func22, Tryd.ntmps22
        go_wp2_with fail
        have c2 := (Blk.new w 26 [.int .i64 1, .int .i64 nn, .slice A nb cb, .slice L nl cl]).cell 2
        simp only [List.getElem?_cons_succ, List.getElem?_cons_zero] at c2
        go_region_held3 (fun w' => w'.cell? ⟨w.heap.size, 2, none⟩ = some (.slice A nb cb)) (go_keep)
          (first | (go_at_call 34; refine (itoa_any B _ nb (by omega) (by omega) (HT.out.on (Below.refl _ _).drew)).mono ?_; rintro e w2 ⟨rfl, hb2⟩; have HB2 := Lib.hid (HB1.out.drew.trans (hb2.mono HB1.out.size)); have d2 := (((Blk.new w 26 [.int .i64 1, .int .i64 nn, .slice A nb cb, .slice L nl cl]).drew.below hb2 (by simp)).cell 2); simp only [List.getElem?_cons_succ, List.getElem?_cons_zero] at d2; clear hb2))
        go_wp2_with fail
        go_ret
        refine ⟨ret_int ?_, HB2.out⟩
        rw [HE.out]
        have hBL := HBL.out
        have hs1 : (ByteArray.mk (Lib.itoa (nb : Int)).toArray).size = (Lib.itoa (nb : Int)).length := by simp [ByteArray.size]
        rw [hBL] at hil ⊢
        simp only [hs1, List.length_append, List.length_cons]
        rw [IntWalk.i64_in (((Lib.itoa (nb : Int)).length : Nat) + 1) (by omega), IntWalk.i64_in _ (by omega)]
        omega
      · have he : (T.mk kd nn b l).enc = 40 :: (T.encAll l ++ [41]) := by rw [T.enc, if_neg k0, if_neg k1]
        have hih : ∀ t ∈ l, ∀ (B : Nat) (w : World) (Q : Nat → Prop) (v : Value), B ≤ w.heap.size → Tab B w → In w Q t v → Calls Tryd.prog 22 #[v] w fun e w' => e = .returned (.int .i64 (t.enc.length : Nat)) ∧ Below w.heap.size w w' := fun t ht B w Q v => size_any N t (by have := T.high_lt (k := kd) (n := nn) (b := b) ht; omega) (by rw [T.ok] at hok; exact T.okAll_mem hok.2.2.2.2 t ht) (by have := T.enc_le ht; rw [he] at hlen; simp at hlen; omega) B w Q v
        have b0 : (kd == 0) = false := by simp [k0]
        have b1 : (kd == 1) = false := by simp [k1]
        have hle : (T.encAll l).length + 2 ≤ 131072 := by rw [he] at hlen; simp at hlen; omega
        have HE := Lib.hid he
        have HH := Lib.hid hih
        clear hl hb hin hok hN size_any hb1 he hlen hih
        go_enter Tryd.func22, Tryd.ntmps22
        go_wp2_with fail
        go_loopw [3, 30] (fun v i wr => ∃ k : Nat, k ≤ nl ∧ i = .int .i64 k ∧ (∃ y : Int, y = ((T.encAll (l.take k)).length : Nat) + 2 ∧ v = .int .i64 y) ∧ Below w.heap.size w wr) (fun _ i _ => nl - (intOf i).toNat)
        case atStart => exact ⟨0, Nat.zero_le _, rfl, ⟨2, by simp [T.encAll], rfl⟩, (Below.refl _ _).alloc (Nat.le_refl _) _⟩
        case round =>
          obtain ⟨k, hk, rfl, ⟨y, hy, rfl⟩, hbel⟩ := hrel
          have hle2 := T.encAll_take_le l k
          have hy0 : 0 ≤ y := by omega
          have hy1 : y ≤ 131072 := by omega
          have HY := Lib.hid hy
          clear hy
          by_cases hkn : k < nl
          · obtain ⟨g, o, rfl, hQ, hc⟩ := HL.out.cells (by omega)
            have hlk : l[k]? = some (l[k]'(by have := HL.out.len; omega)) := List.getElem?_eq_getElem _
            have hmem : (l[k]'(by have := HL.out.len; omega)) ∈ l := List.getElem_mem _
            generalize (l[k]'(by have := HL.out.len; omega)) = t at hlk hmem
            have htk := congrArg List.length (T.encAll_take hlk)
            rw [List.length_append] at htk
            have hle3 := T.encAll_take_le l (k + 1)
            have hlw := HL.out.keep (w' := wr) (Q' := Q) fun g hg hlt => ⟨hbel.block g hlt, hg⟩
            obtain ⟨c0, c1, c2, c3, e0, e1, e2, e3, hint⟩ := hlw.get k _ hlk
            obtain ⟨k', n', b', l'⟩ := t
            obtain ⟨A', nb', cb', L', nl', cl', xs', hv, _, _⟩ := hint.open_
            injection hv with hv
            simp only [Array.mk.injEq, List.cons.injEq, and_true] at hv
            obtain ⟨rfl, rfl, rfl, rfl⟩ := hv
            have HO := Lib.hid (And.intro hbel hint)
            have HT2 := Lib.hid (And.intro htk hle3)
            have HM := Lib.hid hmem
            have hs0 := hbel.size
            have HT4 : Hid (Tab B (wr.alloc (.cells #[.int .i64 k', .int .i64 n', .slice A' nb' cb', .slice L' nl' cl'] 26))) := Lib.hid ((htab.later hB hbel).later (by omega) ((Below.refl _ _).alloc (Nat.le_refl _) _))
            clear hbel hint hlk hmem hQ hc hlw htk hle3
            go_wp2_with fail
            refine (HH.out _ HM.out B _ Q _ (by simp; omega) HT4.out (HO.out.2.below ((Below.refl _ _).alloc (Nat.le_refl _) _))).mono ?_
            rintro e w2 ⟨rfl, hb2⟩
            rw [World.size_alloc] at hb2
            have hb3 : Below w.heap.size w w2 := HO.out.1.trans (((Below.refl _ wr).alloc (Nat.le_refl _) _).trans (hb2.mono (by omega)) |>.mono HO.out.1.size)
            have H3 := Lib.hid hb3
            clear hb2 hb3
            obtain ⟨z, hz⟩ : ∃ z : Int, z = ((T.mk k' n' b' l').enc.length : Nat) := ⟨_, rfl⟩
            rw [← hz]
            have hz0 : 0 ≤ z := by omega
            have hyz : y + z ≤ 131072 := by have := HT2.out.1; have := HT2.out.2; have := HY.out; omega
            have HZ := Lib.hid hz
            clear hz
            go_wp2_with fail
            go_roundw
            case rel =>
              refine ⟨k + 1, by omega, by go_num, ⟨_, ?_, rfl⟩, H3.out⟩
              have h1 := HT2.out.1
              have h3 := HZ.out
              have h4 := HY.out
              omega
            case measure => simp [intOf]; omega
          · have hend : l.take k = l := List.take_of_length_le (by have := HL.out.len; omega)
            have HEN := Lib.hid hend
            clear hend
            go_wp2_with fail
            go_ret
            refine ⟨ret_int ?_, hbel⟩
            have h4 := HY.out
            rw [HEN.out] at h4
            rw [HE.out]
            simp
            omega

end Go.Proofs.YtodpojbgkeecnaaDoor
