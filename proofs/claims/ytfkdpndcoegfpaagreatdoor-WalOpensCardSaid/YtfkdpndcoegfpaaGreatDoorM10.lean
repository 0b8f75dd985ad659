/-
  hasAll: whether all sectors that are written are there. Conditions: the disk has power that never goes; they are there.
-/
import Derived.Test.YtfkdpndcoegfpaaGreatDoorM9
import Derived.Maps.OwnSet
import Derived.Maps.OwnOps
import Derived.Maps.Own
import Derived.SliceStrings
import Derived.Test.YtfkdpndcoegfpaaGreatDoorM3
section
set_option maxRecDepth 100000
set_option linter.unusedSimpArgs false
set_option linter.unusedVariables false
namespace Go.Proofs.YtfkdpndcoegfpaaGreatDoor
open Go.RowKit

theorem hasOne (B D L n j : Nat) (S : Nat → List B8) (cw cf : Nat) (w : World) (b : Nat) (no : Int) (Q : Option Addr) (m k : Nat) (hd : Calm B D L n S cw cf w) (hb : Blk w b 114 [.pointer (some ⟨D, 0, none⟩), .int .i64 (j : Int)]) (hj : j + 1 < n) (hn : n ≤ 4096)
    (h0 : 0 ≤ no) (h1 : no < (n - j - 1 : Nat)) :
    Calls Tryz.prog 142 #[.agg #[.int .i64 no, .slice Q m k], .pointer (some ⟨b, 0, none⟩)] w fun e w' => e = .returned (.bool false) ∧ Below w.heap.size w w' := by
  have hB := new_below w (.cells #[.int .i64 no, .slice Q m k] 133)
  have c0 := hb.cell 0
  have c1 := hb.cell 1
  have hlt := hb.lt
  have HD := Lib.hid (hd.below hB)
  have HB := Lib.hid hB
  clear hd hb hB
  go_enter Tryz.func142, Tryz.ntmps142
  go_wp2_with (go_at_call 63; refine (has_yes HD.out hj hn no h0 h1).mono ?_; rintro e w' ⟨rfl, hb2⟩; have HB2 := Lib.hid (HB.out.trans (hb2.mono HB.out.size)); clear hb2)
  go_ret
  exact ⟨rfl, HB2.out⟩

theorem indexNone (B D L n j : Nat) (S : Nat → List B8) (cw cf : Nat) (w : World) (b : Nat) (A : Nat → Prop) (P : Option Addr) (m c : Nat) (ws : List (Int × List B8)) (hd : Calm B D L n S cw cf w) (hb : Blk w b 114 [.pointer (some ⟨D, 0, none⟩), .int .i64 (j : Int)]) (hj : j + 1 < n) (hn : n ≤ 4096)
    (hw : Wrs A w (.slice P m c) ws) (hok : ∀ p ∈ ws, 0 ≤ p.1 ∧ p.1 < (n - j - 1 : Nat)) :
    Calls Tryz.prog 164 #[.slice P m c, .func (.func 142) #[] #[.pointer (some ⟨b, 0, none⟩)]] w fun e w' => e = .returned (.int .i64 (-1)) ∧ Below w.heap.size w w' := by
  have hlen := hw.len
  have hm : m ≤ 9223372036854775807 := by obtain ⟨P', c', e, h1, h2⟩ := hw.form; cases e; omega
  have H := Lib.hid (And.intro hd (And.intro hb (And.intro hw (And.intro hok hlen))))
  clear hd hb hw hok hlen
  go_enter Tryz.func164, Tryz.ntmps164
  go_wp2_with fail
  go_loopw [8] (fun iv wx => ∃ i : Nat, i ≤ m ∧ iv = .int .i64 i ∧ Below w.heap.size w wx) (fun iv _ => m - (intOf iv).toNat)
  case atStart => exact ⟨0, Nat.zero_le _, rfl, Below.refl _ _⟩
  case round =>
    obtain ⟨i, hi, rfl, h1⟩ := hrel
    have HR := Lib.hid h1
    clear h1
    by_cases hlt : i < m
    · obtain ⟨p, hp⟩ : ∃ p, ws[i]? = some p := ⟨_, List.getElem?_eq_getElem (by have := H.out.2.2.2.2; omega)⟩
      obtain ⟨g, Q, m2, k2, rfl, hg, hAg, c0, c1, hl2, hbt, hmk, hk⟩ := (H.out.2.2.1.below HR.out).at_ hp
      obtain ⟨q0, q1⟩ := H.out.2.2.2.1 p (List.mem_of_getElem? hp)
      clear hp hbt hl2
      go_wp2_with fail
      refine (hasOne B D L n j S cw cf wr b p.1 Q m2 k2 (H.out.1.below HR.out) (H.out.2.1.below HR.out H.out.2.1.lt) hj hn q0 q1).mono ?_
      rintro e w2 ⟨rfl, h1⟩
      have H2 := Lib.hid (HR.out.trans (h1.mono HR.out.size))
      clear h1
      go_wp2_with fail
      go_roundw
      case rel => exact ⟨i + 1, by omega, by go_num, H2.out⟩
      case measure => simp [intOf]; omega
    · obtain rfl : i = m := by omega
      go_wp2_with fail
      go_ret
      exact ⟨rfl, HR.out⟩

theorem hasAll_yes (B D L n j : Nat) (S : Nat → List B8) (cw cf : Nat) (w : World) (A : Nat → Prop) (P : Option Addr) (m c : Nat) (ws : List (Int × List B8)) (hd : Calm B D L n S cw cf w) (hj : j + 1 < n) (hn : n ≤ 4096)
    (hw : Wrs A w (.slice P m c) ws) (hok : ∀ p ∈ ws, 0 ≤ p.1 ∧ p.1 < (n - j - 1 : Nat)) :
    Calls Tryz.prog 105 #[lay_ D j, .slice P m c] w fun e w' => e = .returned (.bool true) ∧ Below w.heap.size w w' := by
  have hB := new_below w (.cells #[.pointer (some ⟨D, 0, none⟩), .int .i64 (j : Int)] 114)
  have hblk := Blk.new w 114 [.pointer (some ⟨D, 0, none⟩), .int .i64 (j : Int)]
  have hmf : ∀ (fn : Fn) (first cap : Array Value) (w : World), (Instr.makeFunc fn first cap).run Tryz.prog w = .ok (.func fn first cap) w := fun _ _ _ _ => rfl
  have H := Lib.hid (And.intro (hd.below hB) (And.intro hblk (And.intro (hw.below hB) (And.intro hok hB))))
  clear hd hw hok hB hblk
  go_enter Tryz.func105, Tryz.ntmps105
  go_wp2_with (first
    | (go_at_call 141; go_in)
    | (go_at_call 164; refine (indexNone B D L n j S cw cf _ w.heap.size A P m c ws H.out.1 H.out.2.1 hj hn H.out.2.2.1 H.out.2.2.2.1).mono ?_; rintro e w' ⟨rfl, hb2⟩; have HB2 := Lib.hid (H.out.2.2.2.2.trans (hb2.mono H.out.2.2.2.2.size)); clear hb2))
  go_ret
  exact ⟨rfl, HB2.out⟩
end Go.Proofs.YtfkdpndcoegfpaaGreatDoor
end

/-
  Check: whether two writes are to one sector. Conditions: no sector is below 0, the bytes are a sector's.
-/

section
set_option maxRecDepth 100000
set_option linter.unusedSimpArgs false
set_option linter.unusedVariables false
namespace Go.Proofs.YtfkdpndcoegfpaaGreatDoor
open Go.RowKit Go.Maps

def secs (ws : List (Int × List B8)) : List Int := ws.map (·.1)
/-- The sectors of the first k writes, as a set. -/
def SecSet (ws : List (Int × List B8)) (k : Nat) : DataW Unit := setOf (.agg []) ((secs (ws.take k)).map (Lit.int .i64))
theorem SecSet_zero (ws : List (Int × List B8)) : SecSet ws 0 = .map [] := by simp [SecSet, secs, setOf]
theorem secs_take {ws : List (Int × List B8)} {k : Nat} {p : Int × List B8} (h : ws[k]? = some p) : secs (ws.take (k + 1)) = secs (ws.take k) ++ [p.1] := by
  unfold secs
  rw [take_snoc_ h, List.map_append]
  rfl
theorem SecSet_succ {ws : List (Int × List B8)} {k : Nat} {p : Int × List B8} (h : ws[k]? = some p) : SecSet ws (k + 1) = (SecSet ws k).put (.int .i64 p.1) (.agg []) := by
  unfold SecSet
  rw [secs_take h, List.map_append, List.map_cons, List.map_nil, setOf_snoc]
theorem any_sec (x : Int) : ∀ l : List Int, l.any ((fun y : Lit => y.sameKey (.int .i64 x)) ∘ Lit.int .i64) = l.contains x
  | [] => rfl
  | a :: r => by
    rw [List.any_cons, List.contains_cons, any_sec x r]
    congr 1
    show decide (IntKind.i64 = IntKind.i64 ∧ a = x) = (x == a)
    by_cases e : a = x
    · subst e
      simp
    · have e' : ¬ x = a := fun h => e h.symm
      simp [e, e']
theorem has_sec (ws : List (Int × List B8)) (k : Nat) (x : Int) : Maps.has (SecSet ws k) (.int .i64 x) = (secs (ws.take k)).contains x := by
  unfold SecSet
  rw [has_setOf _ _ _ (fun y hy => by obtain ⟨_, _, rfl⟩ := List.mem_map.1 hy; trivial), List.any_map]
  exact any_sec x _

/-- What Check answers. -/
def ChkPost (ws : List (Int × List B8)) (w : World) (e : Ending) (w' : World) : Prop := ((e = .returned (.int .i64 0) ∧ (secs ws).Nodup) ∨ (e = .returned (.int .i64 8) ∧ ¬ (secs ws).Nodup)) ∧ Below w.heap.size w w'
theorem nodup_snoc {l : List Int} {x : Int} (h : l.Nodup) (hx : l.contains x = false) : (l ++ [x]).Nodup := by
  rw [List.nodup_append]
  refine ⟨h, by simp, fun a ha b hb => ?_⟩
  simp only [List.mem_singleton] at hb
  subst hb
  rintro rfl
  rw [List.contains_eq_mem] at hx
  simp [ha] at hx
theorem not_nodup {ws : List (Int × List B8)} {k : Nat} {p : Int × List B8} (h : ws[k]? = some p) (hx : (secs (ws.take k)).contains p.1 = true) : ¬ (secs ws).Nodup := by
  intro hn
  have hk : k < ws.length := (List.getElem?_eq_some_iff.1 h).1
  have e : secs ws = secs (ws.take (k + 1)) ++ secs (ws.drop (k + 1)) := by unfold secs; rw [← List.map_append, List.take_append_drop]
  rw [e, secs_take h] at hn
  have := (List.nodup_append.1 hn).1
  have h2 := (List.nodup_append.1 this).2.2
  rw [List.contains_eq_mem] at hx
  exact h2 p.1 (by simpa using hx) p.1 (by simp) rfl
theorem lawInt : Keyed Tryz.prog 3 := int_keyed Tryz.underlying3
theorem zeroUnit (w : World) : (zeroValue 99).run Tryz.prog w = .ok (.agg #[]) w := by kernel_rfl

set_option maxHeartbeats 1000000 in
theorem check_any (w : World) (A : Nat → Prop) (P : Option Addr) (m c : Nat) (ws : List (Int × List B8)) (hw : Wrs A w (.slice P m c) ws) (hok : ∀ p ∈ ws, 0 ≤ p.1 ∧ p.1 ≤ 4294967296 ∧ p.2.length = 64) :
    Calls Tryz.prog 104 #[.slice P m c] w (ChkPost ws w) := by
  have hlen := hw.len
  have hm : m ≤ 9223372036854775807 := by obtain ⟨P', c', e, h1, h2⟩ := hw.form; cases e; omega
  have H := Lib.hid (And.intro hw (And.intro hok hlen))
  have hmm := @run_makeMap Tryz.prog
  clear hw hok hlen
  go_enter Tryz.func104, Tryz.ntmps104
  go_wp2_with fail
  go_loopw [12] (fun iv wx => ∃ i : Nat, i ≤ m ∧ iv = .int .i64 i ∧ Below w.heap.size w wx) (fun iv _ => m - (intOf iv).toNat)
  case atStart => exact ⟨0, Nat.zero_le _, rfl, Below.refl _ _⟩
  case round =>
    obtain ⟨i, hi, rfl, h1⟩ := hrel
    have HR := Lib.hid h1
    clear h1
    by_cases hlt : i < m
    · obtain ⟨p, hp⟩ : ∃ p, ws[i]? = some p := ⟨_, List.getElem?_eq_getElem (by have := H.out.2.2; omega)⟩
      obtain ⟨g, Q, m2, k2, rfl, hg, hAg, c0, c1, hl2, hbt, hmk, hk⟩ := (H.out.1.below HR.out).at_ hp
      obtain ⟨q0, q1, q2⟩ := H.out.2.1 p (List.mem_of_getElem? hp)
      obtain rfl : m2 = 64 := by omega
      have hsz := HR.out.size
      clear hp hbt hl2 q2
      go_wp2_with fail
      go_roundw
      case rel => exact ⟨i + 1, by omega, by go_num, HR.out.alloc hsz _⟩
      case measure => simp [intOf]; omega
    · obtain rfl : i = m := by omega
      obtain ⟨wo, rfl⟩ : ∃ wo : World, wo = wr := ⟨_, rfl⟩
      have hb2 := HR.out.alloc HR.out.size (.map #[] 0)
      have HM := Lib.hid (And.intro (World.ownsMap_made (P := Tryz.prog) (k := 3) (R := unitElem (H := Unit)) wo) hb2)
      have hs := HR.out.size
      clear hb2
      go_wp2_with fail
      go_loopw [29] (fun iv wx => ∃ k : Nat, k ≤ i ∧ iv = .int .i64 k ∧ wx.ownsMap Tryz.prog 3 unitElem wo.heap.size k (SecSet ws k) ∧ (secs (ws.take k)).Nodup ∧ Below w.heap.size w wx) (fun iv _ => i - (intOf iv).toNat)
      case atStart => exact ⟨0, Nat.zero_le _, rfl, by rw [SecSet_zero]; exact HM.out.1, List.nodup_nil, HM.out.2⟩
      case round =>
        obtain ⟨k, hk, rfl, h1, h2, h3⟩ := hrel
        have HS := Lib.hid (And.intro h2 h3)
        have HO := Lib.hid h1
        clear h1 h2 h3 HM
        by_cases hlt2 : k < i
        · obtain ⟨p, hp⟩ : ∃ p, ws[k]? = some p := ⟨_, List.getElem?_eq_getElem (by have := H.out.2.2; omega)⟩
          obtain ⟨g, Q, m2, k2, rfl, hg, hAg, c0, c1, hl2, hbt, hmk, hk2⟩ := (H.out.1.below HS.out.2).at_ hp
          obtain ⟨q0, q1, q2⟩ := H.out.2.1 p (List.mem_of_getElem? hp)
          have hkey := keyOf_int_mk Tryz.underlying3 (a := p.1) (WalkArith.wf_i64 (by omega))
          have HP := Lib.hid hp
          have hh := has_sec ws k p.1
          have hsy := HS.out.2.size
          clear hp hbt hl2 q2
          cases hc : (secs (ws.take k)).contains p.1 with
          | true =>
            rw [hc] at hh
            have HC := Lib.hid hc
            clear hc
            go_wp2_with (first
              | (at_lookup; (refine wpList_lookup_own_unit _ rfl _ _ 194 rfl 3 99 lawInt Tryz.underlying194 (zeroUnit _) wo.heap.size k _ rfl (HO.out.alloc _) _ _ rfl hkey ?_))
              | (at_mapUpdate; refine wpList_mapUpdate_own _ rfl _ _ _ 194 rfl 3 99 lawInt Tryz.underlying194 (unitElem (H := Unit)) wo.heap.size k _ rfl ((HO.out.alloc _).alloc _) (by unfold maxLen; omega) _ _ _ rfl rfl hkey _ [] unitElem_mk ?_; intro w1 hown1 hgrow1))
            go_ret
            exact ⟨.inr ⟨rfl, not_nodup HP.out HC.out⟩, (HS.out.2.alloc hsy _).alloc (by simp; omega) _⟩
          | false =>
            rw [hc] at hh
            have HC := Lib.hid hc
            clear hc
            go_wp2_with (first
              | (at_lookup; (refine wpList_lookup_own_unit _ rfl _ _ 194 rfl 3 99 lawInt Tryz.underlying194 (zeroUnit _) wo.heap.size k _ rfl (HO.out.alloc _) _ _ rfl hkey ?_))
              | (at_mapUpdate; refine wpList_mapUpdate_own _ rfl _ _ _ 194 rfl 3 99 lawInt Tryz.underlying194 (unitElem (H := Unit)) wo.heap.size k _ rfl ((HO.out.alloc _).alloc _) (by unfold maxLen; omega) _ _ _ rfl rfl hkey _ [] unitElem_mk ?_; intro w1 hown1 hgrow1))
            go_roundw
            case rel =>
              refine ⟨k + 1, by omega, by go_num, ?_, ?_, ((HS.out.2.alloc hsy _).alloc (by simp; omega) _).grown hgrow1 (by simp; omega) (fun q hq => by cases hq; exact hs)⟩
              · rw [SecSet_succ HP.out]
                exact hown1
              · rw [secs_take HP.out]
                exact nodup_snoc HS.out.1 HC.out
            case measure => simp [intOf]; omega
        · obtain rfl : k = i := by omega
          go_wp2_with fail
          go_ret
          refine ⟨.inl ⟨rfl, ?_⟩, HS.out.2⟩
          have := HS.out.1
          rw [List.take_of_length_le (by have := H.out.2.2; omega)] at this
          exact this
end Go.Proofs.YtfkdpndcoegfpaaGreatDoor
end

/-
  Commit: all writes, as one transaction; or why not. Conditions: the disk has power that never goes; the writes are to unlike sectors that are there, bytes of a sector.
-/

section
set_option maxRecDepth 100000
set_option linter.unusedSimpArgs false
set_option linter.unusedVariables false
namespace Go.Proofs.YtfkdpndcoegfpaaGreatDoor
open Go.RowKit

/-- Writes to unlike data sectors, each of a sector's bytes. -/
structure Right (data : Nat) (ws : List (Int × List B8)) : Prop where
  each : ∀ p ∈ ws, 0 ≤ p.1 ∧ p.1 < data ∧ p.2.length = 64
  nodup : (secs ws).Nodup
theorem check_right (w : World) (A : Nat → Prop) (P : Option Addr) (m c data : Nat) (ws : List (Int × List B8)) (hw : Wrs A w (.slice P m c) ws) (hr : Right data ws) (hd : data ≤ 4096) :
    Calls Tryz.prog 104 #[.slice P m c] w fun e w' => e = .returned (.int .i64 0) ∧ Below w.heap.size w w' := by
  refine (check_any w A P m c ws hw (fun p hp => by obtain ⟨h1, h2, h3⟩ := hr.each p hp; exact ⟨h1, by omega, h3⟩)).mono fun e w' ⟨h, hb⟩ => ⟨?_, hb⟩
  rcases h with ⟨h, _⟩ | ⟨_, h⟩
  · exact h
  · exact absurd hr.nodup h

section
variable {B D L G n j : Nat} {S : Nat → List B8} {cw cf : Nat} {w : World} {A : Nat → Prop} {P : Option Addr} {m c done : Nat} {x : Int × Int} {red : Bool} {ws : List (Int × List B8)}
theorem refused_ok (hd : Idle B D L n S cw cf w) (hG : Blk w G 126 (logCells D j x done red)) (hw : Wrs A w (.slice P m c) ws) (hr : Right (n - j - 1) ws) (hj : j + 1 < n) (hm : m ≤ j / 2) (hdn : done < 1152921504606846976) :
    Calls Tryz.prog 59 #[.pointer (some ⟨G, 0, none⟩), .slice P m c] w fun e w' => e = .returned (.int .i64 0) ∧ Below w.heap.size w w' := by
  have hnb := hd.bound
  obtain ⟨g0, g1, g5, g6⟩ := log_cells hG
  have H := Lib.hid (And.intro hd (And.intro hG (And.intro hw hr)))
  have h1 : decide ((j : Int) / 2 < (m : Int)) = false := by simp; omega
  have h2 : decide ((1152921504606846976 : Int) ≤ (done : Int)) = false := by simp; omega
  clear hd hG hw hr hdn
  go_enter Tryz.func59, Tryz.ntmps59
  go_wp2_with (first
    | (go_at_call 44; refine (on_idle H.out.1.calm).mono ?_; rintro e w' ⟨rfl, rfl⟩)
    | (go_at_call 104; refine (check_right _ A P m c (n - j - 1) ws H.out.2.2.1 H.out.2.2.2 (by omega)).mono ?_; rintro e w1 ⟨rfl, hb⟩; have ⟨g0, g1, g5, g6⟩ := log_cells (H.out.2.1.below hb H.out.2.1.lt); have H1 := Lib.hid hb; clear hb)
    | (go_at_call 105; refine (hasAll_yes B D L n j S cw cf _ A P m c ws (H.out.1.below H1.out).calm hj hnb.2 (H.out.2.2.1.below H1.out) (fun p hp => ⟨(H.out.2.2.2.each p hp).1, (H.out.2.2.2.each p hp).2.1⟩)).mono ?_; rintro e w2 ⟨rfl, hb⟩; have ⟨g0, g1, g5, g6⟩ := log_cells (H.out.2.1.below (below_of H1.out hb) H.out.2.1.lt); have H2 := Lib.hid (below_of H1.out hb); clear hb)
    | (go_at_call 106; refine (jmost_any (D := D) (j := j) (by omega)).mono ?_; rintro e w3 ⟨rfl, hb⟩; have ⟨g0, g1, g5, g6⟩ := log_cells (H.out.2.1.below (below_of H2.out hb) H.out.2.1.lt); have H3 := Lib.hid (below_of H2.out hb); clear hb))
  go_ret
  exact ⟨rfl, H3.out⟩
theorem refused_full (hd : Idle B D L n S cw cf w) (hG : Blk w G 126 (logCells D j x done red)) (hw : Wrs A w (.slice P m c) ws) (hr : Right (n - j - 1) ws) (hj : j + 1 < n) (hm : j / 2 < m) :
    Calls Tryz.prog 59 #[.pointer (some ⟨G, 0, none⟩), .slice P m c] w fun e w' => e = .returned (.int .i64 6) ∧ Below w.heap.size w w' := by
  have hnb := hd.bound
  obtain ⟨g0, g1, g5, g6⟩ := log_cells hG
  have H := Lib.hid (And.intro hd (And.intro hG (And.intro hw hr)))
  have h1 : ((j / 2 : Nat) : Int) < (m : Int) := by omega
  have h1' : decide (j / 2 < m) = true := by simpa using hm
  clear hd hG hw hr
  go_enter Tryz.func59, Tryz.ntmps59
  go_wp2_with (first
    | (go_at_call 44; refine (on_idle H.out.1.calm).mono ?_; rintro e w' ⟨rfl, rfl⟩)
    | (go_at_call 104; refine (check_right _ A P m c (n - j - 1) ws H.out.2.2.1 H.out.2.2.2 (by omega)).mono ?_; rintro e w1 ⟨rfl, hb⟩; have ⟨g0, g1, g5, g6⟩ := log_cells (H.out.2.1.below hb H.out.2.1.lt); have H1 := Lib.hid hb; clear hb)
    | (go_at_call 105; refine (hasAll_yes B D L n j S cw cf _ A P m c ws (H.out.1.below H1.out).calm hj hnb.2 (H.out.2.2.1.below H1.out) (fun p hp => ⟨(H.out.2.2.2.each p hp).1, (H.out.2.2.2.each p hp).2.1⟩)).mono ?_; rintro e w2 ⟨rfl, hb⟩; have ⟨g0, g1, g5, g6⟩ := log_cells (H.out.2.1.below (below_of H1.out hb) H.out.2.1.lt); have H2 := Lib.hid (below_of H1.out hb); clear hb)
    | (go_at_call 106; refine (jmost_any (D := D) (j := j) (by omega)).mono ?_; rintro e w3 ⟨rfl, hb⟩; have H3 := Lib.hid (below_of H2.out hb); clear hb))
  go_ret
  exact ⟨rfl, H3.out⟩
theorem commit_nil (w : World) (P : Option Addr) (m c : Nat) : Calls Tryz.prog 22 #[.pointer none, .slice P m c] w fun e w' => e = .returned (.int .i64 16) ∧ w = w' := by
  go_enter Tryz.func22, Tryz.ntmps22
  go_wp2_with fail
  go_ret
  exact ⟨rfl, rfl⟩
theorem commit_full (hd : Idle B D L n S cw cf w) (hG : Blk w G 126 (logCells D j x done red)) (hw : Wrs A w (.slice P m c) ws) (hr : Right (n - j - 1) ws) (hj : j + 1 < n) (hm : j / 2 < m) :
    Calls Tryz.prog 22 #[.pointer (some ⟨G, 0, none⟩), .slice P m c] w fun e w' => e = .returned (.int .i64 6) ∧ Below w.heap.size w w' := by
  have HC := Lib.hid (refused_full hd hG hw hr hj hm)
  clear hd hG hw hr hj hm
  go_enter Tryz.func22, Tryz.ntmps22
  go_wp2_with (go_at_call 59; refine HC.out.mono ?_; rintro e w' ⟨rfl, hb⟩; have HB := Lib.hid hb; clear hb)
  go_ret
  exact ⟨rfl, HB.out⟩
theorem commit_none (hd : Idle B D L n S cw cf w) (hG : Blk w G 126 (logCells D j x done red)) (hw : Wrs A w (.slice P 0 c) []) (hj : j + 1 < n) (hdn : done < 1152921504606846976) :
    Calls Tryz.prog 22 #[.pointer (some ⟨G, 0, none⟩), .slice P 0 c] w fun e w' => e = .returned (.int .i64 0) ∧ Below w.heap.size w w' := by
  have HC := Lib.hid (refused_ok hd hG hw ⟨fun p hp => by simp at hp, List.nodup_nil⟩ hj (Nat.zero_le _) hdn)
  clear hd hG hw hj hdn
  go_enter Tryz.func22, Tryz.ntmps22
  go_wp2_with (go_at_call 59; refine HC.out.mono ?_; rintro e w' ⟨rfl, hb⟩; have HB := Lib.hid hb; clear hb)
  go_ret
  exact ⟨rfl, HB.out⟩

theorem jrnOf_mem {num m : Nat} {d : List B8} {ws : List (Int × List B8)} {p : Int × List B8} (h : p ∈ jrnOf num m d ws) : ∃ (i : Nat) (q : Int × List B8), ws[i]? = some q ∧ (p = (((1 + 2 * i : Nat) : Int), noteB num i m q.1.toNat d) ∨ p = (((1 + 2 * i + 1 : Nat) : Int), q.2)) := by
  unfold jrnOf at h
  obtain ⟨l, hl, hp⟩ := List.mem_flatten.1 h
  obtain ⟨i, hi, rfl⟩ := List.mem_mapIdx.1 hl
  refine ⟨i, ws[i], List.getElem?_eq_getElem hi, ?_⟩
  simpa using hp
theorem jrnOf_ok {num m n j : Nat} {d : List B8} {ws : List (Int × List B8)} (hd : d.length = 32) (hlen : ws.length = m) (hm : m ≤ j / 2) (hj : j + 1 < n) (hok : ∀ p ∈ ws, p.2.length = 64) : ∀ p ∈ jrnOf num m d ws, 0 ≤ p.1 ∧ p.1 < n ∧ p.2.length = 64 := by
  intro p hp
  obtain ⟨i, q, hq, rfl | rfl⟩ := jrnOf_mem hp
  · have hi := (List.getElem?_eq_some_iff.1 hq).1
    exact ⟨by show (0 : Int) ≤ ((1 + 2 * i : Nat) : Int); omega, by show ((1 + 2 * i : Nat) : Int) < n; omega, noteB_length _ _ _ _ hd⟩
  · have hi := (List.getElem?_eq_some_iff.1 hq).1
    exact ⟨by show (0 : Int) ≤ ((1 + 2 * i + 1 : Nat) : Int); omega, by show ((1 + 2 * i + 1 : Nat) : Int) < n; omega, hok q (List.mem_of_getElem? hq)⟩
/-- The sectors behind a commit. -/
def behind (ks : List B32) (j num m : Nat) (S : Nat → List B8) (ws : List (Int × List B8)) : Nat → List B8 := upd (layS (layS S (jrnOf num m (digOf ks num ws) ws)) (dataOf j ws)) 0 (headB ks num)

set_option maxHeartbeats 2000000 in
theorem commit_ok (ks : List B32) (hd : Idle B D L n S cw cf w) (hB : B ≤ w.heap.size) (hK : Roots ks w) (hKB : 1 < B) (hBG : B ≤ G) (hG : Blk w G 126 (logCells D j x done red)) (hw : Wrs A w (.slice P m c) ws) (hA : ∀ g, A g → g ∉ [D, L, G]) (hr : Right (n - j - 1) ws) (hj : j + 1 < n) (hm0 : 0 < m) (hm : m ≤ j / 2) (hm15 : m ≤ 15) (hdn : done < 1000000) (hcw : cw + 3 * m + 1 < 1000000) (hcf : cf + 3 < 1000000) :
    Calls Tryz.prog 22 #[.pointer (some ⟨G, 0, none⟩), .slice P m c] w fun e w' => e = .returned (.int .i64 0) ∧
      Idle B D L n (behind ks j (done + 1) m S ws) (cw + 3 * m + 1) (cf + 3) w' ∧ Blk w' G 126 (logCells D j x (done + 1) red) ∧ Stp B [D, L, G] w w' := by
  have hnb := hd.bound
  have hlen := hw.len
  have hdl := hd.lt
  have hGl := hG.lt
  have hDG : D ≠ G := by
    rintro rfl
    obtain ⟨s, hs, _⟩ := hd
    exact absurd (hG.same hs.disk).1 (by decide)
  have hLG : L ≠ G := by
    rintro rfl
    obtain ⟨s, hs, _⟩ := hd
    exact absurd (hG.same hs.laid).1 (by decide)
  have HC := Lib.hid (refused_ok hd hG hw hr hj hm (by omega))
  have H0 := Lib.hid (And.intro hd (And.intro hK (And.intro hG (And.intro hw (And.intro hA (And.intro hr (And.intro hDG (And.intro hLG hlen))))))))
  have hme : ((m : Int) == 0) = false := by rw [beq_eq_false_iff_ne]; omega
  clear hd hK hG hw hA hr hDG hLG hlen
  go_enter Tryz.func22, Tryz.ntmps22
  go_wp2_with (go_at_call 59; refine HC.out.mono ?_; rintro e w1 ⟨rfl, hb⟩; have ⟨g0, g1, g5, g6⟩ := log_cells (H0.out.2.2.1.below hb H0.out.2.2.1.lt); have HB := Lib.hid hb; have hs1 := hb.size; clear hb)
  have hnw := new_below w1 (.cells #[.int .i64 ((done : Int) + 1), .slice P m c] 138)
  have ⟨t0, t1⟩ := blk_pair (Blk.new w1 138 [.int .i64 ((done : Int) + 1), .slice P m c])
  have hG2 := H0.out.2.2.1.below (below_of HB.out hnw) H0.out.2.2.1.lt
  have ⟨x0, x1, _, _⟩ := log_cells hG2
  have H2 := Lib.hid (And.intro (below_of HB.out hnw) (And.intro hG2 (And.intro (Blk.new w1 138 [.int .i64 ((done : Int) + 1), .slice P m c]) hnw)))
  clear hnw hG2 g0 g1 g5 g6
  go_region_held3 (fun w' => w'.cell? ⟨w1.heap.size, 0, none⟩ = some (.int .i64 ((done : Int) + 1)) ∧ w'.cell? ⟨w1.heap.size, 1, none⟩ = some (.slice P m c) ∧ w'.cell? ⟨G, 0, none⟩ = some (.pointer (some ⟨D, 0, none⟩)) ∧ w'.cell? ⟨G, 1, none⟩ = some (.int .i64 (j : Int)))
    (first | exact ⟨f0, f1, f3, f4⟩ | exact ⟨e0, e1, e3, e4⟩ | exact ⟨t0, t1, x0, x1⟩)
    (first
      | (go_at_call 61; refine (inJournal_any ks _ A D j (done + 1) m P c ws (H0.out.2.1.below (H2.out.1.trans ((drew_below _).mono H2.out.1.size)) (by omega)) (H0.out.2.2.2.1.below (H2.out.1.trans ((drew_below _).mono H2.out.1.size))) (by omega) hm15 (by omega) (fun p hp => by have := H0.out.2.2.2.2.2.1.each p hp; omega)).mono ?_; rintro e w3 ⟨v, rfl, hO, hW⟩; obtain ⟨Pv, cv, rfl⟩ := hO.form; have e0 := cell_drew t0 hW; have e1 := cell_drew t1 hW; have e3 := cell_drew x0 hW; have e4 := cell_drew x1 hW; have H3 := Lib.hid (And.intro (idle_drew (H0.out.1.below H2.out.1) hW) (And.intro hO.toWrs (And.intro (below_drew H2.out.1 hW) (And.intro (blk_drew H2.out.2.2.1 hW) (blk_drew H2.out.2.1 hW))))); clear hO hW)
      | (go_at_call 60; refine (jlay_any B _ D L n j S cw cf _ Pv (2 * m) cv (jrnOf (done + 1) m (digOf ks (done + 1) ws) ws) H3.out.1 (Nat.le_trans hB H3.out.2.2.1.size) H3.out.2.1 (fun g hg => by rcases hg with (hg | hg) | hg; exact (fun h => H0.out.2.2.2.2.1 g hg (by simp at h ⊢; rcases h with h | h <;> simp [h])); exact (fun h => by have h2 := hg; simp only [World.size_drew, World.size_alloc] at h2; simp at h; omega); exact (fun h => by have h2 := hg; simp only [World.size_drew, World.size_alloc] at h2; simp at h; omega)) (jrnOf_ok (digOf_length _ _ _) H0.out.2.2.2.2.2.2.2.2 hm hj (fun p hp => (H0.out.2.2.2.2.2.1.each p hp).2.2)) (by omega) (by omega)).mono ?_; rintro e w4 ⟨rfl, h1, h2⟩; have hk4 := h2.keep _ _ _ (by decide) (by simp; omega) H3.out.2.2.2.1; have hG4 := h2.keep _ _ _ (by decide) (by have h1 := H0.out.2.2.2.2.2.2.1; have h2 := H0.out.2.2.2.2.2.2.2.1; simp; omega) H3.out.2.2.2.2; have ⟨f0, f1⟩ := blk_pair hk4; have ⟨f3, f4, _, _⟩ := log_cells hG4; have hst := (Stp.of_below (X := [D, L]) hB H3.out.2.2.1).trans h2; have H4 := Lib.hid (And.intro h1 (And.intro hk4 (And.intro hG4 (And.intro hst (H0.out.2.2.2.1.stp hst (fun g hg h => H0.out.2.2.2.2.1 g hg (by simp at h ⊢; rcases h with h | h <;> simp [h]))))))); clear h1 h2 hk4 hG4 hst))
  clear t0 t1 x0 x1 e0 e1 e3 e4
  go_wp2_with fail
  refine (finish_any ks B w4 D L G n j _ (cw + 2 * m) (cf + 1) A P m c (done + 1) done x red ws H4.out.1 (Nat.le_trans hB H4.out.2.2.2.1.size) (H0.out.2.1.below H4.out.2.2.2.1.below hKB) H4.out.2.2.1 hKB hBG H4.out.2.2.2.2 H0.out.2.2.2.2.1 hj H0.out.2.2.2.2.2.1.each (by omega) (by omega) (by omega) (by omega)).mono ?_
  rintro e w5 ⟨rfl, h1, h2, h3⟩
  have H5 := Lib.hid (And.intro h1 (And.intro h2 ((H4.out.2.2.2.1.mono (Y := [D, L, G]) (by intro k hk _; simp at hk ⊢; rcases hk with h | h <;> simp [h])).trans h3)))
  clear h1 h2 h3 f0 f1 f3 f4
  go_wp2_with fail
  go_ret
  refine ⟨rfl, ?_, H5.out.2.1, H5.out.2.2⟩
  have h := H5.out.1
  rw [show cw + 2 * m + m + 1 = cw + 3 * m + 1 by omega, show cf + 1 + 2 = cf + 3 by omega] at h
  exact h
end
end Go.Proofs.YtfkdpndcoegfpaaGreatDoor
end

/-
  Read, Sectors, Most, Done, Redone. Conditions: the disk has power that never goes; the sector is there.
-/

section
set_option maxRecDepth 100000
set_option linter.unusedSimpArgs false
set_option linter.unusedVariables false
namespace Go.Proofs.YtfkdpndcoegfpaaGreatDoor
open Go.RowKit

theorem jread_nil (w : World) (no : Int) : Calls Tryz.prog 23 #[.pointer none, .int .i64 no] w fun e w' => e = .returned (.tuple #[.slice none 0 0, .int .i64 16]) ∧ w = w' := by
  go_enter Tryz.func23, Tryz.ntmps23
  go_wp2_with fail
  go_ret2
  exact ⟨rfl, rfl⟩
theorem jsectors_nil (w : World) : Calls Tryz.prog 56 #[.pointer none] w fun e w' => e = .returned (.int .i64 0) ∧ w = w' := by
  go_enter Tryz.func56, Tryz.ntmps56
  go_wp2_with fail
  go_ret
  exact ⟨rfl, rfl⟩
theorem jmostm_nil (w : World) : Calls Tryz.prog 127 #[.pointer none] w fun e w' => e = .returned (.int .i64 0) ∧ w = w' := by
  go_enter Tryz.func127, Tryz.ntmps127
  go_wp2_with fail
  go_ret
  exact ⟨rfl, rfl⟩
theorem done_nil (w : World) : Calls Tryz.prog 15 #[.pointer none] w fun e w' => e = .returned (.int .i64 0) ∧ w = w' := by
  go_enter Tryz.func15, Tryz.ntmps15
  go_wp2_with fail
  go_ret
  exact ⟨rfl, rfl⟩
theorem redone_nil (w : World) : Calls Tryz.prog 16 #[.pointer none] w fun e w' => e = .returned (.bool false) ∧ w = w' := by
  go_enter Tryz.func16, Tryz.ntmps16
  go_wp2_with fail
  go_ret
  exact ⟨rfl, rfl⟩

section
variable {B D L G n j : Nat} {S : Nat → List B8} {cw cf : Nat} {w : World} {done : Nat} {x : Int × Int} {red : Bool}
theorem done_any (hG : Blk w G 126 (logCells D j x done red)) : Calls Tryz.prog 15 #[.pointer (some ⟨G, 0, none⟩)] w fun e w' => e = .returned (.int .i64 done) ∧ w = w' := by
  obtain ⟨g0, g1, g5, g6⟩ := log_cells hG
  clear hG
  go_enter Tryz.func15, Tryz.ntmps15
  go_wp2_with fail
  go_ret
  exact ⟨rfl, rfl⟩
theorem redone_any (hG : Blk w G 126 (logCells D j x done red)) : Calls Tryz.prog 16 #[.pointer (some ⟨G, 0, none⟩)] w fun e w' => e = .returned (.bool red) ∧ w = w' := by
  obtain ⟨g0, g1, g5, g6⟩ := log_cells hG
  clear hG
  go_enter Tryz.func16, Tryz.ntmps16
  go_wp2_with fail
  go_ret
  exact ⟨rfl, rfl⟩
theorem jsectors_any (hd : Idle B D L n S cw cf w) (hG : Blk w G 126 (logCells D j x done red)) (hj : j + 1 < n) :
    Calls Tryz.prog 56 #[.pointer (some ⟨G, 0, none⟩)] w fun e w' => e = .returned (.int .i64 ((n - j - 1 : Nat) : Int)) ∧ Below w.heap.size w w' := by
  have hnb := hd.bound
  obtain ⟨g0, g1, g5, g6⟩ := log_cells hG
  have HD := Lib.hid hd
  clear hG hd
  go_enter Tryz.func56, Tryz.ntmps56
  go_wp2_with (go_at_call 93; refine (data_any HD.out.calm hj hnb.2).mono ?_; rintro e w' ⟨rfl, hb⟩; have HB := Lib.hid hb; clear hb)
  go_ret
  exact ⟨rfl, HB.out⟩
set_option maxHeartbeats 1000000 in
theorem jread_any (hd : Idle B D L n S cw cf w) (hG : Blk w G 126 (logCells D j x done red)) (hj : j + 1 < n) (k : Nat) (hk : k < n - j - 1) :
    Calls Tryz.prog 23 #[.pointer (some ⟨G, 0, none⟩), .int .i64 k] w fun e w' => ∃ v, e = .returned (.tuple #[v, .int .i64 0]) ∧ Bts (fun g => w.heap.size ≤ g) w' v (S (1 + j + k)) ∧ Below w.heap.size w w' := by
  have hnb := hd.bound
  obtain ⟨g0, g1, g5, g6⟩ := log_cells hG
  have H := Lib.hid (And.intro hd hG)
  have hk1 : 1 + j + k < n := by omega
  clear hG hd
  go_enter Tryz.func23, Tryz.ntmps23
  go_wp2_with (first
    | (go_at_call 44; refine (on_idle H.out.1.calm).mono ?_; rintro e w' ⟨rfl, rfl⟩)
    | (go_at_call 63; refine (has_yes H.out.1.calm hj hnb.2 k (by omega) (by omega)).mono ?_; rintro e w1 ⟨rfl, hb⟩; have ⟨g0, g1, g5, g6⟩ := log_cells (H.out.2.below hb H.out.2.lt); have H1 := Lib.hid hb; clear hb))
  go_region_held3 (fun w' => w'.cell? ⟨G, 0, none⟩ = some (.pointer (some ⟨D, 0, none⟩)) ∧ w'.cell? ⟨G, 1, none⟩ = some (.int .i64 (j : Int)))
    (first | exact ⟨f0, f1⟩ | exact ⟨e0, e1⟩ | exact ⟨g0, g1⟩)
    (first
      | (go_at_call 65; refine (dataAt_any (D := D) (j := j) k (by omega) (by omega)).mono ?_; rintro e w2 ⟨rfl, hW⟩; have e0 := cell_drew g0 hW; have e1 := cell_drew g1 hW; have H2 := Lib.hid (below_drew H1.out hW); clear hW)
      | (go_at_call 64; refine (read_calm (H.out.1.below H2.out).calm hk1).mono ?_; rintro e w3 ⟨v, rfl, hv, hW⟩; have f0 := cell_below e0 hW; have f1 := cell_below e1 hW; have H3 := Lib.hid (And.intro (hv.mono (A' := fun g => w.heap.size ≤ g) (fun g hg _ => Nat.le_trans H2.out.size hg)) (below_of H2.out hW)); clear hW hv))
  go_wp2_with fail
  go_ret2
  exact ⟨_, rfl, H3.out.1, H3.out.2⟩
end
end Go.Proofs.YtfkdpndcoegfpaaGreatDoor
end

/-
  The law's own example of a log: it holds, and leaves what was there as it was. Condition: the constants lie in their variable.
-/

section
set_option maxRecDepth 100000
set_option linter.unusedSimpArgs false
set_option linter.unusedVariables false
namespace Go.Proofs.YtfkdpndcoegfpaaGreatDoor
open Go.RowKit

theorem Bts.bytesAt {A : Nat → Prop} {w : World} {P : Option Addr} {n c : Nat} {xs : List B8} (h : Bts A w (.slice P n c) xs) : BytesAt w P (xs.map nb) := by
  intro hn
  rw [List.length_map] at hn
  obtain ⟨hl, hc⟩ := h.cells
  obtain ⟨g, o, rfl, _, _, hcell⟩ := hc (by omega)
  refine ⟨_, rfl, fun j x hx => ?_⟩
  rw [add_off]
  refine hcell j _ ?_
  rw [List.getElem?_map] at hx
  unfold Vb
  rw [List.getElem?_map]
  cases hb : xs[j]? with
  | none => rw [hb] at hx; cases hx
  | some b => rw [hb] at hx; cases hx; rfl
/-- Same, of two slices of bytes. -/
theorem same_bts {A A' : Nat → Prop} {w : World} {P Q : Option Addr} {n n' c c' : Nat} {xs ys : List B8} (hx : Bts A w (.slice P n c) xs) (hy : Bts A' w (.slice Q n' c') ys) {b : Bool} (hb : decide (xs = ys) = b) :
    Calls Tryz.prog 17 #[.slice P n c, .slice Q n' c'] w fun e w' => e = .returned (.bool b) ∧ Below w.heap.size w w' := by
  have hxl := hx.cells.1
  have hyl := hy.cells.1
  have hmx : n ≤ 9223372036854775807 := by obtain ⟨P', c', e, h1, h2⟩ := hx.form; cases e; omega
  refine (same_walk w P Q n n' c c' (xs.map nb) (ys.map nb) (by simpa using hxl) (by simpa using hyl) hmx hx.bytesAt hy.bytesAt).mono ?_
  rintro e w' ⟨rfl, q, rfl⟩
  refine ⟨?_, drewN_below _ _⟩
  congr 2
  rw [← hb]
  by_cases h : xs = ys
  · subst h; simp
  · rw [decide_eq_false h, beq_eq_false_iff_ne]
    exact fun e => h (map_nb_inj e)
theorem make64 (w : World) : (Instr.makeSlice 22 (.int .i64 64) (.int .i64 64)).run Tryz.prog w = .ok (.slice (some ⟨w.heap.size, 0, none⟩) 64 64) (w.alloc (.cells (Vb zeros64).toArray 5)) := by
  have h := make_bytes w 64 (by omega) (by omega)
  have e : U (List.replicate (64 : Int).toNat 0) = Vb zeros64 := by simp [U, Vb, nb, zeros64]
  rw [e] at h
  exact h

def seven : List B8 := zeros64.set 5 7
theorem seven_cells : (Vb zeros64).set 5 (.int .u8 7) = Vb seven := by
  unfold seven Vb
  rw [List.map_set, show nb (7 : B8) = 7 by unfold nb; rfl]
theorem zeros_at : (Vb zeros64)[5]? = some (.int .u8 0) := by simp [Vb, zeros64, nb]
theorem seven_length : seven.length = 64 := by rfl
theorem zeros_from (o n : Nat) : fromB (sub (List.replicate 64 (0 : B8)) o n) = 0 := by
  unfold sub fromB
  rw [List.drop_replicate, List.take_replicate]
  generalize min n (64 - o) = k
  induction k with
  | zero => rfl
  | succ k ih => rw [List.replicate_succ, List.foldl_cons]; exact ih
theorem known_at (ks : List B32) : behind ks 2 (0 + 1) 1 (fun _ => List.replicate 64 0) [(2, seven)] (1 + 2 + 2) = seven := by
  rfl

theorem Wrs.two {A : Nat → Prop} {w : World} {g : Nat} {n0 n1 : Int} {Q R : Option Addr} {m k m' k' : Nat} {b b' : List B8} (hb : Blk w g 133 [.int .i64 n0, .slice Q m k, .int .i64 n1, .slice R m' k']) (hA : A g) (hu : Bts A w (.slice Q m k) b) (hu' : Bts A w (.slice R m' k') b') : Wrs A w (.slice (some ⟨g, 0, none⟩) 2 2) [(n0, b), (n1, b')] := by
  refine .inr ⟨g, 2, _, rfl, hA, hb, by simp, by unfold maxLen; omega, fun i p hp => ?_⟩
  match i, hp with
  | 0, hp => simp at hp; subst hp; exact ⟨rfl, _, rfl, hu⟩
  | 1, hp => simp at hp; subst hp; exact ⟨rfl, _, rfl, hu'⟩

set_option maxHeartbeats 4000000 in
theorem jknown_walk (ks : List B32) (w : World) (hK : Roots ks w) : Calls Tryz.prog 14 #[] w fun e w' => e = .returned (.bool true) ∧ Below w.heap.size w w' := by
  have hpos := hK.pos
  have HK := Lib.hid hK
  clear hK
  have hmk := make64
  go_enter Tryz.func14, Tryz.ntmps14
  go_wp2_with (first
    | (go_at_call 8; refine (new_idle w 6 (by omega) (by omega)).mono ?_; rintro e w1 ⟨rfl, hI, hW⟩; have H1 := Lib.hid (And.intro hI hW); clear hI hW)
    | (go_at_call 11; refine (open_none ks w.heap.size _ (w.heap.size + 1) w.heap.size 6 2 (fun _ => List.replicate 64 0) 0 0 0 H1.out.1 H1.out.2.size (HK.out.below H1.out.2 hpos) hpos (by omega) (by omega) (by omega) (by omega) (by unfold doneB zeros64; rw [if_pos rfl]) (by rw [zeros_from]; omega)).mono ?_; rintro e w2 ⟨rfl, hI, hG, hS⟩; have H2 := Lib.hid (And.intro hI (And.intro hG hS)); clear hI hG hS))
  have hb2 := new_below w2 (.cells (Vb zeros64).toArray 5)
  have hz3 := Blk.new w2 5 (Vb zeros64)
  have z5 : (w2.alloc (.cells (Vb zeros64).toArray 5)).cell? ⟨w2.heap.size, 5, none⟩ = some (.int .u8 0) := (hz3.cell 5).trans zeros_at
  have zf := hz3.frozen 5
  clear hz3 hb2
  have hk3 := Blk.new w2 5 ((Vb zeros64).set 5 (.int .u8 7))
  rw [seven_cells] at hk3
  have hb3 := new_below w2 (.cells (Vb seven).toArray 5)
  have hs2 := H2.out.2.2.size
  have hs1 := H1.out.2.size
  have hlt := H1.out.1.lt
  have hb4 := new_below (w2.alloc (.cells (Vb seven).toArray 5)) (.cells #[.int .i64 0, .slice (some ⟨w2.heap.size, 0, none⟩) 64 64, .int .i64 1, .slice (some ⟨w2.heap.size, 0, none⟩) 64 64] 133)
  have hk4 := Blk.new (w2.alloc (.cells (Vb seven).toArray 5)) 133 [.int .i64 0, .slice (some ⟨w2.heap.size, 0, none⟩) 64 64, .int .i64 1, .slice (some ⟨w2.heap.size, 0, none⟩) 64 64]
  have HB := Lib.hid (And.intro hk3 (And.intro hb3 (And.intro hb4 hk4)))
  clear hk3 hb3 hb4 hk4 z5 zf
  go_wp2_with fail
  rw [seven_cells]
  refine (commit_full (A := fun g => w2.heap.size ≤ g) (ws := [(0, seven), (1, seven)]) (H2.out.1.below (below_of HB.out.2.1 HB.out.2.2.1)) (H2.out.2.1.below (below_of HB.out.2.1 HB.out.2.2.1) H2.out.2.1.lt) ?_ ⟨?_, ?_⟩ (by omega) (by omega)).mono ?_
  · have hu : Bts (fun g => w2.heap.size ≤ g) ((w2.alloc (.cells (Vb seven).toArray 5)).alloc (.cells #[.int .i64 0, .slice (some ⟨w2.heap.size, 0, none⟩) 64 64, .int .i64 1, .slice (some ⟨w2.heap.size, 0, none⟩) 64 64] 133)) (.slice (some ⟨w2.heap.size, 0, none⟩) 64 64) seven := Bts.whole (HB.out.1.below HB.out.2.2.1 HB.out.1.lt) (.inl rfl) (Nat.le_refl _) seven_length (by omega)
    have hk := HB.out.2.2.2
    simp only [World.size_alloc] at hk
    exact Wrs.two hk (by simp) hu hu
  · intro p hp
    simp only [List.mem_cons, List.not_mem_nil, or_false] at hp
    rcases hp with rfl | rfl <;> exact ⟨by decide, by decide, seven_length⟩
  · simp [secs]
  rintro e w5 ⟨rfl, hW⟩
  have H5 := Lib.hid (And.intro (H2.out.1.below (below_of (below_of HB.out.2.1 HB.out.2.2.1) hW)) (And.intro (H2.out.2.1.below (below_of (below_of HB.out.2.1 HB.out.2.2.1) hW) H2.out.2.1.lt) (And.intro (HB.out.1.below (HB.out.2.2.1.trans (hW.mono HB.out.2.2.1.size)) HB.out.1.lt) (below_of (below_of HB.out.2.1 HB.out.2.2.1) hW))))
  clear hW
  go_wp2_with fail
  have hb6 := new_below w5 (.cells #[.int .i64 2, .slice (some ⟨w2.heap.size, 0, none⟩) 64 64] 133)
  have hk6 := Blk.new w5 133 [.int .i64 2, .slice (some ⟨w2.heap.size, 0, none⟩) 64 64]
  have hs5 := H5.out.2.2.2.size
  have H6 := Lib.hid (And.intro hb6 hk6)
  have hS5 : Stp w.heap.size [] w w5 := (Stp.of_below (Nat.le_refl _) H1.out.2).trans ((H2.out.2.2.mono (Y := [w.heap.size, w.heap.size + 1]) (by intro k hk _; simp at hk ⊢; omega)).trans (Stp.of_below (by omega) H5.out.2.2.2)) |>.mono (by intro k hk hl; simp at hk; omega)
  have HS := Lib.hid hS5
  clear hb6 hk6 hS5
  refine (commit_ok ks (B := w.heap.size) (A := fun g => w2.heap.size ≤ g) (ws := [(2, seven)]) (H5.out.1.below H6.out.1) (by have := H6.out.1.size; omega) (HK.out.below (HS.out.below.trans (H6.out.1.mono (by omega))) hpos) hpos (by omega) (H5.out.2.1.below H6.out.1 H5.out.2.1.lt) ?_ ?_ ⟨?_, ?_⟩ (by omega) (by omega) (by omega) (by omega) (by omega) (by omega) (by omega)).mono ?_
  · exact Wrs.one H6.out.2 (by omega) (Bts.whole (H5.out.2.2.1.below H6.out.1 H5.out.2.2.1.lt) (.inl rfl) (Nat.le_refl _) seven_length (by omega))
  · have h2 := H2.out.2.1.lt
    intro g hg h
    simp only [List.mem_cons, List.not_mem_nil, or_false] at h
    omega
  · intro p hp
    simp only [List.mem_cons, List.not_mem_nil, or_false] at hp
    subst hp
    exact ⟨by decide, by decide, seven_length⟩
  · simp [secs]
  rintro e w7 ⟨rfl, hI, hG, hS⟩
  have hk7 := hS.keep w2.heap.size _ _ (by decide) (by have h2 := H2.out.2.1.lt; simp; omega) (H5.out.2.2.1.below H6.out.1 H5.out.2.2.1.lt)
  have H7 := Lib.hid (And.intro hI (And.intro hG (And.intro hk7 hS)))
  clear hI hG hS hk7
  go_wp2_with fail
  refine (jread_any H7.out.1 H7.out.2.1 (by omega) 2 (by omega)).mono ?_
  rintro e w8 ⟨v, rfl, hv, hW⟩
  rw [known_at] at hv
  obtain ⟨Q, k8, rfl, h8, h8'⟩ := hv.form
  rw [seven_length] at h8 hv ⊢
  have H8 := Lib.hid (And.intro (H7.out.1.below hW) (And.intro (H7.out.2.1.below hW H7.out.2.1.lt) (And.intro (H7.out.2.2.1.below hW H7.out.2.2.1.lt) (And.intro hv hW))))
  clear hW hv
  go_wp2_with (first
    | (go_at_call 56; refine (jsectors_any H8.out.1 H8.out.2.1 (by omega)).mono ?_; rintro e w9 ⟨rfl, hW⟩; have H9 := Lib.hid hW; clear hW)
    | (go_at_call 17; refine (same_bts (b := true) (H8.out.2.2.2.1.below H9.out) (Bts.whole (A := fun _ => True) (H8.out.2.2.1.below H9.out H8.out.2.2.1.lt) (.inl rfl) trivial seven_length (by omega)) (by simp)).mono ?_; rintro e w10 ⟨rfl, hW⟩; have H10 := Lib.hid (below_of H9.out hW); clear hW)
    | (go_at_call 15; refine (done_any (H8.out.2.1.below H10.out H8.out.2.1.lt)).mono ?_; rintro e w11 ⟨rfl, rfl⟩))
  have a5 := HS.out.below
  have a6 := a5.trans (H6.out.1.mono a5.size)
  have a7 := a6.trans H7.out.2.2.2.below
  have a8 := a7.trans (H8.out.2.2.2.2.mono a7.size)
  have a10 := a8.trans (H10.out.mono a8.size)
  go_ret
  exact ⟨rfl, a10⟩
end Go.Proofs.YtfkdpndcoegfpaaGreatDoor
end

/-
  The law's To: writes as the log's, and as the document's; at most ten; bytes are filled up to a sector, but those of 65. Condition: the writes are known.
-/

section
set_option maxRecDepth 100000
set_option linter.unusedSimpArgs false
set_option linter.unusedVariables false
namespace Go.Proofs.YtfkdpndcoegfpaaGreatDoor
open Go.RowKit

/-- A list of writes that came in. -/
def WIn (w : World) (P : Option Addr) (n : Nat) (ws : List (Int × List B8)) : Prop := ws.length = n ∧ (0 < n → ∃ g o, P = some ⟨g, o, none⟩ ∧ g < w.heap.size ∧
  ∀ i p, ws[i]? = some p → ∃ Q m c, w.cell? ⟨g, o + i * 2, none⟩ = some (.int .i64 p.1) ∧ w.cell? ⟨g, o + i * 2 + 1, none⟩ = some (.slice Q m c) ∧ TxtN w w.heap.size Q m c p.2)
theorem WIn.len {w : World} {P : Option Addr} {n : Nat} {ws : List (Int × List B8)} (h : WIn w P n ws) : ws.length = n := h.1
/-- Bytes as To leaves them. -/
def fill8 (b : List B8) : List B8 := if b.length = 65 then b else b.take 64 ++ List.replicate (64 - b.length) 0
theorem fill8_full {b : List B8} (h : b.length ≠ 65) : full (b.map nb) = (fill8 b).map nb := by
  unfold fill8 full
  rw [if_neg h]
  simp [nb]
theorem fill8_length (b : List B8) : (fill8 b).length = 65 ∨ (fill8 b).length = 64 := by
  unfold fill8
  split
  · rename_i h; exact .inl h
  · right; simp; omega
def toW (ws : List (Int × List B8)) : List (Int × List B8) := (ws.take 10).map fun p => (p.1, fill8 p.2)
theorem toW_snoc {ws : List (Int × List B8)} {i : Nat} {p : Int × List B8} (hi : i < 10) (hp : ws[i]? = some p) : toW (ws.take (i + 1)) = toW (ws.take i) ++ [(p.1, fill8 p.2)] := by
  unfold toW
  rw [take_snoc_ hp, List.take_of_length_le (l := ws.take i ++ [p]) (by rw [List.length_append, List.length_take]; simp; omega), List.take_of_length_le (l := ws.take i) (by rw [List.length_take]; omega)]
  simp
theorem toW_all (ws : List (Int × List B8)) : toW (ws.take 10) = toW ws := by unfold toW; rw [List.take_take, Nat.min_self]
theorem TxtN.bytesAt {w w' : World} {P : Option Addr} {n c : Nat} {bs : List B8} (h : TxtN w w.heap.size P n c bs) (hb : Below w.heap.size w w') : BytesAt w' P (bs.map nb) := by
  intro hn
  rw [List.length_map] at hn
  obtain ⟨g, o, rfl, hg, hc⟩ := h.txt.cells (by have := h.txt.len; omega)
  refine ⟨_, rfl, fun j x hx => ?_⟩
  rw [add_off]
  have hj : j < bs.length := by have := (List.getElem?_eq_some_iff.1 hx).1; simpa using this
  have h1 := hc j (by have := h.txt.len; omega)
  rw [hb.cell (World.block_lt_of_cell? w _ h1), h1]
  rw [List.getElem?_map, List.getElem?_eq_getElem hj] at hx
  rw [List.getD_eq_getElem?_getD, List.getElem?_eq_getElem hj]
  simp only [Option.map_some, Option.some.injEq] at hx
  subst hx
  rfl

/-- Where the bytes lie that are copied: in what came in, or in a block of their own. -/
def Src (w wx : World) (g o : Nat) (bs : List B8) : Prop := (g < w.heap.size ∧ ∀ j u, (Vb bs)[j]? = some u → w.cell? ((⟨g, o, none⟩ : Addr).add j) = some u) ∨ (o = 0 ∧ Blk wx g 5 (Vb bs))
theorem Src.row {w wx : World} {g o : Nat} {bs : List B8} (h : Src w wx g o bs) (hb : Below w.heap.size w wx) : ∀ j u, (Vb bs)[j]? = some u → wx.cell? ((⟨g, o, none⟩ : Addr).add j) = some u := by
  intro j u hu
  rcases h with ⟨hg, hc⟩ | ⟨rfl, hk⟩
  · rw [← hc j u hu]
    rw [add_off]
    exact hb.cell hg
  · rw [add_off, hk.cell, Nat.zero_add, hu]
theorem Src.below {w wx wy : World} {g o : Nat} {bs : List B8} (h : Src w wx g o bs) (hb : Below wx.heap.size wx wy) : Src w wy g o bs := by
  rcases h with h | ⟨ho, hk⟩
  · exact .inl h
  · exact .inr ⟨ho, hk.below hb hk.lt⟩
theorem Src.grown {w wx wy : World} {g o N e sz n : Nat} {bs : List B8} {r : Value} {cells : List Value} (h : Src w wx g o bs) (ho : wx.ownsRow N e sz r n cells) (hg : wx.grownBy wy r.ownBlock) (h1 : e ≠ 5) : Src w wy g o bs := by
  rcases h with h | ⟨h0, hk⟩
  · exact .inl h
  · exact .inr ⟨h0, hk.grown hg (fun q => own_blk_ne ho hk h1 q.symm)⟩
theorem made_empty (w wx : World) (h : w.heap.size ≤ wx.heap.size) : (wx.alloc (.cells #[] 5)).ownsRow w.heap.size 5 1 (.slice (some ⟨wx.heap.size, 0, none⟩) 0 0) 0 [] :=
  World.ownsRow_made (base := w.heap.size) (e := 5) (size := 1) wx #[] 0 h (Nat.zero_le _) rfl
theorem empty_grown {wx wy : World} (hg : (wx.alloc (.cells #[] 5)).grownBy wy (Value.ownBlock (.slice (some ⟨wx.heap.size, 0, none⟩) 0 0))) : Below wx.heap.size wx wy :=
  ((Below.refl _ _).alloc (Nat.le_refl _) _).grown hg (by simp) (by intro k hk; simp [Value.ownBlock] at hk; omega)

theorem OWrs.grown {N n : Nat} {A : Nat → Prop} {w w' : World} {v : Value} {X : List (Int × List B8)} {e sz k : Nat} {r : Value} {cs : List Value} (h : OWrs N A w v n X) (ho : w.ownsRow N e sz r k cs) (hg : w.grownBy w' r.ownBlock) (h1 : e ≠ 5) (h2 : e ≠ 184) (h3 : 133 ≠ e) : OWrs N A w' v n X := by
  obtain ⟨cells, c1, c2, c3⟩ := h
  refine ⟨cells, own_grown c1 ho h3 hg, c2, fun j p hp => ?_⟩
  obtain ⟨c0, u, d1, hu⟩ := c3 j p hp
  exact ⟨c0, u, d1, hu.grown ho hg h1 h2⟩
theorem ORfs.grown {N n : Nat} {A : Nat → Prop} {w w' : World} {v : Value} {X : List (Int × List B8)} {e sz k : Nat} {r : Value} {cs : List Value} (h : ORfs N A w v n X) (ho : w.ownsRow N e sz r k cs) (hg : w.grownBy w' r.ownBlock) (h1 : e ≠ 5) (h2 : e ≠ 184) (h3 : 52 ≠ e) : ORfs N A w' v n X := by
  obtain ⟨cells, c1, c2, c3⟩ := h
  refine ⟨cells, own_grown c1 ho h3 hg, c2, fun j p hp => ?_⟩
  obtain ⟨c0, u, d1, hu⟩ := c3 j p hp
  exact ⟨c0, u, d1, hu.grown ho hg h1 h2⟩

theorem bts_len {N n : Nat} {w : World} {v : Value} {xs : List B8} (hl : xs.length = n) (h : w.ownsRow N 5 1 v n (Vb xs)) : Bts (fun g => N ≤ g) w v xs := by
  subst hl
  exact Bts.of_own h

/-- What To answers. -/
def toPost (ws : List (Int × List B8)) (w : World) (e : Ending) (w' : World) : Prop := ∃ v d, e = .returned (.tuple #[v, d]) ∧ OWrs w.heap.size (fun g => w.heap.size ≤ g) w' v (toW ws).length (toW ws) ∧ ORfs w.heap.size (fun g => w.heap.size ≤ g) w' d (toW ws).length (toW ws) ∧ Below w.heap.size w w'

set_option maxHeartbeats 4000000 in
theorem to_any (w : World) (P : Option Addr) (n c : Nat) (ws : List (Int × List B8)) (hw : WIn w P n ws) (hn : n ≤ 9223372036854775807) :
    Calls Tryz.prog 20 #[.slice P n c] w (toPost ws w) := by
  obtain ⟨i0, hi, hz0, hz1, hz2⟩ := info_parts writeInfo
  have HI := Lib.hid (And.intro hi (And.intro hz0 (And.intro hz1 hz2)))
  obtain ⟨i1, hj, hy0, hy1, hy2⟩ := info_parts (show (Tryz.prog.info? 52).map (fun i => (i.zero, i.size, i.bytes)) = some (some (.agg #[.int .i64 0, .slice none 0 0]), 2, 32) by kernel_rfl)
  have HJ := Lib.hid (And.intro hj (And.intro hy0 (And.intro hy1 hy2)))
  obtain ⟨i2, hk, hx0, hx1, hx2⟩ := info_parts (show (Tryz.prog.info? 5).map (fun i => (i.zero, i.size, i.bytes)) = some (some (.int .u8 0), 1, 1) by kernel_rfl)
  have HK := Lib.hid (And.intro hk (And.intro hx0 (And.intro hx1 hx2)))
  have H := Lib.hid hw
  clear hw hi hz0 hz1 hz2 hj hy0 hy1 hy2 hk hx0 hx1 hx2
  go_enter Tryz.func20, Tryz.ntmps20
  go_wp2_with fail
  go_loopw [6, 4, 5] (fun iv tv dv wx => ∃ i : Nat, i ≤ n ∧ i ≤ 10 ∧ iv = .int .i64 i ∧ OWrs w.heap.size (fun g => w.heap.size ≤ g) wx tv i (toW (ws.take i)) ∧ ORfs w.heap.size (fun g => w.heap.size ≤ g) wx dv i (toW (ws.take i)) ∧ Below w.heap.size w wx) (fun iv _ _ _ => n - (intOf iv).toNat)
  case atStart => exact ⟨0, Nat.zero_le _, by omega, rfl, OWrs.empty _ _ _, ORfs.empty _ _ _, Below.refl _ _⟩
  case round =>
    obtain ⟨i, hi, hi10, rfl, h1, h2, h3⟩ := hrel
    have HR := Lib.hid (And.intro h1 (And.intro h2 h3))
    have hsz := h3.size
    clear h1 h2
    by_cases hlt : i < n
    · by_cases hl10 : i < 10
      · obtain ⟨p, hp⟩ : ∃ p, ws[i]? = some p := ⟨_, List.getElem?_eq_getElem (by have := H.out.1; omega)⟩
        obtain ⟨g, o, rfl, hg, hc⟩ := H.out.2 (by omega)
        obtain ⟨Q, m, k, c0', c1', ht⟩ := hc i p hp
        have c0 := (h3.cell hg).trans c0'
        have c1 := (h3.cell hg).trans c1'
        have hmc := ht.txt.cap
        have hmm := ht.txt.capm
        have hml := ht.txt.len
        unfold maxLen at hmm
        have HP := Lib.hid (And.intro hp (And.intro ht (And.intro c0' c1')))
        clear hc hp ht h3 c0' c1'
        have h64 : m ≠ 65 → (fill8 p.2).length = 64 := fun h => by unfold fill8; rw [if_neg (by omega)]; simp; omega
        by_cases h65 : m = 65
        · subst h65
          clear h64
          go_wp2_with fail
          obtain ⟨gb, ob, rfl, hgb, hcb⟩ := HP.out.2.1.txt.cells (by omega)
          have e : fill8 p.2 = p.2 := by unfold fill8; rw [if_pos hml]
          have hsrc : Src w wr gb ob (fill8 p.2) := by
            rw [e]
            refine .inl ⟨World.block_lt_of_cell? w _ (hcb 0 (by omega)), fun j u hu => ?_⟩
            have hj : j < p.2.length := by have := (List.getElem?_eq_some_iff.1 hu).1; rwa [Vb_length] at this
            rw [add_off, hcb j (by omega), ← hu, Vb_get, List.getD_eq_getElem?_getD, List.getElem?_eq_getElem hj]
            rfl
          have HL := Lib.hid (show (fill8 p.2).length = 65 ∧ 65 ≤ 65 ∧ 0 < 65 by rw [e]; exact ⟨hml, by omega, by omega⟩)
          have HX := Lib.hid (And.intro HR.out.1 (And.intro HR.out.2.1 (And.intro HR.out.2.2 hsrc)))
          clear hcb e HR hsrc c1 hmc hml
          generalize wr = wx at HX c0 hsz ⊢
          obtain ⟨cells, ho, hxl, hcs⟩ := HX.out.1
          have HO := Lib.hid (And.intro ho (And.intro hxl hcs))
          have cd0 : wx.drew.cell? ⟨g, o + i * 2, none⟩ = some (.int .i64 p.1) := c0
          have hdb := drew_below wx
          clear ho hxl hcs
          go_region_held3 (fun w' => w'.cell? ⟨g, o + i * 2, none⟩ = some (.int .i64 p.1))
            (first | exact f0 | exact cell_below e0 (new_below _ _) | exact e0 | exact cell_below cd0 (new_below _ _) | exact cd0 | exact c0)
            (first
              | (refine step_append_lies _ rfl (.tmp 34) (.tmp 35) 22 rfl w.heap.size 5 i2 (.int .u8 0) 1 1 Tryz.underlying22 HK.out.1 HK.out.2.1 HK.out.2.2.1 HK.out.2.2.2 rfl (by decide) (.slice (some ⟨wx.heap.size, 0, none⟩) 0 0) 0 [] rfl (made_empty w wx.drew hsz) ⟨gb, ob, none⟩ 65 k (Vb (fill8 p.2)) rfl (by rw [Vb_length, Nat.mul_one]; exact HL.out.1) (HX.out.2.2.2.below (below_of hdb (new_below _ _)) |>.row (HX.out.2.2.1.trans ((below_of hdb (new_below _ _)).mono hsz))) (Vb_oneCell _) (by omega) (by unfold maxLen; omega) (by omega) (by simp; omega) (wx.heap.size + 1) (by simp) ?_; intro g5 cap5 w5 ho5 hg5 hw5 hl5; have e0 : w5.cell? ⟨g, o + i * 2, none⟩ = some (.int .i64 p.1) := cell_below c0 (below_of hdb (empty_grown hg5)); have hb5 := below_of hdb (empty_grown hg5); have H5 := Lib.hid (And.intro ho5 hb5); have hs5 := hb5.size; clear ho5 hg5 hw5 hl5 hb5)
              | ((refine step_append_lies _ rfl (.tmp 28) (.tmp 38) 46 rfl w.heap.size 133 i0 (.agg #[.int .i64 0, .slice none 0 0]) 2 32 Tryz.underlying46 HI.out.1 HI.out.2.1 HI.out.2.2.1 HI.out.2.2.2 rfl (by decide) u4 i cells rfl ((own_below HO.out.1 H5.out.2).alloc _) ⟨w5.heap.size, 0, none⟩ 1 1 [.int .i64 p.1, .slice (some ⟨g5, 0, none⟩) 65 cap5] rfl rfl (new_row w5 [_, _] 133) (pair_one _ _ _ _) (by decide) (by unfold maxLen; omega) (by omega) (by simp; omega) (w5.heap.size + 1) (by simp) ?_); intro g6 cap6 w6 ho6 hg6 hw6 hl6; have hown5 := (own_below HO.out.1 H5.out.2).alloc (.cells #[.int .i64 p.1, .slice (some ⟨g5, 0, none⟩) 65 cap5] 133); have hb6 := (HX.out.2.2.1.trans ((below_of H5.out.2 (new_below w5 _)).mono hsz)).grown hg6 (by simp; omega) (fun q hq => own_ge hown5 q hq); have f0 := (hb6.cell hg).trans HP.out.2.2.1; have H6 := Lib.hid (And.intro ho6 (And.intro hg6 (And.intro hown5 hb6))); clear ho6 hg6 hw6 hl6 hown5 hb6))
          go_wp2_with fail
          have hbel5 := below_of H5.out.2 (new_below w5 (.cells #[.int .i64 p.1, .slice (some ⟨g5, 0, none⟩) 65 cap5] 133))
          have hbt5 : Bts (fun g => w.heap.size ≤ g) w5 (.slice (some ⟨g5, 0, none⟩) 65 cap5) (fill8 p.2) := bts_len HL.out.1 H5.out.1
          have how6 : OWrs w.heap.size (fun g => w.heap.size ≤ g) w6 (.slice (some ⟨g6, 0, none⟩) (i + 1) cap6) (i + 1) (toW (ws.take i) ++ [(p.1, fill8 p.2)]) := by
            refine OWrs.add H6.out.2.2.1 HO.out.2.1 H6.out.2.1 (fun jj pp hpp => ?_) rfl H6.out.1 (fun jj pp hpp => ?_)
            · obtain ⟨c0, u, c1, hu⟩ := HO.out.2.2 jj pp hpp
              exact ⟨c0, u, c1, hu.below hbel5⟩
            · match jj, hpp with
              | 0, hpp =>
                simp only [List.getElem?_cons_zero, Option.some.injEq] at hpp
                subst hpp
                exact ⟨rfl, _, rfl, hbt5.below (new_below _ _)⟩
          have HY := Lib.hid (And.intro how6 (And.intro ((HX.out.2.1.below hbel5).grown H6.out.2.2.1 H6.out.2.1 (by decide) (by decide) (by decide)) (And.intro H6.out.2.2.2 ((HX.out.2.2.2.below hbel5).grown H6.out.2.2.1 H6.out.2.1 (by decide)))))
          have hsz6 := H6.out.2.2.2.size
          clear hbel5 hbt5 how6 H6 H5 HX HO c0 cd0 hdb e0 hs5 hsz
          obtain ⟨cellr, hor, hxr, hcr⟩ := HY.out.2.1
          have HO := Lib.hid (And.intro hor (And.intro hxr hcr))
          have fd0 : w6.drew.cell? ⟨g, o + i * 2, none⟩ = some (.int .i64 p.1) := f0
          have hdb := drew_below w6
          clear hor hxr hcr
          go_region_held3 (fun w' => w'.cell? ⟨g, o + i * 2, none⟩ = some (.int .i64 p.1))
            (first | exact z0 | exact cell_below y0 (new_below _ _) | exact y0 | exact cell_below fd0 (new_below _ _) | exact fd0 | exact f0)
            (first
              | (refine step_append_lies _ rfl (.tmp 46) (.tmp 47) 22 rfl w.heap.size 5 i2 (.int .u8 0) 1 1 Tryz.underlying22 HK.out.1 HK.out.2.1 HK.out.2.2.1 HK.out.2.2.2 rfl (by decide) (.slice (some ⟨w6.heap.size, 0, none⟩) 0 0) 0 [] rfl (made_empty w w6.drew hsz6) ⟨gb, ob, none⟩ 65 k (Vb (fill8 p.2)) rfl (by rw [Vb_length, Nat.mul_one]; exact HL.out.1) (HY.out.2.2.2.below (below_of hdb (new_below _ _)) |>.row (HY.out.2.2.1.trans ((below_of hdb (new_below _ _)).mono hsz6))) (Vb_oneCell _) (by omega) (by unfold maxLen; omega) (by omega) (by simp; omega) (w6.heap.size + 1) (by simp) ?_; intro g7 cap7 w7 ho7 hg7 hw7 hl7; have y0 : w7.cell? ⟨g, o + i * 2, none⟩ = some (.int .i64 p.1) := cell_below f0 (below_of hdb (empty_grown hg7)); have hb7 := below_of hdb (empty_grown hg7); have H7 := Lib.hid (And.intro ho7 hb7); have hs7 := hb7.size; clear ho7 hg7 hw7 hl7 hb7)
              | (refine step_append_lies _ rfl (.tmp 40) (.tmp 50) 45 rfl w.heap.size 52 i1 (.agg #[.int .i64 0, .slice none 0 0]) 2 32 Tryz.underlying45 HJ.out.1 HJ.out.2.1 HJ.out.2.2.1 HJ.out.2.2.2 rfl (by decide) u5 i cellr rfl ((own_below HO.out.1 H7.out.2).alloc _) ⟨w7.heap.size, 0, none⟩ 1 1 [.int .i64 p.1, .slice (some ⟨g7, 0, none⟩) 65 cap7] rfl rfl (new_row w7 [_, _] 52) (pair_one _ _ _ _) (by decide) (by unfold maxLen; omega) (by omega) (by simp; omega) (w7.heap.size + 1) (by simp) ?_; intro g8 cap8 w8 ho8 hg8 hw8 hl8; have hown7 := (own_below HO.out.1 H7.out.2).alloc (.cells #[.int .i64 p.1, .slice (some ⟨g7, 0, none⟩) 65 cap7] 52); have hb8 := (HY.out.2.2.1.trans ((below_of H7.out.2 (new_below w7 _)).mono hsz6)).grown hg8 (by simp; omega) (fun q hq => own_ge hown7 q hq); have z0 := (hb8.cell hg).trans HP.out.2.2.1; have H8 := Lib.hid (And.intro ho8 (And.intro hg8 (And.intro hown7 hb8))); clear ho8 hg8 hw8 hl8 hown7 hb8))
          go_wp2_with fail
          have hbel7 := below_of H7.out.2 (new_below w7 (.cells #[.int .i64 p.1, .slice (some ⟨g7, 0, none⟩) 65 cap7] 52))
          have hbt7 : Bts (fun g => w.heap.size ≤ g) w7 (.slice (some ⟨g7, 0, none⟩) 65 cap7) (fill8 p.2) := bts_len HL.out.1 H7.out.1
          have hor8 : ORfs w.heap.size (fun g => w.heap.size ≤ g) w8 (.slice (some ⟨g8, 0, none⟩) (i + 1) cap8) (i + 1) (toW (ws.take i) ++ [(p.1, fill8 p.2)]) := by
            refine ORfs.add H8.out.2.2.1 HO.out.2.1 H8.out.2.1 (fun jj pp hpp => ?_) rfl H8.out.1 (fun jj pp hpp => ?_)
            · obtain ⟨c0, u, c1, hu⟩ := HO.out.2.2 jj pp hpp
              exact ⟨c0, u, c1, hu.below hbel7⟩
            · match jj, hpp with
              | 0, hpp =>
                simp only [List.getElem?_cons_zero, Option.some.injEq] at hpp
                subst hpp
                exact ⟨rfl, _, rfl, hbt7.below (new_below _ _)⟩
          have HE := Lib.hid (And.intro ((HY.out.1.below hbel7).grown H8.out.2.2.1 H8.out.2.1 (by decide) (by decide) (by decide)) (And.intro hor8 H8.out.2.2.2))
          clear hbel7 hbt7 hor8
          go_roundw
          case rel =>
            refine ⟨i + 1, by omega, by omega, by go_num, ?_, ?_, HE.out.2.2⟩
            · rw [toW_snoc hl10 HP.out.1]
              exact HE.out.1
            · rw [toW_snoc hl10 HP.out.1]
              exact HE.out.2.1
          case measure => simp [intOf]; omega
        · have e0 : ((m : Int) != 65) = true := by simp; omega
          go_wp2_with (go_at_call 58; refine (full_walk _ Q m k (p.2.map nb) (by rw [List.length_map]; exact hml) (by omega) (HP.out.2.1.bytesAt HR.out.2.2)).mono ?_; rintro e w2 ⟨rfl, hk2, hW⟩; have H2 := Lib.hid (And.intro hk2 hW); clear hk2 hW)
          have hsrc : Src w w2 wr.heap.size 0 (fill8 p.2) := by
            have h := H2.out.1
            rw [fill8_full (by omega), U_Vb] at h
            exact .inr ⟨rfl, h⟩
          have hb2 := H2.out.2.size
          have c0 := cell_below c0 H2.out.2
          have hsz : w.heap.size ≤ w2.heap.size := by omega
          obtain ⟨gb, hgb⟩ : ∃ gb, wr.heap.size = gb := ⟨_, rfl⟩
          rw [hgb] at hsrc ⊢
          have HL := Lib.hid (show (fill8 p.2).length = 64 ∧ 64 ≤ 65 ∧ 0 < 64 from ⟨h64 h65, by omega, by omega⟩)
          have HX := Lib.hid (And.intro (HR.out.1.below H2.out.2) (And.intro (HR.out.2.1.below H2.out.2) (And.intro (below_of HR.out.2.2 H2.out.2) hsrc)))
          clear hsrc h64 h65 H2 HR hb2 c1 e0 hmc hml
          generalize w2 = wx at HX c0 hsz ⊢
          obtain ⟨cells, ho, hxl, hcs⟩ := HX.out.1
          have HO := Lib.hid (And.intro ho (And.intro hxl hcs))
          have cd0 : wx.drew.cell? ⟨g, o + i * 2, none⟩ = some (.int .i64 p.1) := c0
          have hdb := drew_below wx
          clear ho hxl hcs
          go_region_held3 (fun w' => w'.cell? ⟨g, o + i * 2, none⟩ = some (.int .i64 p.1))
            (first | exact f0 | exact cell_below e0 (new_below _ _) | exact e0 | exact cell_below cd0 (new_below _ _) | exact cd0 | exact c0)
            (first
              | (refine step_append_lies _ rfl (.tmp 34) (.tmp 35) 22 rfl w.heap.size 5 i2 (.int .u8 0) 1 1 Tryz.underlying22 HK.out.1 HK.out.2.1 HK.out.2.2.1 HK.out.2.2.2 rfl (by decide) (.slice (some ⟨wx.heap.size, 0, none⟩) 0 0) 0 [] rfl (made_empty w wx.drew hsz) ⟨gb, 0, none⟩ 64 64 (Vb (fill8 p.2)) rfl (by rw [Vb_length, Nat.mul_one]; exact HL.out.1) (HX.out.2.2.2.below (below_of hdb (new_below _ _)) |>.row (HX.out.2.2.1.trans ((below_of hdb (new_below _ _)).mono hsz))) (Vb_oneCell _) (by omega) (by unfold maxLen; omega) (by omega) (by simp; omega) (wx.heap.size + 1) (by simp) ?_; intro g5 cap5 w5 ho5 hg5 hw5 hl5; have e0 : w5.cell? ⟨g, o + i * 2, none⟩ = some (.int .i64 p.1) := cell_below c0 (below_of hdb (empty_grown hg5)); have hb5 := below_of hdb (empty_grown hg5); have H5 := Lib.hid (And.intro ho5 hb5); have hs5 := hb5.size; clear ho5 hg5 hw5 hl5 hb5)
              | ((refine step_append_lies _ rfl (.tmp 28) (.tmp 38) 46 rfl w.heap.size 133 i0 (.agg #[.int .i64 0, .slice none 0 0]) 2 32 Tryz.underlying46 HI.out.1 HI.out.2.1 HI.out.2.2.1 HI.out.2.2.2 rfl (by decide) u4 i cells rfl ((own_below HO.out.1 H5.out.2).alloc _) ⟨w5.heap.size, 0, none⟩ 1 1 [.int .i64 p.1, .slice (some ⟨g5, 0, none⟩) 64 cap5] rfl rfl (new_row w5 [_, _] 133) (pair_one _ _ _ _) (by decide) (by unfold maxLen; omega) (by omega) (by simp; omega) (w5.heap.size + 1) (by simp) ?_); intro g6 cap6 w6 ho6 hg6 hw6 hl6; have hown5 := (own_below HO.out.1 H5.out.2).alloc (.cells #[.int .i64 p.1, .slice (some ⟨g5, 0, none⟩) 64 cap5] 133); have hb6 := (HX.out.2.2.1.trans ((below_of H5.out.2 (new_below w5 _)).mono hsz)).grown hg6 (by simp; omega) (fun q hq => own_ge hown5 q hq); have f0 := (hb6.cell hg).trans HP.out.2.2.1; have H6 := Lib.hid (And.intro ho6 (And.intro hg6 (And.intro hown5 hb6))); clear ho6 hg6 hw6 hl6 hown5 hb6))
          go_wp2_with fail
          have hbel5 := below_of H5.out.2 (new_below w5 (.cells #[.int .i64 p.1, .slice (some ⟨g5, 0, none⟩) 64 cap5] 133))
          have hbt5 : Bts (fun g => w.heap.size ≤ g) w5 (.slice (some ⟨g5, 0, none⟩) 64 cap5) (fill8 p.2) := bts_len HL.out.1 H5.out.1
          have how6 : OWrs w.heap.size (fun g => w.heap.size ≤ g) w6 (.slice (some ⟨g6, 0, none⟩) (i + 1) cap6) (i + 1) (toW (ws.take i) ++ [(p.1, fill8 p.2)]) := by
            refine OWrs.add H6.out.2.2.1 HO.out.2.1 H6.out.2.1 (fun jj pp hpp => ?_) rfl H6.out.1 (fun jj pp hpp => ?_)
            · obtain ⟨c0, u, c1, hu⟩ := HO.out.2.2 jj pp hpp
              exact ⟨c0, u, c1, hu.below hbel5⟩
            · match jj, hpp with
              | 0, hpp =>
                simp only [List.getElem?_cons_zero, Option.some.injEq] at hpp
                subst hpp
                exact ⟨rfl, _, rfl, hbt5.below (new_below _ _)⟩
          have HY := Lib.hid (And.intro how6 (And.intro ((HX.out.2.1.below hbel5).grown H6.out.2.2.1 H6.out.2.1 (by decide) (by decide) (by decide)) (And.intro H6.out.2.2.2 ((HX.out.2.2.2.below hbel5).grown H6.out.2.2.1 H6.out.2.1 (by decide)))))
          have hsz6 := H6.out.2.2.2.size
          clear hbel5 hbt5 how6 H6 H5 HX HO c0 cd0 hdb e0 hs5 hsz
          obtain ⟨cellr, hor, hxr, hcr⟩ := HY.out.2.1
          have HO := Lib.hid (And.intro hor (And.intro hxr hcr))
          have fd0 : w6.drew.cell? ⟨g, o + i * 2, none⟩ = some (.int .i64 p.1) := f0
          have hdb := drew_below w6
          clear hor hxr hcr
          go_region_held3 (fun w' => w'.cell? ⟨g, o + i * 2, none⟩ = some (.int .i64 p.1))
            (first | exact z0 | exact cell_below y0 (new_below _ _) | exact y0 | exact cell_below fd0 (new_below _ _) | exact fd0 | exact f0)
            (first
              | (refine step_append_lies _ rfl (.tmp 46) (.tmp 47) 22 rfl w.heap.size 5 i2 (.int .u8 0) 1 1 Tryz.underlying22 HK.out.1 HK.out.2.1 HK.out.2.2.1 HK.out.2.2.2 rfl (by decide) (.slice (some ⟨w6.heap.size, 0, none⟩) 0 0) 0 [] rfl (made_empty w w6.drew hsz6) ⟨gb, 0, none⟩ 64 64 (Vb (fill8 p.2)) rfl (by rw [Vb_length, Nat.mul_one]; exact HL.out.1) (HY.out.2.2.2.below (below_of hdb (new_below _ _)) |>.row (HY.out.2.2.1.trans ((below_of hdb (new_below _ _)).mono hsz6))) (Vb_oneCell _) (by omega) (by unfold maxLen; omega) (by omega) (by simp; omega) (w6.heap.size + 1) (by simp) ?_; intro g7 cap7 w7 ho7 hg7 hw7 hl7; have y0 : w7.cell? ⟨g, o + i * 2, none⟩ = some (.int .i64 p.1) := cell_below f0 (below_of hdb (empty_grown hg7)); have hb7 := below_of hdb (empty_grown hg7); have H7 := Lib.hid (And.intro ho7 hb7); have hs7 := hb7.size; clear ho7 hg7 hw7 hl7 hb7)
              | (refine step_append_lies _ rfl (.tmp 40) (.tmp 50) 45 rfl w.heap.size 52 i1 (.agg #[.int .i64 0, .slice none 0 0]) 2 32 Tryz.underlying45 HJ.out.1 HJ.out.2.1 HJ.out.2.2.1 HJ.out.2.2.2 rfl (by decide) u5 i cellr rfl ((own_below HO.out.1 H7.out.2).alloc _) ⟨w7.heap.size, 0, none⟩ 1 1 [.int .i64 p.1, .slice (some ⟨g7, 0, none⟩) 64 cap7] rfl rfl (new_row w7 [_, _] 52) (pair_one _ _ _ _) (by decide) (by unfold maxLen; omega) (by omega) (by simp; omega) (w7.heap.size + 1) (by simp) ?_; intro g8 cap8 w8 ho8 hg8 hw8 hl8; have hown7 := (own_below HO.out.1 H7.out.2).alloc (.cells #[.int .i64 p.1, .slice (some ⟨g7, 0, none⟩) 64 cap7] 52); have hb8 := (HY.out.2.2.1.trans ((below_of H7.out.2 (new_below w7 _)).mono hsz6)).grown hg8 (by simp; omega) (fun q hq => own_ge hown7 q hq); have z0 := (hb8.cell hg).trans HP.out.2.2.1; have H8 := Lib.hid (And.intro ho8 (And.intro hg8 (And.intro hown7 hb8))); clear ho8 hg8 hw8 hl8 hown7 hb8))
          go_wp2_with fail
          have hbel7 := below_of H7.out.2 (new_below w7 (.cells #[.int .i64 p.1, .slice (some ⟨g7, 0, none⟩) 64 cap7] 52))
          have hbt7 : Bts (fun g => w.heap.size ≤ g) w7 (.slice (some ⟨g7, 0, none⟩) 64 cap7) (fill8 p.2) := bts_len HL.out.1 H7.out.1
          have hor8 : ORfs w.heap.size (fun g => w.heap.size ≤ g) w8 (.slice (some ⟨g8, 0, none⟩) (i + 1) cap8) (i + 1) (toW (ws.take i) ++ [(p.1, fill8 p.2)]) := by
            refine ORfs.add H8.out.2.2.1 HO.out.2.1 H8.out.2.1 (fun jj pp hpp => ?_) rfl H8.out.1 (fun jj pp hpp => ?_)
            · obtain ⟨c0, u, c1, hu⟩ := HO.out.2.2 jj pp hpp
              exact ⟨c0, u, c1, hu.below hbel7⟩
            · match jj, hpp with
              | 0, hpp =>
                simp only [List.getElem?_cons_zero, Option.some.injEq] at hpp
                subst hpp
                exact ⟨rfl, _, rfl, hbt7.below (new_below _ _)⟩
          have HE := Lib.hid (And.intro ((HY.out.1.below hbel7).grown H8.out.2.2.1 H8.out.2.1 (by decide) (by decide) (by decide)) (And.intro hor8 H8.out.2.2.2))
          clear hbel7 hbt7 hor8
          go_roundw
          case rel =>
            refine ⟨i + 1, by omega, by omega, by go_num, ?_, ?_, HE.out.2.2⟩
            · rw [toW_snoc hl10 HP.out.1]
              exact HE.out.1
            · rw [toW_snoc hl10 HP.out.1]
              exact HE.out.2.1
          case measure => simp [intOf]; omega
      · obtain rfl : i = 10 := by omega
        have hx := HR.out.1
        have hy := HR.out.2.1
        rw [toW_all] at hx hy
        have hl := hx.choose_spec.2.1
        have HZ := Lib.hid (And.intro hx (And.intro hy hl))
        clear hx hy hl h3
        go_wp2_with fail
        go_ret2
        refine ⟨_, _, rfl, ?_, ?_, HR.out.2.2⟩
        · rw [HZ.out.2.2]; exact HZ.out.1
        · rw [HZ.out.2.2]; exact HZ.out.2.1
    · obtain rfl : i = n := by omega
      have hx := HR.out.1
      have hy := HR.out.2.1
      rw [List.take_of_length_le (by have := H.out.1; omega)] at hx hy
      have hl := hx.choose_spec.2.1
      have HZ := Lib.hid (And.intro hx (And.intro hy hl))
      clear hx hy hl h3
      go_wp2_with fail
      go_ret2
      refine ⟨_, _, rfl, ?_, ?_, HR.out.2.2⟩
      · rw [HZ.out.2.2]; exact HZ.out.1
      · rw [HZ.out.2.2]; exact HZ.out.2.1
end Go.Proofs.YtfkdpndcoegfpaaGreatDoor
end

/-
  The document's Big, small, full, sector. Conditions: the bytes are known.
-/

section
set_option maxRecDepth 100000
set_option linter.unusedSimpArgs false
set_option linter.unusedVariables false
namespace Go.Proofs.YtfkdpndcoegfpaaGreatDoor
open Go.RowKit

set_option maxRecDepth 100000 in
set_option maxHeartbeats 1000000 in
theorem rfull_walk (w : World) (A : Option Addr) (n c : Nat) (xs : List Int) (hn : xs.length = n) (hbig : n ≤ 9223372036854775807) (h : BytesAt w A xs) :
    Calls Tryz.prog 140 #[.slice A n c] w fun e w' => e = .returned (.slice (some ⟨w.heap.size, 0, none⟩) 64 64) ∧ Blk w' w.heap.size 5 (U (full xs)) ∧ Below w.heap.size w w' := by
  have hmk : (Instr.makeSlice 22 (.int .i64 64) (.int .i64 64)).run Tryz.prog w = .ok (.slice (some ⟨w.heap.size, 0, none⟩) 64 64) (w.alloc (.cells (U Z64).toArray 5)) := make_bytes w 64 (by omega) (by omega)
  have h0 : FullRel w.heap.size xs w 0 (w.alloc (.cells (U Z64).toArray 5)) := ⟨Blk.new w _ _, (Below.refl _ w).alloc (Nat.le_refl _) _⟩
  have H0 := Lib.hid h0
  have HN := Lib.hid hn
  have HA := Lib.hid h
  clear h0 hn h
  go_enter Tryz.func140, Tryz.ntmps140
  go_wp2_with fail
  go_loopw [4] (fun i wr => ∃ k : Nat, k ≤ 64 ∧ k ≤ n ∧ i = .int .i64 k ∧ FullRel w.heap.size xs w k wr) (fun i _ => 64 - (intOf i).toNat)
  case atStart => exact ⟨0, Nat.zero_le _, Nat.zero_le _, rfl, H0.out⟩
  case round =>
    obtain ⟨k, hk, hkn, rfl, hrel⟩ := hrel
    have HR := Lib.hid hrel
    by_cases hlt : k < n
    · by_cases hlt2 : k < 64
      · obtain ⟨ad, rfl, hc⟩ := HA.out (by have := HN.out; omega)
        obtain ⟨x, hx⟩ : ∃ x, xs[k]? = some x := ⟨_, List.getElem?_eq_getElem (by have := HN.out; omega)⟩
        have e0 := hc k x hx
        have hlt3 : (ad.add k).block < w.heap.size := World.block_lt_of_cell? w _ e0
        have e0' : wr.cell? (ad.add k) = some (.int .u8 x) := (hrel.2.cell hlt3).trans e0
        obtain ⟨u, e1⟩ : ∃ u, wr.cell? ⟨w.heap.size, k, none⟩ = some u := ⟨_, by rw [hrel.1.cell, List.getElem?_eq_getElem (by have := HN.out; simp [U, FullTo]; omega)]⟩
        have f1 := hrel.1.frozen k
        have HX := Lib.hid hx
        clear hrel hc hx e0 hlt3
        go_wp2_with fail
        go_roundw
        case rel => exact ⟨k + 1, by omega, by omega, by go_num, by rw [← FullTo.step xs k x hlt2 HX.out]; exact HR.out.1.set_ k _, HR.out.2.setCell (Nat.le_refl _) _⟩
        case measure => simp [intOf]; omega
      · obtain rfl : k = 64 := by omega
        clear hrel
        go_wp2_with fail
        go_ret
        exact ⟨rfl, by rw [← FullTo.done xs 64 (.inr ⟨rfl, by have := HN.out; omega⟩)]; exact HR.out.1, HR.out.2⟩
    · obtain rfl : k = n := by omega
      have hd : decide ((k : Int) < k) = false := by simp
      clear hrel
      go_wp2_with fail
      go_ret
      exact ⟨rfl, by rw [← FullTo.done xs k (.inl ⟨HN.out.symm, hk⟩)]; exact HR.out.1, HR.out.2⟩


theorem and255 (m : Nat) (hm : m ≤ 9223372036854775807) : bits .and .i64 (m : Int) 255 = ((m % 256 : Nat) : Int) := by
  unfold bits
  simp only [IntKind.bits]
  have e1 : BitVec.ofInt 64 (m : Int) = BitVec.ofNat 64 m := by
    apply BitVec.eq_of_toNat_eq
    simp
  have e2 : BitVec.ofInt 64 (255 : Int) = BitVec.ofNat 64 255 := by rfl
  rw [e1, e2]
  have e3 : (BitVec.ofNat 64 m &&& BitVec.ofNat 64 255).toNat = m % 256 := by
    rw [BitVec.toNat_and, BitVec.toNat_ofNat, BitVec.toNat_ofNat, Nat.mod_eq_of_lt (a := m) (by omega), Nat.mod_eq_of_lt (a := 255) (by omega)]
    exact Nat.and_two_pow_sub_one_eq_mod m 8
  have e4 : ∀ z : BitVec 64, z.toNat = m % 256 → IntKind.i64.wrap (z.toNat : Int) = ((m % 256 : Nat) : Int) := by
    intro z hz
    rw [hz]
    simp [IntKind.wrap, IntKind.signed, IntKind.bits]
    omega
  exact e4 _ e3

set_option maxHeartbeats 1000000 in
theorem rbig_any (w : World) (n size : Nat) (hn : n ≤ 9223372036854775807) (hs : size ≤ 8) :
    Calls Tryz.prog 137 #[.int .i64 n, .int .i64 size] w fun e w' => e = .returned (.slice (some ⟨w.heap.size, 0, none⟩) size size) ∧ Blk w' w.heap.size 5 (Vb (big size n)) ∧ Below w.heap.size w w' := by
  have hmk := make_bytes w size (by omega) (by omega)
  have hz : U (List.replicate size 0) = Vb (bigPart size n 0) := by rw [bigPart_zero]; simp [U, Vb, nb]
  have hb := Blk.new w 5 (U (List.replicate size 0))
  have hw := new_below w (.cells (U (List.replicate size 0)).toArray 5)
  rw [Int.toNat_natCast] at hmk
  rw [hz] at hb hw hmk
  have H := Lib.hid (And.intro hb hw)
  clear hz hb hw
  go_enter Tryz.func137, Tryz.ntmps137
  go_wp2_with fail
  clear hmk
  go_loopw [6, 0] (fun iv nv wx => ∃ k : Nat, k ≤ size ∧ iv = .int .i64 ((size : Int) - 1 - k) ∧ nv = .int .i64 ((n / 2 ^ (8 * k) : Nat) : Int) ∧ Blk wx w.heap.size 5 (Vb (bigPart size n k)) ∧ Below w.heap.size w wx) (fun iv _ _ => (intOf iv + 1).toNat)
  case atStart => exact ⟨0, Nat.zero_le _, by simp, by simp, H.out.1, H.out.2⟩
  case round =>
    clear H
    obtain ⟨k, hk, rfl, rfl, h1, h2⟩ := hrel
    have HR := Lib.hid (And.intro h1 h2)
    obtain ⟨m, hm⟩ : ∃ m, n / 2 ^ (8 * k) = m := ⟨_, rfl⟩
    have hmb : m ≤ 9223372036854775807 := by rw [← hm]; exact Nat.le_trans (Nat.div_le_self _ _) hn
    have HM := Lib.hid hm
    by_cases hlt : k < size
    · obtain ⟨i, hi⟩ : ∃ i : Nat, (size : Int) - 1 - k = i := ⟨size - 1 - k, by omega⟩
      have hii : i = size - 1 - k := by omega
      have c0 := h1.cell i
      have f0 := h1.frozen i
      rw [Vb_get, List.getElem?_eq_getElem (by rw [bigPart_length]; omega)] at c0
      rw [hi, hm]
      have HI := Lib.hid hii
      clear h1 h2 hm hii
      go_wp2_with fail
      have hval : bits .and .i64 (m : Int) 255 % 256 = nb (bigAt size n (size - 1 - k)) := by
        rw [and255 m hmb]
        unfold bigAt
        rw [nb_of, show size - 1 - (size - 1 - k) = k by omega, HM.out]
        omega
      refine ⟨⟨k + 1, by omega, by have := HI.out; congr 1; omega, ?_, ?_, HR.out.2.setCell (Nat.le_refl _) _⟩, by have := HI.out; simp [intOf]⟩
      · congr 1
        rw [← HM.out, show 8 * (k + 1) = 8 * k + 8 by omega, Nat.pow_add, ← Nat.div_div_eq_div_mul]
        omega
      · rw [hval, HI.out, ← bigPart_set hlt]
        exact HR.out.1.set_ _ _
    · obtain rfl : k = size := by omega
      have e0 : decide ((0 : Int) ≤ (k : Int) - 1 - k) = false := by simp; omega
      rw [bigPart_all] at h1
      have HE := Lib.hid (And.intro h1 h2)
      clear HR h1 h2
      go_wp2_with fail
      go_ret
      exact ⟨rfl, HE.out.1, HE.out.2⟩

theorem rsmall_any (w : World) (A : Nat → Prop) (g o m c : Nat) (xs : List B8) (hx : Bts A w (.slice (some ⟨g, o, none⟩) m c) xs) (hm : 4 ≤ m) (hc : m ≤ c) (hcm : c ≤ 9223372036854775807) :
    Calls Tryz.prog 98 #[.slice (some ⟨g, o, none⟩) m c] w fun e w' => e = .returned (.int .i64 (fromB (sub xs 0 4))) ∧ Below w.heap.size w w' := by
  obtain ⟨hl, hcell⟩ := hx.cells
  obtain ⟨g', o', e, _, _, hcell⟩ := hcell (by omega)
  cases e
  obtain ⟨x0, x1, x2, x3, rest, rfl⟩ : ∃ x0 x1 x2 x3 r, xs = x0 :: x1 :: x2 :: x3 :: r := by
    match xs, hl with
    | x0 :: x1 :: x2 :: x3 :: r, _ => exact ⟨x0, x1, x2, x3, r, rfl⟩
    | [], hl => simp at hl; omega
    | [_], hl => simp at hl; omega
    | [_, _], hl => simp at hl; omega
    | [_, _, _], hl => simp at hl; omega
  have c0 : w.cell? ⟨g, o, none⟩ = some (.int .u8 (nb x0)) := hcell 0 _ rfl
  have c1 : w.cell? ⟨g, o + 1, none⟩ = some (.int .u8 (nb x1)) := hcell 1 _ rfl
  have c2 : w.cell? ⟨g, o + 2, none⟩ = some (.int .u8 (nb x2)) := hcell 2 _ rfl
  have c3 : w.cell? ⟨g, o + 3, none⟩ = some (.int .u8 (nb x3)) := hcell 3 _ rfl
  have b0 := x0.isLt
  have b1 := x1.isLt
  have b2 := x2.isLt
  have b3 := x3.isLt
  have hf : fromB (sub (x0 :: x1 :: x2 :: x3 :: rest) 0 4) = x0.toNat * 16777216 + x1.toNat * 65536 + x2.toNat * 256 + x3.toNat := by
    simp [sub, fromB]
    omega
  rw [hf]
  unfold nb at c0 c1 c2 c3
  have HC := Lib.hid (And.intro hl hx)
  clear hl hx hcell hf
  go_enter Tryz.func98, Tryz.ntmps98
  go_wp2_with fail
  go_region
  go_wp2_with fail
  go_ret
  exact ⟨ret_int (by omega), drew_below w⟩

theorem rsector_any (w : World) (g o N c no : Nat) (h1 : 64 * no + 64 ≤ N) (h2 : N ≤ c) (h3 : c ≤ 9223372036854775807) :
    Calls Tryz.prog 52 #[.slice (some ⟨g, o, none⟩) N c, .int .i64 no] w fun e w' => e = .returned (.slice (some ⟨g, o + 64 * no, none⟩) 64 (c - 64 * no)) ∧ w = w' := by
  obtain ⟨q, hq⟩ : ∃ q, 64 * no = q := ⟨_, rfl⟩
  have hqi : (64 : Int) * (no : Int) = (q : Int) := by omega
  rw [hq] at h1 ⊢
  have HQ := Lib.hid hq
  clear hq
  go_enter Tryz.func52, Tryz.ntmps52
  go_wp2_with fail
  go_ret
  refine ⟨?_, rfl⟩
  rw [show q + 64 - q = 64 by omega]
  rfl
end Go.Proofs.YtfkdpndcoegfpaaGreatDoor
end

/-
  The law's data: all data of a log. Conditions: the disk has power that never goes; it has at most 40 sectors of data.
-/

section
set_option maxRecDepth 100000
set_option linter.unusedSimpArgs false
set_option linter.unusedVariables false
namespace Go.Proofs.YtfkdpndcoegfpaaGreatDoor
open Go.RowKit

/-- The first k data sectors, one behind the other. -/
def dataS (S : Nat → List B8) (j k : Nat) : List B8 := ((List.range k).map fun i => S (1 + j + i)).flatten
theorem dataS_succ (S : Nat → List B8) (j k : Nat) : dataS S j (k + 1) = dataS S j k ++ S (1 + j + k) := by simp [dataS, List.range_succ]
theorem dataS_length {S : Nat → List B8} {j k : Nat} (h : ∀ i, i < k → (S (1 + j + i)).length = 64) : (dataS S j k).length = 64 * k := by
  induction k with
  | zero => rfl
  | succ k ih => rw [dataS_succ, List.length_append, ih (fun i hi => h i (by omega)), h k (by omega)]; omega
theorem Bts.row {A : Nat → Prop} {w : World} {P : Addr} {n c : Nat} {xs : List B8} (h : Bts A w (.slice (some P) n c) xs) : ∀ j u, (Vb xs)[j]? = some u → w.cell? (P.add j) = some u := by
  rcases h with ⟨e, rfl⟩ | ⟨g, o, cap, t, cs, e, hA, hn, hb, ht, h1, h2⟩
  · cases e
  · cases e
    intro j u hu
    have hj : j < xs.length := by have := (List.getElem?_eq_some_iff.1 hu).1; rwa [Vb_length] at this
    rw [add_off, hb.cell]
    rw [← ht, List.getElem?_take, if_pos hj, List.getElem?_drop] at hu
    exact hu

section
variable {B D L G n j : Nat} {S : Nat → List B8} {cw cf : Nat} {w : World} {done : Nat} {x : Int × Int} {red : Bool}
set_option maxHeartbeats 2000000 in
theorem data_of (hd : Idle B D L n S cw cf w) (hG : Blk w G 126 (logCells D j x done red)) (hj : j + 1 < n) (hn : n ≤ 40) :
    Calls Tryz.prog 18 #[.pointer (some ⟨G, 0, none⟩)] w fun e w' => ∃ v, e = .returned v ∧ Bts (fun g => w.heap.size ≤ g) w' v (dataS S j (n - j - 1)) ∧ Below w.heap.size w w' := by
  obtain ⟨i0, hi, hz0, hz1, hz2⟩ := info_parts (show (Tryz.prog.info? 5).map (fun i => (i.zero, i.size, i.bytes)) = some (some (.int .u8 0), 1, 1) by kernel_rfl)
  have HI := Lib.hid (And.intro hi (And.intro hz0 (And.intro hz1 hz2)))
  have hlen : ∀ k, k ≤ n - j - 1 → (dataS S j k).length = 64 * k := fun k hk => dataS_length fun i hi => hd.sec (by omega)
  have H := Lib.hid (And.intro hd (And.intro hG hlen))
  clear hd hG hlen hi hz0 hz1 hz2
  go_enter Tryz.func18, Tryz.ntmps18
  go_wp2_with fail
  go_loopw [4, 3] (fun i v wr => ∃ k : Nat, k ≤ n - j - 1 ∧ i = .int .i64 k ∧ wr.ownsRow w.heap.size 5 1 v (64 * k) (Vb (dataS S j k)) ∧ Below w.heap.size w wr) (fun i _ _ => (n - j - 1) - (intOf i).toNat)
  case atStart => exact ⟨0, by omega, rfl, World.ownsRow_nil _ _ _ _, Below.refl _ _⟩
  case round =>
    obtain ⟨k, hk, rfl, hown, hbel⟩ := hrel
    have hlk := H.out.2.2 k hk
    have HR := Lib.hid (And.intro hown hbel)
    clear hown hbel hlk
    by_cases hkn : k < n - j - 1
    · go_wp2_with (first
        | (go_at_call 56; refine (jsectors_any (H.out.1.below HR.out.2) (H.out.2.1.below HR.out.2 H.out.2.1.lt) hj).mono ?_; rintro e w1 ⟨rfl, hW⟩; have H1 := Lib.hid (And.intro (below_of HR.out.2 hW) hW); clear hW)
        | (go_at_call 23; refine (jread_any (H.out.1.below H1.out.1) (H.out.2.1.below H1.out.1 H.out.2.1.lt) hj k hkn).mono ?_; rintro e w2 ⟨v, rfl, hv, hW⟩; have hs64 := H.out.1.sec (k := 1 + j + k) (by omega); obtain ⟨Q, k3, rfl, hk64, hk3⟩ := hv.form; rw [hs64] at hk64 hv ⊢; obtain ⟨g, o, rfl, _, _, _⟩ := hv.cells.2 (by omega); have H2 := Lib.hid (And.intro hv (And.intro (below_of H1.out.1 hW) (own_below HR.out.1 (below_of H1.out.2 hW)))); clear hW hv)
        | (at_builtin; go_loud (refine wpList_append_own _ rfl (.tmp 21) (.tmp 22) 22 rfl w.heap.size 5 i0 (.int .u8 0) 1 1 Tryz.underlying22 HI.out.1 HI.out.2.1 HI.out.2.2.1 HI.out.2.2.2 rfl (by decide) u3 (64 * k) (Vb (dataS S j k)) rfl H2.out.2.2 ⟨g, o, none⟩ 64 k3 (Vb (S (1 + j + k))) rfl (by rw [Vb_length]; exact hs64) H2.out.1.row (Vb_oneCell _) (by unfold maxLen; omega) (by omega) H2.out.2.1.size ?_); intro v3 w3 ho3 hg3 _; have H3 := Lib.hid (And.intro ho3 (H2.out.2.1.grown hg3 H2.out.2.1.size (fun q hq => own_ge H2.out.2.2 q hq))); clear ho3 hg3))
      go_roundw
      case rel =>
        refine ⟨k + 1, by omega, by go_num, ?_, H3.out.2⟩
        rw [dataS_succ, Vb_append, show 64 * (k + 1) = 64 * k + 64 by omega]
        exact H3.out.1
      case measure => simp [intOf]; omega
    · obtain rfl : k = n - j - 1 := by omega
      go_wp2_with (first
        | (go_at_call 56; refine (jsectors_any (H.out.1.below HR.out.2) (H.out.2.1.below HR.out.2 H.out.2.1.lt) hj).mono ?_; rintro e w1 ⟨rfl, hW⟩; have H1 := Lib.hid (And.intro (below_of HR.out.2 hW) hW); clear hW))
      go_ret
      refine ⟨_, rfl, ?_, H1.out.1⟩
      have ho := own_below HR.out.1 H1.out.2
      rw [← H.out.2.2 _ (Nat.le_refl _)] at ho
      exact Bts.of_own ho
end
end Go.Proofs.YtfkdpndcoegfpaaGreatDoor
end
