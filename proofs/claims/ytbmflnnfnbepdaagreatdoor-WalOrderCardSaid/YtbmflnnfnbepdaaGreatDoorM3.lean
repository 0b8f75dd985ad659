/-
  Flush: what it does to a disk. Conditions: the disk is held.
-/
import Derived.Test.YtbmflnnfnbepdaaGreatDoorM2
import Derived.WalkMore
import Derived.Sort.OwnSortedInts
import Derived.Deep.QuietTactic
import Derived.BigQuiet
import Derived.Laws.IdiomStrings
import Derived.Lib.SlBytesConst
import Derived.Stop.BytesEq
import Derived.Laws.AppendOwnNone
import Derived.OwnWalk
section
set_option maxRecDepth 100000
set_option linter.unusedSimpArgs false
set_option linter.unusedVariables false
namespace Go.Proofs.YtbmflnnfnbepdaaGreatDoor
open Go.RowKit

theorem flush_off (w : World) (D : Nat) (c0 : w.cell? ⟨D, 0, none⟩ = some (.bool false)) :
    Calls Tryz.prog 7 #[.pointer (some ⟨D, 0, none⟩)] w fun e w' => e = .returned (.int .i64 9) ∧ w = w' := by
  go_enter Tryz.func7, Tryz.ntmps7
  go_wp2_with (go_at_call 22; refine (on_any _ D _ c0).mono ?_; rintro e w' ⟨rfl, rfl⟩)
  go_ret
  exact ⟨rfl, rfl⟩

theorem flush_none (w : World) (D L : Nat) (n lc : Nat) (wv : Value) (wr fl : Int) (hd : Blk w D 66 (dk true true 0 L n lc wv wr fl)) :
    Calls Tryz.prog 7 #[.pointer (some ⟨D, 0, none⟩)] w fun e w' => e = .returned (.int .i64 9) ∧
      Blk w' D 66 (dk false true 0 L n lc wv wr fl) ∧ Only [D] w w' := by
  obtain ⟨c0, c1, c2, c3, c4, c5, c6⟩ := dk_cells hd
  have HD := Lib.hid hd
  clear hd
  go_enter Tryz.func7, Tryz.ntmps7
  go_wp2_with (first | (go_at_call 22; refine (on_any _ D _ c0).mono ?_; rintro e w' ⟨rfl, rfl⟩))
  refine (spend_no w D true L n lc wv wr fl HD.out).mono ?_
  rintro e w1 ⟨rfl, hd1, ho1⟩
  have H := Lib.hid (And.intro hd1 ho1)
  clear hd1 ho1
  go_wp2_with fail
  go_ret
  exact ⟨rfl, H.out.1, H.out.2⟩

/-- The writes' slice and its cells, in a later world in which the row stands. -/
def Form (w : World) (A : Option Addr) (ws : List (Int × List Int)) : Prop := ∀ i p, ws[i]? = some p →
    ∃ g, A = some ⟨g, 0, none⟩ ∧ w.cell? ⟨g, i * 65, none⟩ = some (.int .i64 p.1) ∧ ∀ j x, p.2[j]? = some x → w.cell? ⟨g, i * 65 + 1 + j, none⟩ = some (.int .u8 x)
theorem Form.only {w w' : World} {A : Option Addr} {ws : List (Int × List Int)} {S : List Nat} (h : Form w A ws) (ho : Only S w w') (hA : ∀ a, A = some a → a.block ∉ S) : Form w' A ws := by
  intro i p hp
  obtain ⟨g, rfl, h1, h2⟩ := h i p hp
  have hb : w'.heap[g]? = w.heap[g]? := ho.block g (World.block_lt_of_cell? w _ h1) (hA _ rfl)
  exact ⟨g, rfl, (World.cell?_of_block (a := ⟨g, i * 65, none⟩) hb).trans h1, fun j x hx => (World.cell?_of_block (a := ⟨g, i * 65 + 1 + j, none⟩) hb).trans (h2 j x hx)⟩

/-- What the loop of Flush keeps. -/
def LayRel (L : Nat) (s : St) (w : World) (k : Nat) (wr : World) : Prop := Blk wr L 5 (U (layAll s.laid (s.waits.take k)) ++ s.tl) ∧ Only [L] w wr

theorem flush_end (B : Nat) (w w1 wr : World) (D L : Nat) (wv : Value) (s : St) (hd : IsDisk B w D L wv s) (hon : s.on = true) (hs : ¬ (s.armed = true ∧ s.left = 0)) (hfl : s.fl < 1000000) (ho1 : Only [D] w w1)
    (hdr : Blk wr D 66 (dk true s.armed (nextLeft s.armed s.left) L s.n s.lc wv s.wr s.fl)) (hr : LayRel L s w1 s.waits.length wr) :
    IsDisk B ((wr.setCell ⟨D, 4, none⟩ (.slice none 0 0)).setCell ⟨D, 6, none⟩ (.int .i64 (s.fl + 1))) D L (.slice none 0 0) { s with left := nextLeft s.armed s.left, laid := layAll s.laid s.waits, waits := [], fl := s.fl + 1 } ∧
    Only [D, L] w ((wr.setCell ⟨D, 4, none⟩ (.slice none 0 0)).setCell ⟨D, 6, none⟩ (.int .i64 (s.fl + 1))) := by
  have hDL : L ≠ D := hd.laid.ne_ hd.disk (by decide)
  obtain ⟨r1, r2⟩ := hr
  rw [List.take_length] at r1
  refine ⟨⟨?_, ?_, World.ownsRow_nil _ _ _ _, hd.baseD, hd.baseL, ?_⟩, ?_⟩
  · have := (hdr.set_ 4 (.slice none 0 0)).set_ 6 (.int .i64 (s.fl + 1))
    rw [hon]
    exact this
  · exact (r1.far (p := ⟨D, 4, none⟩) hDL _).far (p := ⟨D, 6, none⟩) hDL _
  · have hg := hd.good
    exact ⟨layAll_length _ _ hg.size hg.sec, hg.n1, hg.n2, by intro p hp; simp at hp, (left_ok hg hs).1, (left_ok hg hs).2, by simp, hg.wr0, hg.wr1, by have := hg.fl0; show 0 ≤ s.fl + 1; omega, by show s.fl + 1 ≤ 1000000; omega, hg.lc0⟩
  · have h1 : Only [D, L] w wr := (ho1.mono (by intro k hk _; simp at hk; simp [hk])).trans (r2.mono (by intro k hk _; simp at hk; simp [hk]))
    exact (h1.setCell (.inl (by simp)) _).setCell (.inl (by simp)) _

set_option maxHeartbeats 1000000 in
theorem flush_bare (B : Nat) (w : World) (D L : Nat) (wv : Value) (s : St) (hd : IsDisk B w D L wv s) (hon : s.on = true) (hs : ¬ (s.armed = true ∧ s.left = 0)) (hfl : s.fl < 1000000) :
    Calls Tryz.prog 7 #[.pointer (some ⟨D, 0, none⟩)] w fun e w' => e = .returned (.int .i64 0) ∧
      IsDisk B w' D L (.slice none 0 0) { s with left := nextLeft s.armed s.left, laid := layAll s.laid s.waits, waits := [], fl := s.fl + 1 } ∧ Only [D, L] w w' := by
  obtain ⟨A, c, rfl, hform⟩ := hd.form
  have hn := hd.good.n2
  have hcap := hd.good.cap
  have hlc := hd.good.lc0
  have hw0 := hd.good.fl0
  have hdisk := hd.disk
  rw [hon] at hdisk
  obtain ⟨c0, c1, c2, c3, c4, c5, c6⟩ := dk_cells hdisk
  have HD := Lib.hid hd
  have HF : Hid (Form w A s.waits) := hform
  have HS := Lib.hid hs
  have HON := Lib.hid hon
  have HK := Lib.hid hdisk
  clear hd hform hs hon hdisk
  go_enter Tryz.func7, Tryz.ntmps7
  go_wp2_with (first | (go_at_call 22; refine (on_any _ D _ c0).mono ?_; rintro e w' ⟨rfl, rfl⟩))
  refine (spend_ok w D true s.armed s.left L s.n s.lc _ s.wr s.fl HK.out HS.out HD.out.good.left0 HD.out.good.left1).mono ?_
  rintro e w1 ⟨rfl, hd1, ho1⟩
  clear c0 c1 c2 c3 c4 c5 c6
  obtain ⟨c0, c1, c2, c3, c4, c5, c6⟩ := dk_cells hd1
  have Hd1 := Lib.hid hd1
  have Ho1 := Lib.hid ho1
  clear hd1 ho1
  have hrowD : (Value.slice A s.waits.length c).ownBlock ≠ some D := own_blk_ne HD.out.own HD.out.disk (by decide)
  have hrowL : (Value.slice A s.waits.length c).ownBlock ≠ some L := own_blk_ne HD.out.own HD.out.laid (by decide)
  have hDL : D ≠ L := HD.out.disk.ne_ HD.out.laid (by decide)
  have HR := Lib.hid (And.intro hrowD (And.intro hrowL hDL))
  clear hrowD hrowL hDL
  have hF1 : Form w1 A s.waits := HF.out.only Ho1.out (by
    intro a ha
    subst ha
    have := HR.out.1
    simpa [Value.ownBlock] using this)
  have HF1 := Lib.hid hF1
  have hL1 : Blk w1 L 5 (U s.laid ++ s.tl) := HD.out.laid.only Ho1.out (by simpa using fun e => HR.out.2.2 e.symm)
  have HL1 := Lib.hid hL1
  clear hF1 hL1 HF
  go_wp2_with fail
  go_loopw [19] (fun i wr => ∃ k : Nat, k ≤ s.waits.length ∧ i = .int .i64 k ∧ LayRel L s w1 k wr) (fun i _ => s.waits.length - (intOf i).toNat)
  case atStart => exact ⟨0, Nat.zero_le _, rfl, by simpa [layAll] using HL1.out, Only.refl _ _⟩
  case round =>
    obtain ⟨k, hk, rfl, hrel⟩ := hrel
    have HR1 := Lib.hid hrel
    have hdr : Blk wr D 66 (dk true s.armed (nextLeft s.armed s.left) L s.n s.lc (.slice A s.waits.length c) s.wr s.fl) := Hd1.out.only hrel.2 (by simpa using HR.out.2.2)
    clear c0 c1 c2 c3 c4 c5 c6
    obtain ⟨c0, c1, c2, c3, c4, c5, c6⟩ := dk_cells hdr
    have f4 := hdr.frozen 4
    have Hdr := Lib.hid hdr
    clear hrel hdr
    by_cases hlt : k < s.waits.length
    · obtain ⟨p, hp⟩ : ∃ p, s.waits[k]? = some p := ⟨_, List.getElem?_eq_getElem hlt⟩
      obtain ⟨g, rfl, hno, hbs⟩ := (HF1.out.only HR1.out.2 (by
        intro a ha
        subst ha
        have := HR.out.2.1
        simpa [Value.ownBlock] using this)) k p hp
      have hsec := HD.out.good.sec p (List.mem_of_getElem? hp)
      have hpn : p.1 = ((p.1.toNat : Nat) : Int) := by omega
      rw [hpn] at hno
      have HP := Lib.hid (And.intro hp (And.intro hsec hpn))
      have HB := Lib.hid hbs
      clear hp hsec hpn hbs
      go_wp2_with (go_at_call 26; refine (lay_any _ D L g (k * 65) s.n s.lc p.1.toNat (layAll s.laid (s.waits.take k)) p.2 s.tl hlc hn (by have := HP.out.2.1; omega) c3 HR1.out.1 (layAll_length _ _ HD.out.good.size (fun q hq => HD.out.good.sec q (List.mem_of_mem_take hq))) HP.out.2.1.2.2 hno HB.out).mono ?_; rintro e w2 ⟨rfl, h1, h2⟩; have HH := Lib.hid (And.intro h1 h2); clear h1 h2)
      go_roundw
      case rel =>
        refine ⟨k + 1, by omega, by go_num, ?_, HR1.out.2.trans HH.out.2⟩
        have e : s.waits.take (k + 1) = s.waits.take k ++ [p] := by
          rw [List.take_add_one, HP.out.1]; rfl
        rw [e, layAll_snoc]
        exact HH.out.1
      case measure => simp [intOf]; omega
    · obtain rfl : k = s.waits.length := by omega
      have H3 : Blk (wr.setCell ⟨D, 4, none⟩ (.slice none 0 0)) D 66 (dk true s.armed (nextLeft s.armed s.left) L s.n s.lc (.slice none 0 0) s.wr s.fl) := Hdr.out.set_ 4 _
      have c6'' := (dk_cells H3).2.2.2.2.2.2
      have f6'' := H3.frozen 6
      have HH3 := Lib.hid H3
      clear H3
      go_wp2_with (go_at_call 25; refine (atom_add _ ⟨D, 6, none⟩ s.fl hw0 (by omega) c6'' f6'').mono ?_; rintro e w' ⟨rfl, rfl⟩)
      go_ret
      refine ⟨rfl, flush_end B w w1 wr D L _ s HD.out HON.out HS.out hfl Ho1.out Hdr.out HR1.out⟩

theorem flush_ok (B : Nat) (w : World) (D L : Nat) (wv : Value) (s : St) (hd : IsDisk B w D L wv s) (hon : s.on = true) (hs : ¬ (s.armed = true ∧ s.left = 0)) (hfl : s.fl < 1000000) :
    Calls Tryz.prog 7 #[.pointer (some ⟨D, 0, none⟩)] w fun e w' => e = .returned (.int .i64 0) ∧
      DiskPost B D L [D, L] w { s with left := nextLeft s.armed s.left, laid := layAll s.laid s.waits, waits := [], fl := s.fl + 1 } w' :=
  (flush_bare B w D L wv s hd hon hs hfl).mono fun _ _ ⟨h1, h2, h3⟩ => ⟨h1, _, h2, h3⟩

/-- Flush, in whatever state. -/
theorem flush_any (B : Nat) (w : World) (D L : Nat) (wv : Value) (s : St) (hd : IsDisk B w D L wv s) (hfl : s.fl < 1000000) :
    Calls Tryz.prog 7 #[.pointer (some ⟨D, 0, none⟩)] w fun e w' => e = .returned (.int .i64 s.flush.1) ∧ DiskPost B D L [D, L] w s.flush.2 w' := by
  obtain ⟨c0, c1, c2, c3, c4, c5, c6⟩ := dk_cells hd.disk
  unfold St.flush
  by_cases hon : s.on = false
  · rw [if_pos hon]
    rw [hon] at c0
    exact (flush_off w D c0).mono fun e w' ⟨he, hw⟩ => ⟨he, by subst hw; exact ⟨wv, hd, Only.refl _ _⟩⟩
  rw [if_neg hon]
  have hon' : s.on = true := by cases h : s.on <;> simp_all
  by_cases hs : s.armed = true ∧ s.left = 0
  · rw [if_pos hs]
    have hdisk := hd.disk
    rw [hon', hs.1, hs.2] at hdisk
    refine (flush_none w D L s.n s.lc wv s.wr s.fl hdisk).mono fun e w' ⟨he, hb, ho⟩ => ⟨he, wv, ⟨?_, ?_, ?_, hd.baseD, hd.baseL, ?_⟩, ho.mono (by intro k hk _; simp at hk; simp [hk])⟩
    · show Blk w' D _ (dk false s.armed s.left L s.n s.lc wv s.wr s.fl)
      rw [hs.1, hs.2]; exact hb
    · exact hd.laid.only ho (by simpa using hd.laid.ne_ hd.disk (by decide))
    · refine ownsRow_only hd.own ho fun k hk => ?_
      have := own_blk_ne hd.own hd.disk (by decide)
      rw [hk] at this
      simpa using this
    · obtain ⟨g1, g2, g3, g4, g5, g6, g7, g8, g9, g10, g11, g12⟩ := hd.good
      exact ⟨g1, g2, g3, g4, g5, g6, g7, g8, g9, g10, g11, g12⟩
  · rw [if_neg hs]
    exact flush_ok B w D L wv s hd hon' hs hfl

end Go.Proofs.YtbmflnnfnbepdaaGreatDoor
end

/-
  The places that Crash is told: a copy of them, sorted; and which waiting writes they keep. Conditions: the slice's numbers lie at its address.
-/

section
set_option maxRecDepth 100000
set_option linter.unusedSimpArgs false
set_option linter.unusedVariables false
namespace Go.Proofs.YtbmflnnfnbepdaaGreatDoor
open Go.RowKit

/-- The numbers of a slice lie at its address (nil, empty or not). -/
def IntsAt (w : World) (A : Option Addr) (ks : List Int) : Prop := ∀ j x, ks[j]? = some x → ∃ g o, A = some ⟨g, o, none⟩ ∧ w.cell? ⟨g, o + j, none⟩ = some (.int .i64 x)

/-- A slice of the call's own, of these numbers, behind the call. -/
def OwnInts (N : Nat) (ks : List Int) (w : World) (e : Ending) (w' : World) : Prop := ∃ v', e = .returned v' ∧ w'.ownsRow N 3 1 v' ks.length (ks.map (Value.int .i64)) ∧ Below N w w'

/-- The sorted list. -/
def sorted (ks : List Int) : List Int := ks.mergeSort fun x y => decide (x ≤ y)

/-- The waiting writes that are kept, in their order: those whose places are told. -/
def kept (ks : List Int) (ws : List (Int × List Int)) : List (Int × List Int) := (ws.zipIdx.filter fun x => decide ((x.2 : Int) ∈ ks)).map (·.1)
theorem kept_snoc (ks : List Int) (ws : List (Int × List Int)) (p : Int × List Int) : kept ks (ws ++ [p]) = if (ws.length : Int) ∈ ks then kept ks ws ++ [p] else kept ks ws := by
  unfold kept
  rw [List.zipIdx_append]
  by_cases h : (ws.length : Int) ∈ ks
  · simp [h]
  · simp [h]
theorem kept_mem {ks : List Int} {ws : List (Int × List Int)} {p : Int × List Int} (h : p ∈ kept ks ws) : p ∈ ws := by
  unfold kept at h
  simp only [List.mem_map, List.mem_filter] at h
  obtain ⟨x, ⟨h1, _⟩, rfl⟩ := h
  exact (List.mem_zipIdx' h1).2 ▸ List.getElem_mem _
theorem kept_length (ks : List Int) (ws : List (Int × List Int)) : (kept ks ws).length ≤ ws.length := by
  unfold kept
  rw [List.length_map]
  exact Nat.le_trans (List.length_filter_le _ _) (by simp)
theorem kept_none {ks : List Int} (ws ws' : List (Int × List Int)) (h : ∀ j : Nat, ws.length ≤ j → (j : Int) ∉ ks) : kept ks (ws ++ ws') = kept ks ws := by
  unfold kept
  rw [List.zipIdx_append, List.filter_append, List.map_append]
  have e : ((ws'.zipIdx (0 + ws.length)).filter fun x => decide ((x.2 : Int) ∈ ks)) = [] := List.filter_eq_nil_iff.2 (fun x hx => by
    have := List.le_snd_of_mem_zipIdx hx
    simpa using h x.2 (by omega))
  rw [e]
  simp

/-- What Crash makes of a state. -/
def St.crash (s : St) (ks : List Int) : Int × St := (((kept ks s.waits).length : Nat), { s with on := false, laid := layAll s.laid (kept ks s.waits), waits := [] })

/-- What is still to be told from place i on. -/
def Rest (ks rest : List Int) (i : Nat) : Prop := rest.Pairwise (· ≤ ·) ∧ ∀ j : Nat, i ≤ j → ((j : Int) ∈ rest ↔ (j : Int) ∈ ks)
theorem Rest.start (ks : List Int) : Rest ks (sorted ks) 0 := by
  refine ⟨?_, fun j _ => by simp [sorted, List.mem_mergeSort]⟩
  have := List.pairwise_mergeSort (le := fun x y : Int => decide (x ≤ y)) (fun a b c h1 h2 => by simp only [decide_eq_true_eq] at *; omega) (fun a b => by simp only [Bool.or_eq_true, decide_eq_true_eq]; omega) ks
  exact this.imp (by intro a b h; simpa using h)
theorem Rest.drop {ks rest : List Int} {x : Int} {i : Nat} (h : Rest ks (x :: rest) i) (hx : x < i) : Rest ks rest i := by
  obtain ⟨h1, h2⟩ := h
  refine ⟨(List.pairwise_cons.1 h1).2, fun j hj => ?_⟩
  rw [← h2 j hj, List.mem_cons]
  constructor
  · exact Or.inr
  · rintro (e | h)
    · omega
    · exact h
theorem Rest.next {ks rest : List Int} {i : Nat} (h : Rest ks rest i) : Rest ks rest (i + 1) := ⟨h.1, fun j hj => h.2 j (by omega)⟩
theorem Rest.nil {ks : List Int} {i : Nat} (h : Rest ks [] i) : ∀ j : Nat, i ≤ j → (j : Int) ∉ ks := fun j hj hm => by
  have := (h.2 j hj).2 hm
  simp at this
theorem Rest.head {ks rest : List Int} {x : Int} {i : Nat} (h : Rest ks (x :: rest) i) (hx : ¬ x < i) : (i : Int) ∈ ks ↔ x = i := by
  rw [← h.2 i (Nat.le_refl _), List.mem_cons]
  constructor
  · rintro (e | e)
    · exact e.symm
    · have := (List.pairwise_cons.1 h.1).1 _ e
      omega
  · intro e
    exact .inl e.symm

end Go.Proofs.YtbmflnnfnbepdaaGreatDoor
end

/-
  Crash: what it does to a disk. Conditions: the disk is held; the places told lie at their address.
-/

section
set_option maxRecDepth 100000
set_option linter.unusedSimpArgs false
set_option linter.unusedVariables false
namespace Go.Proofs.YtbmflnnfnbepdaaGreatDoor
open Go.RowKit

/-- What the loop of layKept keeps of the laid bytes. -/
def KeptRel (N L : Nat) (s : St) (ks : List Int) (w : World) (i : Nat) (c : Int) (wr : World) : Prop :=
  Blk wr L 5 (U (layAll s.laid (kept ks (s.waits.take i))) ++ s.tl) ∧ Only [L] w wr ∧ c = ((kept ks (s.waits.take i)).length : Nat) ∧ N ≤ w.heap.size
/-- The list of the places still told, in memory of the call's own. -/
def ToldAt (N : Nat) (A : Option Addr) (cap : Nat) (rest : List Int) (wr : World) : Prop :=
  rest.length ≤ cap ∧ cap ≤ maxLen ∧ ∀ j x, rest[j]? = some x → ∃ g o, A = some ⟨g, o, none⟩ ∧ N ≤ g ∧ wr.cell? ⟨g, o + j, none⟩ = some (.int .i64 x)

theorem ToldAt.only {N : Nat} {A : Option Addr} {cap : Nat} {rest : List Int} {w wr : World} {S : List Nat} (h : ToldAt N A cap rest w) (ho : Only S w wr) (hS : ∀ k, k ∈ S → k < N) : ToldAt N A cap rest wr := by
  refine ⟨h.1, h.2.1, fun j x hx => ?_⟩
  obtain ⟨g, o, e, hg, hc⟩ := h.2.2 j x hx
  refine ⟨g, o, e, hg, ?_⟩
  rw [World.cell?_of_block (w := w) (ho.block g (World.block_lt_of_cell? w _ hc) (fun hs => by have := hS g hs; omega))]
  exact hc
theorem ToldAt.tail {N g o cap : Nat} {x : Int} {rest : List Int} {w : World} (h : ToldAt N (some ⟨g, o, none⟩) cap (x :: rest) w) : ToldAt N (some ⟨g, o + 1, none⟩) (cap - 1) rest w := by
  obtain ⟨h1, h2, h3⟩ := h
  refine ⟨by simp at h1; omega, by omega, fun j y hy => ?_⟩
  obtain ⟨g', o', e, hg, hc⟩ := h3 (j + 1) y (by simpa using hy)
  cases e
  exact ⟨g, o + 1, rfl, hg, by rw [← hc]; congr 2; omega⟩
theorem ToldAt.of_own {N : Nat} {w : World} {v : Value} {ks : List Int} (h : w.ownsRow N 3 1 v ks.length (ks.map (Value.int .i64))) : ∃ A cap, v = .slice A ks.length cap ∧ ToldAt N A cap ks w := by
  rcases h.2 with ⟨rfl, h0⟩ | ⟨g, cap, cur, rfl, hbase, hb, h1, h2, h3, h4⟩
  · have hk : ks = [] := List.eq_nil_of_length_eq_zero h0
    subst hk
    exact ⟨none, 0, rfl, by simp, by simp [maxLen], fun j x hx => by simp at hx⟩
  · refine ⟨some ⟨g, 0, none⟩, cap, rfl, h1, h2, fun j x hx => ⟨g, 0, rfl, hbase, ?_⟩⟩
    have := h.cells (g := g) rfl j (.int .i64 x) (by rw [List.getElem?_map, hx]; rfl)
    have hadd : (⟨g, 0, none⟩ : Addr).add j = ⟨g, 0 + j, none⟩ := by unfold Addr.add; split <;> simp_all
    rwa [hadd] at this

def lenV : Value → Nat
  | .slice _ n _ => n
  | _ => 0

/-- The loop has gone through all that is kept. -/
theorem kept_end {L : Nat} {s : St} {ks : List Int} {w w2 wr : World} {cn : Int} (h : KeptRel w.heap.size L s ks w2 s.waits.length cn wr) (le : Below w.heap.size w w2) :
    Ending.returned (.int .i64 cn) = .returned (.int .i64 ((kept ks s.waits).length : Nat)) ∧ Blk wr L 5 (U (layAll s.laid (kept ks s.waits)) ++ s.tl) ∧ Only [L] w wr := by
  obtain ⟨h1, h2, h3, _⟩ := h
  rw [List.take_length] at h1 h3
  exact ⟨by rw [h3], h1, (Only.of_below le).trans h2⟩
theorem kept_stop {N L : Nat} {s : St} {ks : List Int} {w2 wr : World} {cn : Int} {i : Nat} (h : KeptRel N L s ks w2 i cn wr) (hi : i ≤ s.waits.length) (hr : ∀ j : Nat, i ≤ j → (j : Int) ∉ ks) : KeptRel N L s ks w2 s.waits.length cn wr := by
  obtain ⟨h1, h2, h3, h4⟩ := h
  have e : kept ks (s.waits.take s.waits.length) = kept ks (s.waits.take i) := by
    rw [List.take_length]
    have := kept_none (ks := ks) (s.waits.take i) (s.waits.drop i) (by intro j hj; exact hr j (by simp at hj; omega))
    rwa [List.take_append_drop] at this
  unfold KeptRel
  rw [e]
  exact ⟨h1, h2, h3, h4⟩

theorem KeptRel.cn {N L : Nat} {s : St} {ks : List Int} {w2 wr : World} {cn : Int} {i : Nat} (h : KeptRel N L s ks w2 i cn wr) : 0 ≤ cn ∧ cn ≤ i := by
  have h3 := h.2.2.1
  have := kept_length ks (s.waits.take i)
  rw [List.length_take] at this
  omega
theorem kept_lay {N L : Nat} {s : St} {ks : List Int} {w2 wr w3 : World} {cn : Int} {i : Nat} {p : Int × List Int} (h : KeptRel N L s ks w2 i cn wr) (hb : Blk w3 L 5 (U (putS (layAll s.laid (kept ks (s.waits.take i))) p.1.toNat p.2) ++ s.tl)) (ho : Only [L] wr w3)
    (et : s.waits.take (i + 1) = s.waits.take i ++ [p]) (hti : (s.waits.take i).length = i) (hin : (i : Int) ∈ ks) : KeptRel N L s ks w2 (i + 1) (cn + 1) w3 := by
  obtain ⟨h1, h2, h3, h4⟩ := h
  have e : kept ks (s.waits.take (i + 1)) = kept ks (s.waits.take i) ++ [p] := by rw [et, kept_snoc, hti, if_pos hin]
  unfold KeptRel
  rw [e, layAll_snoc]
  exact ⟨hb, h2.trans ho, by rw [h3]; simp, h4⟩
theorem kept_pass {N L : Nat} {s : St} {ks : List Int} {w2 wr : World} {cn : Int} {i : Nat} {p : Int × List Int} (h : KeptRel N L s ks w2 i cn wr)
    (et : s.waits.take (i + 1) = s.waits.take i ++ [p]) (hti : (s.waits.take i).length = i) (hin : (i : Int) ∉ ks) : KeptRel N L s ks w2 (i + 1) cn wr := by
  have e : kept ks (s.waits.take (i + 1)) = kept ks (s.waits.take i) := by rw [et, kept_snoc, hti, if_neg hin]
  unfold KeptRel
  rw [e]
  exact h

theorem crash_end {B : Nat} {w w1 : World} {D L : Nat} {wv : Value} {s : St} {ks : List Int} (hd : IsDisk B w D L wv s) (h1 : Blk w1 L 5 (U (layAll s.laid (kept ks s.waits)) ++ s.tl)) (h2 : Only [L] w w1)
    (hd2 : Blk (w1.setCell ⟨D, 4, none⟩ (.slice none 0 0)) D 66 (dk s.on s.armed s.left L s.n s.lc (.slice none 0 0) s.wr s.fl)) :
    DiskPost B D L [D, L] w (s.crash ks).2 ((w1.setCell ⟨D, 4, none⟩ (.slice none 0 0)).setCell ⟨D, 0, none⟩ (.bool false)) := by
  have hDL : L ≠ D := hd.laid.ne_ hd.disk (by decide)
  refine ⟨.slice none 0 0, ⟨hd2.set_ 0 _, (h1.far (p := ⟨D, 4, none⟩) hDL _).far (p := ⟨D, 0, none⟩) hDL _, World.ownsRow_nil _ _ _ _, hd.baseD, hd.baseL, ?_⟩, ?_⟩
  · have hg := hd.good
    exact ⟨layAll_length _ _ hg.size (fun p hp => hg.sec p (kept_mem hp)), hg.n1, hg.n2, by intro p hp; simp [St.crash] at hp, hg.left0, hg.left1, by simp [St.crash], hg.wr0, hg.wr1, hg.fl0, hg.fl1, hg.lc0⟩
  · have h : Only [D, L] w w1 := h2.mono (by intro k hk _; simp at hk; simp [hk])
    exact (h.setCell (.inl (by simp)) _).setCell (.inl (by simp)) _

end Go.Proofs.YtbmflnnfnbepdaaGreatDoor
end

/-
  New, Power, Arm: what each does. Conditions: the disk is held (Power, Arm).
-/

section
set_option maxRecDepth 100000
set_option linter.unusedSimpArgs false
set_option linter.unusedVariables false
namespace Go.Proofs.YtbmflnnfnbepdaaGreatDoor
open Go.RowKit

/-- A new disk of n sectors. -/
def fresh (n : Nat) : St := { on := true, armed := false, left := 0, n := n, lc := 64 * n, laid := List.replicate (64 * n) 0, tl := [], waits := [], wr := 0, fl := 0 }
theorem fresh_good {n : Nat} (h1 : 1 ≤ n) (h2 : n ≤ 4096) : Good (fresh n) :=
  ⟨by simp [fresh], h1, h2, by intro p hp; simp [fresh] at hp, Int.le_refl _, by simp [fresh], by simp [fresh], Int.le_refl _, by simp [fresh], Int.le_refl _, by simp [fresh], Nat.le_refl _⟩

theorem new_arg (w : World) (n : Int) (h : ¬ (1 ≤ n ∧ n ≤ 4096)) : Calls Tryz.prog 5 #[.int .i64 n] w fun e w' => e = .returned (.tuple #[.pointer none, .int .i64 1]) ∧ w = w' := by
  by_cases h1 : n < 1
  · go_enter Tryz.func5, Tryz.ntmps5
    go_wp2_with fail
    go_ret2
    exact ⟨rfl, rfl⟩
  · have h2 : decide (n < 1) = false := decide_eq_false h1
    have h3 : 4096 < n := by omega
    clear h
    go_enter Tryz.func5, Tryz.ntmps5
    go_wp2_with fail
    go_ret2
    exact ⟨rfl, rfl⟩

theorem byte_info : (Tryz.prog.info? 5).map (fun i => (i.zero, i.size, i.bytes)) = some (some (.int .u8 0), 1, 1) := by kernel_rfl
theorem made_bytes (n : Nat) : madeCells #[.int .u8 0] n = (U (List.replicate n 0)).toArray := by
  apply Array.toList_inj.1
  rw [toList_madeCells_one]
  simp [U]
theorem make_bytes (w : World) (n : Int) (h0 : 0 ≤ n) (h1 : n ≤ 1000000) : (Instr.makeSlice 22 (.int .i64 n) (.int .i64 n)).run Tryz.prog w = .ok (.slice (some ⟨w.heap.size, 0, none⟩) n.toNat n.toNat) (w.alloc (.cells (U (List.replicate n.toNat 0)).toArray 5)) := by
  obtain ⟨i0, hi, hz0, hz1, hz2⟩ := info_parts byte_info
  have := run_make (P := Tryz.prog) w 22 5 i0 (.int .u8 0) (by kernel_rfl) hi hz0 .i64 .i64 n n h0 (Int.le_refl _) (by rw [hz2]; omega) (by omega)
  rw [this, hz1, Nat.mul_one, ← made_bytes]
  rfl

/-- What New leaves. -/
def NewPost (n : Nat) (w : World) (e : Ending) (w' : World) : Prop := e = .returned (.tuple #[.pointer (some ⟨w.heap.size + 1, 0, none⟩), .int .i64 0]) ∧ IsDisk w.heap.size w' (w.heap.size + 1) w.heap.size (.slice none 0 0) (fresh n) ∧ Below w.heap.size w w'

theorem new_end {n : Nat} {w w1 : World} (h1 : 1 ≤ n) (h2 : n ≤ 4096) (hd1 : Blk w1 (w.heap.size + 1) 66 (dk false false 0 w.heap.size n (64 * n) (.slice none 0 0) 0 0)) (hl1 : Blk w1 w.heap.size 5 (U (List.replicate (64 * n) 0))) (hb1 : Below w.heap.size w w1) :
    IsDisk w.heap.size (((w1.setCell ⟨w.heap.size + 1, 0, none⟩ (.bool true)).setCell ⟨w.heap.size + 1, 1, none⟩ (.bool false)).setCell ⟨w.heap.size + 1, 2, none⟩ (.int .i64 0)) (w.heap.size + 1) w.heap.size (.slice none 0 0) (fresh n) ∧
    Below w.heap.size w (((w1.setCell ⟨w.heap.size + 1, 0, none⟩ (.bool true)).setCell ⟨w.heap.size + 1, 1, none⟩ (.bool false)).setCell ⟨w.heap.size + 1, 2, none⟩ (.int .i64 0)) := by
  refine ⟨⟨((hd1.set_ 0 _).set_ 1 _).set_ 2 _, ?_, World.ownsRow_nil _ _ _ _, by omega, Nat.le_refl _, fresh_good h1 h2⟩, ?_⟩
  · rw [show (fresh n).tl = [] from rfl, List.append_nil]
    exact ((hl1.far (p := ⟨w.heap.size + 1, 0, none⟩) (by simp) _).far (p := ⟨w.heap.size + 1, 1, none⟩) (by simp) _).far (p := ⟨w.heap.size + 1, 2, none⟩) (by simp) _
  · exact ((hb1.setCell (p := ⟨w.heap.size + 1, 0, none⟩) (by simp) _).setCell (p := ⟨w.heap.size + 1, 1, none⟩) (by simp) _).setCell (p := ⟨w.heap.size + 1, 2, none⟩) (by simp) _

theorem power_end {B : Nat} {w : World} {D L : Nat} {wv : Value} {s : St} (hd : IsDisk B w D L wv s) (h1 : Blk (w.setCell ⟨D, 4, none⟩ (.slice none 0 0)) D 66 (dk s.on s.armed s.left L s.n s.lc (.slice none 0 0) s.wr s.fl)) :
    DiskPost B D L [D] w { s with on := true, armed := false, left := 0, waits := [] } ((((w.setCell ⟨D, 4, none⟩ (.slice none 0 0)).setCell ⟨D, 0, none⟩ (.bool true)).setCell ⟨D, 1, none⟩ (.bool false)).setCell ⟨D, 2, none⟩ (.int .i64 0)) := by
  have hDL : L ≠ D := hd.laid.ne_ hd.disk (by decide)
  refine ⟨.slice none 0 0, ⟨((h1.set_ 0 _).set_ 1 _).set_ 2 _, ?_, World.ownsRow_nil _ _ _ _, hd.baseD, hd.baseL, ?_⟩, ?_⟩
  · exact (((hd.laid.far (p := ⟨D, 4, none⟩) hDL _).far (p := ⟨D, 0, none⟩) hDL _).far (p := ⟨D, 1, none⟩) hDL _).far (p := ⟨D, 2, none⟩) hDL _
  · have hg := hd.good
    exact ⟨hg.size, hg.n1, hg.n2, by intro p hp; simp at hp, Int.le_refl _, by simp, by simp, hg.wr0, hg.wr1, hg.fl0, hg.fl1, hg.lc0⟩
  · exact ((((Only.refl [D] w).setCell (.inl (by simp)) _).setCell (.inl (by simp)) _).setCell (.inl (by simp)) _).setCell (.inl (by simp)) _

theorem arm_end {B : Nat} {w : World} {D L : Nat} {wv : Value} {s : St} {n : Int} (hn : n ≤ 9223372036854775807) (hd : IsDisk B w D L wv s) :
    DiskPost B D L [D] w { s with armed := decide (0 ≤ n), left := max n 0 } ((w.setCell ⟨D, 1, none⟩ (.bool (decide (0 ≤ n)))).setCell ⟨D, 2, none⟩ (.int .i64 (max n 0))) := by
  have hDL : L ≠ D := hd.laid.ne_ hd.disk (by decide)
  have ho : Only [D] w ((w.setCell ⟨D, 1, none⟩ (.bool (decide (0 ≤ n)))).setCell ⟨D, 2, none⟩ (.int .i64 (max n 0))) := ((Only.refl [D] w).setCell (.inl (by simp)) _).setCell (.inl (by simp)) _
  refine ⟨wv, ⟨(hd.disk.set_ 1 _).set_ 2 _, hd.laid.only ho (by simpa using hDL), ownsRow_only hd.own ho ?_, hd.baseD, hd.baseL, ?_⟩, ho⟩
  · intro k hk
    have := own_blk_ne hd.own hd.disk (by decide)
    rw [hk] at this
    simpa using this
  · have hg := hd.good
    exact ⟨hg.size, hg.n1, hg.n2, hg.sec, by show 0 ≤ max n 0; omega, by show max n 0 ≤ 9223372036854775807; omega, hg.cap, hg.wr0, hg.wr1, hg.fl0, hg.fl1, hg.lc0⟩

theorem new_ok (w : World) (n : Nat) (h1 : 1 ≤ n) (h2 : n ≤ 4096) : Calls Tryz.prog 5 #[.int .i64 n] w (NewPost n w) := by
  have hmk := make_bytes w ((n : Int) * 64) (by omega) (by omega)
  have hd : decide ((n : Int) < 1) = false := decide_eq_false (by omega)
  have hd' : decide ((4096 : Int) < n) = false := decide_eq_false (by omega)
  go_enter Tryz.func5, Tryz.ntmps5
  go_wp2_with fail
  have hd1 : Blk ((w.alloc (.cells (U (List.replicate (n * 64) 0)).toArray 5)).alloc (.cells #[.bool false, .bool false, .int .i64 0, .slice (some ⟨w.heap.size, 0, none⟩) (n * 64) (n * 64), .slice none 0 0, .int .i64 0, .int .i64 0] 66)) (w.heap.size + 1) 66
      (dk false false 0 w.heap.size n (64 * n) (.slice none 0 0) 0 0) := by
    rw [show dk false false 0 w.heap.size n (64 * n) (.slice none 0 0) 0 0 = [.bool false, .bool false, .int .i64 0, .slice (some ⟨w.heap.size, 0, none⟩) (n * 64) (n * 64), .slice none 0 0, .int .i64 0, .int .i64 0] from by simp [dk, Nat.mul_comm]]
    exact heap_alloc2_new w _ _
  have hl1 : Blk ((w.alloc (.cells (U (List.replicate (n * 64) 0)).toArray 5)).alloc (.cells #[.bool false, .bool false, .int .i64 0, .slice (some ⟨w.heap.size, 0, none⟩) (n * 64) (n * 64), .slice none 0 0, .int .i64 0, .int .i64 0] 66)) w.heap.size 5
      (U (List.replicate (64 * n) 0)) := by
    rw [Nat.mul_comm 64 n]
    exact (Blk.new w _ _).alloc _
  have hb1 : Below w.heap.size w ((w.alloc (.cells (U (List.replicate (n * 64) 0)).toArray 5)).alloc (.cells #[.bool false, .bool false, .int .i64 0, .slice (some ⟨w.heap.size, 0, none⟩) (n * 64) (n * 64), .slice none 0 0, .int .i64 0, .int .i64 0] 66)) :=
    ((Below.refl _ w).alloc (Nat.le_refl _) _).alloc (by simp) _
  obtain ⟨c0, c1, c2, c3, c4, c5, c6⟩ := dk_cells hd1
  refine (restore_any _ (w.heap.size + 1) false false 0 c0 c1 c2 (hd1.frozen 0) (hd1.frozen 1) (hd1.frozen 2)).mono ?_
  rintro e w' ⟨rfl, hw⟩
  have H0 := new_end h1 h2 hd1 hl1 hb1
  rw [hw] at H0
  have H := Lib.hid H0
  clear H0 hw hd1 hl1 hb1 c0 c1 c2 c3 c4 c5 c6 hmk
  go_wp2_with fail
  go_ret2
  exact ⟨rfl, H.out⟩

end Go.Proofs.YtbmflnnfnbepdaaGreatDoor
end

/-
  The methods once more, in the words that the laws need: a disk that lives, and what a step leaves of other memory. Conditions: those of each contract.
-/

section
set_option maxRecDepth 100000
set_option linter.unusedSimpArgs false
set_option linter.unusedVariables false
namespace Go.Proofs.YtbmflnnfnbepdaaGreatDoor
open Go.RowKit

/-- The disk at D, its laid bytes at L, is in state s. -/
def Live (B D L : Nat) (s : St) (w : World) : Prop := ∃ wv, IsDisk B w D L wv s

/-- A step of the disk: below B nothing has turned; a block of another kind, that is not the laid bytes, is as it was. -/
structure Step (B L : Nat) (w w' : World) : Prop where
  below : Below B w w'
  keep : ∀ g t cs, t ≠ 66 → t ≠ 70 → g ≠ L → Blk w g t cs → Blk w' g t cs

theorem Step.refl (B L : Nat) (w : World) : Step B L w w := ⟨Below.refl _ _, fun _ _ _ _ _ _ h => h⟩
theorem Step.trans {B L : Nat} {a b c : World} (h : Step B L a b) (k : Step B L b c) : Step B L a c :=
  ⟨h.below.trans k.below, fun g t cs h1 h2 h3 hb => k.keep g t cs h1 h2 h3 (h.keep g t cs h1 h2 h3 hb)⟩
theorem Step.of_below {B L : Nat} {w w' : World} (hB : B ≤ w.heap.size) (h : Below w.heap.size w w') : Step B L w w' := ⟨h.mono hB, fun _ _ _ _ _ _ hb => hb.below h hb.lt⟩
theorem Step.drewN (B L : Nat) (w : World) (n : Nat) : Step B L w (w.drewN n) := ⟨⟨rfl, rfl, rfl, Nat.le_refl _, fun _ _ => rfl⟩, fun _ _ _ _ _ _ h => h⟩
theorem Step.size {B L : Nat} {w w' : World} (h : Step B L w w') : w.heap.size ≤ w'.heap.size := h.below.size

theorem Live.lt {B D L : Nat} {s : St} {w : World} (h : Live B D L s w) : B ≤ D ∧ B ≤ L ∧ D < w.heap.size ∧ L < w.heap.size := by
  obtain ⟨wv, h⟩ := h
  exact ⟨h.baseD, h.baseL, h.disk.lt, h.laid.lt⟩
theorem Live.good {B D L : Nat} {s : St} {w : World} (h : Live B D L s w) : Good s := h.choose_spec.good
theorem Live.below {B D L : Nat} {s : St} {w w' : World} (h : Live B D L s w) (hb : Below w.heap.size w w') : Live B D L s w' := by
  obtain ⟨wv, h⟩ := h
  exact ⟨wv, h.disk.below hb h.disk.lt, h.laid.below hb h.laid.lt, ownsRow_only h.own (Only.of_below (S := []) hb) (by simp), h.baseD, h.baseL, h.good⟩
theorem Live.drewN {B D L : Nat} {s : St} {w : World} (h : Live B D L s w) (n : Nat) : Live B D L s (w.drewN n) := by
  obtain ⟨wv, h⟩ := h
  exact ⟨wv, h.disk, h.laid, h.own, h.baseD, h.baseL, h.good⟩

theorem DiskPost.step {B D L : Nat} {S : List Nat} {w w' : World} {s s' : St} {wv : Value} (hd : IsDisk B w D L wv s) (h : DiskPost B D L S w s' w') (hB : B ≤ w.heap.size)
    (hS : ∀ k, k ∈ S → k = D ∨ k = L ∨ wv.ownBlock = some k) : Live B D L s' w' ∧ Step B L w w' := by
  obtain ⟨wv', h1, h2⟩ := h
  refine ⟨⟨wv', h1⟩, h2.below hB ?_, fun g t cs hn1 hn2 hL hb => hb.only h2 fun hg => ?_⟩
  · intro k hk
    rcases hS k hk with rfl | rfl | hk
    · exact hd.baseD
    · exact hd.baseL
    · exact (hd.own.lt k hk).1
  · rcases hS g hg with rfl | rfl | hk
    · exact hn1 (hb.same hd.disk).1
    · exact hL rfl
    · exact own_blk_ne hd.own hb (Ne.symm hn2) hk

/-- A slice of bytes in a block of its own, from block N on. -/
def HasBytes (N : Nat) (w : World) (v : Value) (xs : List Int) : Prop := ∃ g cap cs, v = .slice (some ⟨g, 0, none⟩) xs.length cap ∧ N ≤ g ∧ Blk w g 5 cs ∧ cs.take xs.length = U xs
theorem HasBytes.of_own {N : Nat} {w : World} {v : Value} {xs : List Int} (h : w.ownsRow N 5 1 v xs.length (U xs)) (hn : v ≠ .slice none 0 0) : HasBytes N w v xs := by
  rcases h.2 with ⟨rfl, _⟩ | ⟨g, cap, cur, rfl, hg, hb, _, _, _, ht⟩
  · exact absurd rfl hn
  · exact ⟨g, cap, cur.toList, rfl, hg, by simpa [Blk] using hb, by simpa using ht⟩
theorem HasBytes.step {N B L : Nat} {w w' : World} {v : Value} {xs : List Int} (h : HasBytes N w v xs) (hs : Step B L w w') (hL : L < N) : HasBytes N w' v xs := by
  obtain ⟨g, cap, cs, e, hg, hb, ht⟩ := h
  exact ⟨g, cap, cs, e, hg, hs.keep g _ cs (by decide) (by decide) (by omega) hb, ht⟩
theorem HasBytes.more {N M : Nat} {w : World} {v : Value} {xs : List Int} (h : HasBytes N w v xs) (hM : M ≤ N) : HasBytes M w v xs := by
  obtain ⟨g, cap, cs, e, hg, hb, ht⟩ := h
  exact ⟨g, cap, cs, e, by omega, hb, ht⟩
theorem HasBytes.cells {N : Nat} {w : World} {v : Value} {xs : List Int} (h : HasBytes N w v xs) : ∃ g cap, v = .slice (some ⟨g, 0, none⟩) xs.length cap ∧ N ≤ g ∧ ∀ j u, (U xs)[j]? = some u → w.cell? ((⟨g, 0, none⟩ : Addr).add j) = some u := by
  obtain ⟨g, cap, cs, rfl, hg, hb, ht⟩ := h
  refine ⟨g, cap, rfl, hg, fun j u hu => ?_⟩
  rw [add_off, hb.cell, Nat.zero_add]
  rw [← ht, List.getElem?_take] at hu
  split at hu
  · exact hu
  · cases hu

theorem HasBytes.at_ {N : Nat} {w : World} {v : Value} {xs : List Int} (h : HasBytes N w v xs) {n : Nat} (hn : xs.length = n) : ∃ g cap, v = .slice (some ⟨g, 0, none⟩) n cap ∧ N ≤ g := by
  obtain ⟨g, cap, rfl, hg, _⟩ := h.cells
  exact ⟨g, cap, by rw [hn], hg⟩
theorem HasBytes.lt_ {N : Nat} {w : World} {v : Value} {xs : List Int} (h : HasBytes N w v xs) : ∀ g n c, v = .slice (some ⟨g, 0, none⟩) n c → g < w.heap.size := by
  obtain ⟨g, cap, cs, rfl, hg, hb, ht⟩ := h
  intro g' n c e
  cases e
  exact hb.lt
theorem HasBytes.grown {N : Nat} {w w' : World} {v : Value} {xs : List Int} {row : Option Nat} (h : HasBytes N w v xs) (hg : w.grownBy w' row) (hr : ∀ g, v.ownBlock = some g → some g ≠ row) : HasBytes N w' v xs := by
  obtain ⟨g, cap, cs, rfl, hN, hb, ht⟩ := h
  exact ⟨g, cap, cs, rfl, hN, hb.grown hg (hr g rfl), ht⟩
theorem HasBytes.of_blk {N : Nat} {w : World} {g : Nat} {xs : List Int} {n : Nat} (h : Blk w g 5 (U xs)) (hn : xs.length = n) (hN : N ≤ g) : HasBytes N w (.slice (some ⟨g, 0, none⟩) n n) xs :=
  ⟨g, n, U xs, by rw [hn], hN, h, by rw [List.take_of_length_le]; simp [U_length]⟩
theorem own_of_blk {N : Nat} {w : World} {g : Nat} {xs : List Int} {n : Nat} (h : Blk w g 5 (U xs)) (hn : xs.length = n) (hN : N ≤ g) (hm : n ≤ maxLen) : w.ownsRow N 5 1 (.slice (some ⟨g, 0, none⟩) n n) n (U xs) :=
  ⟨by rw [U_length, hn]; omega, .inr ⟨g, n, _, rfl, hN, h, Nat.le_refl _, hm, by simp [U_length, hn], by rw [List.take_of_length_le]; simp [U_length, hn]⟩⟩

theorem new_live (w : World) (n : Nat) (h1 : 1 ≤ n) (h2 : n ≤ 4096) : Calls Tryz.prog 5 #[.int .i64 n] w fun e w' => e = .returned (.tuple #[.pointer (some ⟨w.heap.size + 1, 0, none⟩), .int .i64 0]) ∧
    Live w.heap.size (w.heap.size + 1) w.heap.size (fresh n) w' ∧ Below w.heap.size w w' :=
  (new_ok w n h1 h2).mono fun _ _ ⟨he, hd, hb⟩ => ⟨he, ⟨_, hd⟩, hb⟩

theorem write_live (B : Nat) (w : World) (D L : Nat) (s : St) (no : Int) (bs : List Int) (A : Option Addr) (m c : Nat) (hd : Live B D L s w) (hB : B ≤ w.heap.size) (hm : bs.length = m)
    (hbs : m = 64 → ∃ ad, A = some ad ∧ ad.block ≠ D ∧ ∀ j u, (U bs)[j]? = some u → w.cell? (ad.add j) = some u) (hcap : s.waits.length < 1000000) (hwr : s.wr < 1000000) :
    Calls Tryz.prog 6 #[.pointer (some ⟨D, 0, none⟩), .int .i64 no, .slice A m c] w fun e w' => e = .returned (.int .i64 (s.write no bs).1) ∧ Live B D L (s.write no bs).2 w' ∧ Step B L w w' := by
  obtain ⟨wv, hd⟩ := hd
  exact (write_any B w D L wv s no bs A m c hd hB hm hbs hcap hwr).mono fun e w' ⟨he, h⟩ => ⟨he, DiskPost.step hd h hB (by intro k hk; simp at hk; rcases hk with h | h <;> simp [h])⟩

theorem flush_live (B : Nat) (w : World) (D L : Nat) (s : St) (hd : Live B D L s w) (hB : B ≤ w.heap.size) (hfl : s.fl < 1000000) :
    Calls Tryz.prog 7 #[.pointer (some ⟨D, 0, none⟩)] w fun e w' => e = .returned (.int .i64 s.flush.1) ∧ Live B D L s.flush.2 w' ∧ Step B L w w' := by
  obtain ⟨wv, hd⟩ := hd
  exact (flush_any B w D L wv s hd hfl).mono fun e w' ⟨he, h⟩ => ⟨he, DiskPost.step hd h hB (by intro k hk; simp at hk; rcases hk with h | h <;> simp [h])⟩

/-- What Read and Laid leave. -/
def GotBytes (B D L : Nat) (s : St) (xs : List Int) (w : World) (v : Value) (w' : World) : Prop := HasBytes w.heap.size w' v xs ∧ Live B D L s w' ∧ Step B L w w'

theorem read_live (B : Nat) (w : World) (D L : Nat) (s : St) (k : Nat) (hd : Live B D L s w) (hB : B ≤ w.heap.size) (hon : s.on = true) (hk : k < s.n) :
    Calls Tryz.prog 42 #[.pointer (some ⟨D, 0, none⟩), .int .i64 k] w fun e w' => ∃ v, e = .returned (.tuple #[v, .int .i64 0]) ∧ GotBytes B D L s (seen s k) w v w' := by
  obtain ⟨wv, hd⟩ := hd
  exact (read_ok B w D L wv s k hd hon hk).mono fun e w' ⟨v, he, h1, h2, h3⟩ => ⟨v, he, HasBytes.of_own h1 h2, Live.below ⟨wv, hd⟩ h3, Step.of_below hB h3⟩

end Go.Proofs.YtbmflnnfnbepdaaGreatDoor
end

/-
  The laws' own helpers: a sector of one byte, bytes filled up to a sector, are two slices the same. Conditions: the slices' bytes lie at their addresses.
-/

section
set_option maxRecDepth 100000
set_option linter.unusedSimpArgs false
set_option linter.unusedVariables false
namespace Go.Proofs.YtbmflnnfnbepdaaGreatDoor
open Go.RowKit

/-- The bytes of a slice lie at its address (nil, empty or not). -/
def BytesAt (w : World) (A : Option Addr) (xs : List Int) : Prop := 0 < xs.length → ∃ ad, A = some ad ∧ ∀ j x, xs[j]? = some x → w.cell? (ad.add j) = some (.int .u8 x)

def SameRel (xs ys : List Int) (w : World) (k : Nat) (wr : World) : Prop := xs.take k = ys.take k ∧ ∃ q, wr = w.drewN q
theorem same_step {xs ys : List Int} {k : Nat} {x y : Int} (h : xs.take k = ys.take k) (hx : xs[k]? = some x) (hy : ys[k]? = some y) (e : x = y) : xs.take (k + 1) = ys.take (k + 1) := by
  rw [List.take_add_one, List.take_add_one, hx, hy, h, e]
theorem same_no {xs ys : List Int} {k : Nat} {x y : Int} (hx : xs[k]? = some x) (hy : ys[k]? = some y) (e : x ≠ y) : (xs == ys) = false := by
  rw [beq_eq_false_iff_ne]
  rintro rfl
  rw [hx] at hy
  injection hy with hy
  exact e hy
theorem same_yes {xs ys : List Int} {n : Nat} (h : xs.take n = ys.take n) (hx : xs.length = n) (hy : ys.length = n) : (xs == ys) = true := by
  rw [List.take_of_length_le (by omega), List.take_of_length_le (by omega)] at h
  simp [h]

set_option maxHeartbeats 1000000 in
theorem same_walk (w : World) (A A' : Option Addr) (n n' c c' : Nat) (xs ys : List Int) (hx : xs.length = n) (hy : ys.length = n') (hbig : n ≤ 9223372036854775807) (h : BytesAt w A xs) (h' : BytesAt w A' ys) :
    Calls Tryz.prog 14 #[.slice A n c, .slice A' n' c'] w fun e w' => e = .returned (.bool (xs == ys)) ∧ ∃ q, w.drewN q = w' := by
  by_cases hne : n = n'
  · subst hne
    have hd : ((n : Int) != n) = false := by simp
    go_enter Tryz.func14, Tryz.ntmps14
    go_wp2_with fail
    have HX := Lib.hid (And.intro hx hy)
    have HA := Lib.hid h
    have HA' := Lib.hid h'
    clear hx hy h h' hd
    go_loopw [5] (fun i wr => ∃ k : Nat, k ≤ n ∧ i = .int .i64 k ∧ SameRel xs ys w k wr) (fun i _ => n - (intOf i).toNat)
    case atStart => exact ⟨0, Nat.zero_le _, rfl, rfl, 0, rfl⟩
    case round =>
      obtain ⟨k, hk, rfl, hpre, q, rfl⟩ := hrel
      have HP := Lib.hid hpre
      clear hpre
      by_cases hlt : k < n
      · obtain ⟨ad, rfl, hc⟩ := HA.out (by have := HX.out.1; omega)
        obtain ⟨ad', rfl, hc'⟩ := HA'.out (by have := HX.out.2; omega)
        obtain ⟨x, hx⟩ : ∃ x, xs[k]? = some x := ⟨_, List.getElem?_eq_getElem (by have := HX.out.1; omega)⟩
        obtain ⟨y, hy⟩ : ∃ y, ys[k]? = some y := ⟨_, List.getElem?_eq_getElem (by have := HX.out.2; omega)⟩
        have e1 := hc k x hx
        have e2 := hc' k y hy
        have HK := Lib.hid (And.intro hx hy)
        clear hc hc' hx hy
        by_cases hxy : x = y
        · have hb : (x != y) = false := by simp [hxy]
          have HE := Lib.hid hxy
          clear hxy
          go_wp2_with fail
          go_quiet (fail)
          go_wp2_with fail
          go_roundw
          case rel => exact ⟨k + 1, by omega, by go_num, same_step HP.out HK.out.1 HK.out.2 HE.out, _, rfl⟩
          case measure => simp [intOf]; omega
        · have hb : (x != y) = true := by rw [bne_iff_ne]; exact hxy
          have HE := Lib.hid hxy
          clear hxy
          go_wp2_with fail
          go_quiet (fail)
          go_wp2_with fail
          go_ret
          exact ⟨by rw [same_no HK.out.1 HK.out.2 HE.out]; rfl, _, (World.drewN_drewN _ _ _).symm⟩
      · obtain rfl : k = n := by omega
        go_wp2_with fail
        go_ret
        exact ⟨by rw [same_yes HP.out HX.out.1 HX.out.2]; rfl, _, rfl⟩
  · have hd : ((n : Int) != n') = true := by rw [bne_iff_ne]; omega
    have hq : (xs == ys) = false := by
      rw [beq_eq_false_iff_ne]
      rintro rfl
      omega
    rw [hq]
    clear hne hq hx hy h h'
    go_enter Tryz.func14, Tryz.ntmps14
    go_wp2_with fail
    go_ret
    exact ⟨rfl, 0, rfl⟩

/-- Same, of two slices in blocks of their own. -/
theorem same_has (B L : Nat) (w : World) (v v' : Value) (N N' n : Nat) (xs ys : List Int) (b : Bool) (hx : xs.length = n) (hbig : n ≤ 1000000) (h : HasBytes N w v xs) (h' : HasBytes N' w v' ys) (hb : (xs == ys) = b) :
    Calls Tryz.prog 14 #[v, v'] w fun e w' => e = .returned (.bool b) ∧ Step B L w w' ∧ ∀ D s, Live B D L s w → Live B D L s w' := by
  obtain ⟨g, cap, rfl, _, hc⟩ := h.cells
  obtain ⟨g', cap', rfl, _, hc'⟩ := h'.cells
  subst hb
  refine (same_walk w _ _ _ _ cap cap' xs ys rfl rfl (by omega) (fun _ => ⟨_, rfl, fun j x hx => hc j _ (by rw [U_get, hx]; rfl)⟩) (fun _ => ⟨_, rfl, fun j x hx => hc' j _ (by rw [U_get, hx]; rfl)⟩)).mono ?_
  rintro e w' ⟨rfl, q, rfl⟩
  exact ⟨rfl, Step.drewN _ _ _ _, fun D s h => h.drewN q⟩

def Z64 : List Int := List.replicate 64 0
/-- The first k bytes are c, the others 0. -/
def AllTo (c : Int) (k : Nat) : List Int := List.replicate k c ++ List.replicate (64 - k) 0
def AllRel (N : Nat) (c : Int) (w : World) (k : Nat) (wr : World) : Prop := Blk wr N 5 (U (AllTo c k)) ∧ Below N w wr
theorem AllTo.step (c : Int) (k : Nat) (hk : k < 64) : (U (AllTo c k)).set k (.int .u8 c) = U (AllTo c (k + 1)) := by
  unfold AllTo U
  rw [← List.map_set]
  congr 1
  rw [List.set_append_right _ _ (by simp)]
  simp only [List.length_replicate, Nat.sub_self]
  obtain ⟨m, hm⟩ : ∃ m, 64 - k = m + 1 := ⟨63 - k, by omega⟩
  rw [hm, List.replicate_succ, List.set_cons_zero, show 64 - (k + 1) = m by omega, List.replicate_succ']
  simp

/-- Bytes filled up, or cut, to a sector. -/
def full (xs : List Int) : List Int := xs.take 64 ++ List.replicate (64 - xs.length) 0
theorem full_length (xs : List Int) : (full xs).length = 64 := by simp [full]; omega
def FullTo (xs : List Int) (k : Nat) : List Int := xs.take k ++ List.replicate (64 - k) 0
def FullRel (N : Nat) (xs : List Int) (w : World) (k : Nat) (wr : World) : Prop := Blk wr N 5 (U (FullTo xs k)) ∧ Below N w wr
theorem FullTo.step (xs : List Int) (k : Nat) (x : Int) (hk : k < 64) (hx : xs[k]? = some x) : (U (FullTo xs k)).set k (.int .u8 x) = U (FullTo xs (k + 1)) := by
  have hl : k < xs.length := (List.getElem?_eq_some_iff.1 hx).1
  have ht : (xs.take k).length = k := by rw [List.length_take]; omega
  unfold FullTo U
  rw [← List.map_set]
  congr 1
  rw [List.set_append_right _ _ (by omega), ht, Nat.sub_self, List.take_add_one, hx]
  obtain ⟨m, hm⟩ : ∃ m, 64 - k = m + 1 := ⟨63 - k, by omega⟩
  rw [hm, List.replicate_succ, List.set_cons_zero, show 64 - (k + 1) = m by omega]
  simp
theorem FullTo.done (xs : List Int) (k : Nat) (h : k = xs.length ∧ k ≤ 64 ∨ k = 64 ∧ k ≤ xs.length) : FullTo xs k = full xs := by
  unfold FullTo full
  rcases h with ⟨rfl, h⟩ | ⟨rfl, h⟩
  · rw [List.take_of_length_le (Nat.le_refl _), List.take_of_length_le h]
  · rw [show 64 - 64 = 0 by omega, show 64 - xs.length = 0 by omega]

set_option maxRecDepth 100000 in
set_option maxHeartbeats 1000000 in
theorem full_walk (w : World) (A : Option Addr) (n c : Nat) (xs : List Int) (hn : xs.length = n) (hbig : n ≤ 9223372036854775807) (h : BytesAt w A xs) :
    Calls Tryz.prog 36 #[.slice A n c] w fun e w' => e = .returned (.slice (some ⟨w.heap.size, 0, none⟩) 64 64) ∧ Blk w' w.heap.size 5 (U (full xs)) ∧ Below w.heap.size w w' := by
  have hmk : (Instr.makeSlice 22 (.int .i64 64) (.int .i64 64)).run Tryz.prog w = .ok (.slice (some ⟨w.heap.size, 0, none⟩) 64 64) (w.alloc (.cells (U Z64).toArray 5)) := make_bytes w 64 (by omega) (by omega)
  have h0 : FullRel w.heap.size xs w 0 (w.alloc (.cells (U Z64).toArray 5)) := ⟨Blk.new w _ _, (Below.refl _ w).alloc (Nat.le_refl _) _⟩
  have H0 := Lib.hid h0
  have HN := Lib.hid hn
  have HA := Lib.hid h
  clear h0 hn h
  go_enter Tryz.func36, Tryz.ntmps36
  go_wp2_with fail
  go_loopw [4] (fun i wr => ∃ k : Nat, k ≤ 64 ∧ k ≤ n ∧ i = .int .i64 k ∧ FullRel w.heap.size xs w k wr) (fun i _ => 64 - (intOf i).toNat)
  case atStart => exact ⟨0, Nat.zero_le _, Nat.zero_le _, rfl, H0.out⟩
  case round =>
    obtain ⟨k, hk, hkn, rfl, hrel⟩ := hrel
    have HR := Lib.hid hrel
    by_cases hlt : k < n
    · by_cases hlt2 : k < 64
      · obtain ⟨ad, rfl, hc⟩ := HA.out (by have := HN.out; omega)
        obtain ⟨x, hx⟩ : ∃ x, xs[k]? = some x := ⟨_, List.getElem?_eq_getElem (by have := HN.out; omega)⟩
        have e0 := hc k x hx
        have hlt3 : (ad.add k).block < w.heap.size := World.block_lt_of_cell? w _ e0
        have e0' : wr.cell? (ad.add k) = some (.int .u8 x) := (hrel.2.cell hlt3).trans e0
        obtain ⟨u, e1⟩ : ∃ u, wr.cell? ⟨w.heap.size, k, none⟩ = some u := ⟨_, by rw [hrel.1.cell, List.getElem?_eq_getElem (by have := HN.out; simp [U, FullTo]; omega)]⟩
        have f1 := hrel.1.frozen k
        have HX := Lib.hid hx
        clear hrel hc hx e0 hlt3
        go_wp2_with fail
        go_roundw
        case rel => exact ⟨k + 1, by omega, by omega, by go_num, by rw [← FullTo.step xs k x hlt2 HX.out]; exact HR.out.1.set_ k _, HR.out.2.setCell (Nat.le_refl _) _⟩
        case measure => simp [intOf]; omega
      · obtain rfl : k = 64 := by omega
        clear hrel
        go_wp2_with fail
        go_ret
        exact ⟨rfl, by rw [← FullTo.done xs 64 (.inr ⟨rfl, by have := HN.out; omega⟩)]; exact HR.out.1, HR.out.2⟩
    · obtain rfl : k = n := by omega
      have hd : decide ((k : Int) < k) = false := by simp
      clear hrel
      go_wp2_with fail
      go_ret
      exact ⟨rfl, by rw [← FullTo.done xs k (.inl ⟨HN.out.symm, hk⟩)]; exact HR.out.1, HR.out.2⟩

end Go.Proofs.YtbmflnnfnbepdaaGreatDoor
end

/-
  What is read of a sector, behind a write, a flush and a crash that keeps all: plain theorems on states. Conditions: the state is good.
-/

section
set_option maxRecDepth 100000
set_option linter.unusedSimpArgs false
set_option linter.unusedVariables false
namespace Go.Proofs.YtbmflnnfnbepdaaGreatDoor
open Go.RowKit

def sec (l : List Int) (j : Nat) : List Int := (l.drop (64 * j)).take 64
theorem sec_putS {l bs : List Int} {n k j : Nat} (hl : l.length = 64 * n) (hk : k < n) (hj : j < n) (hb : bs.length = 64) : sec (putS l k bs) j = if j = k then bs else sec l j := by
  apply List.ext_getElem?
  intro i
  unfold sec putS
  by_cases hi : i < 64
  · rw [List.getElem?_take_of_lt hi, List.getElem?_drop]
    by_cases hjk : j = k
    · subst hjk
      rw [if_pos rfl, List.append_assoc, List.getElem?_append_right (by simp; omega), List.getElem?_append_left (by simp; omega)]
      congr 1
      simp
      omega
    · rw [if_neg hjk, List.getElem?_take_of_lt hi, List.getElem?_drop]
      by_cases hlt : j < k
      · rw [List.append_assoc, List.getElem?_append_left (by simp; omega), List.getElem?_take_of_lt (by omega)]
      · rw [List.getElem?_append_right (by simp; omega), List.getElem?_drop]
        congr 1
        simp
        omega
  · rw [List.getElem?_take_eq_none (by omega)]
    by_cases hjk : j = k
    · rw [if_pos hjk, List.getElem?_eq_none (by omega)]
    · rw [if_neg hjk, List.getElem?_take_eq_none (by omega)]

theorem sec_layAll {n j : Nat} (hj : j < n) : ∀ (rs : List (Int × List Int)) (l : List Int), l.length = 64 * n → (∀ p ∈ rs, 0 ≤ p.1 ∧ p.1 < n ∧ p.2.length = 64) →
    sec (layAll l rs.reverse) j = match rs.find? (fun p => p.1 == (j : Int)) with | some p => p.2 | none => sec l j
  | [], l, _, _ => rfl
  | p :: rs, l, hl, hp => by
    have hpp := hp p (by simp)
    rw [List.reverse_cons, layAll_snoc, sec_putS (n := n) (layAll_length _ _ hl (fun q hq => hp q (by simp at hq; simp [hq]))) (by omega) hj hpp.2.2, sec_layAll hj rs l hl (fun q hq => hp q (by simp [hq])), List.find?_cons]
    by_cases h : p.1 = (j : Int)
    · have hb : (p.1 == (j : Int)) = true := by simp [h]
      rw [if_pos (by omega), hb]
    · have hb : (p.1 == (j : Int)) = false := by simpa using h
      rw [if_neg (by omega), hb]

theorem seen_sec {s : St} (hg : Good s) {j : Nat} (hj : j < s.n) : seen s j = sec (layAll s.laid s.waits) j := by
  have := sec_layAll hj s.waits.reverse s.laid hg.size (fun p hp => hg.sec p (by simpa using hp))
  rw [List.reverse_reverse] at this
  rw [this]
  rfl
theorem seen_write {s : St} (hg : Good s) {no j : Nat} {bs : List Int} (hno : no < s.n) (hb : bs.length = 64) (hj : j < s.n) {s' : St} (hg' : Good s') (hn : s'.n = s.n) (hl : s'.laid = s.laid) (hw : s'.waits = s.waits ++ [((no : Int), bs)]) :
    seen s' j = if j = no then bs else seen s j := by
  rw [seen_sec hg' (by omega), seen_sec hg hj, hl, hw, layAll_snoc, sec_putS (n := s.n) (layAll_length _ _ hg.size hg.sec) (by simpa using hno) hj hb]
  rfl
theorem seen_laid {s : St} (hg : Good s) {j : Nat} (hj : j < s.n) {s' : St} (hg' : Good s') (hn : s'.n = s.n) (hl : s'.laid = layAll s.laid s.waits) (hw : s'.waits = []) : seen s' j = seen s j := by
  rw [seen_sec hg' (by omega), seen_sec hg hj, hl, hw]
  rfl
/-- The numbers 0 to m - 1. -/
def upTo (m : Nat) : List Int := (List.range m).map fun (i : Nat) => (i : Int)
theorem upTo_succ (m : Nat) : upTo (m + 1) = upTo m ++ [(m : Int)] := by simp [upTo, List.range_succ]
theorem upTo_length (m : Nat) : (upTo m).length = m := by simp [upTo]
theorem kept_all (ws : List (Int × List Int)) : kept (upTo ws.length) ws = ws := by
  unfold kept
  have : (ws.zipIdx.filter fun x => decide ((x.2 : Int) ∈ upTo ws.length)) = ws.zipIdx := by
    rw [List.filter_eq_self]
    intro x hx
    have := (List.mem_zipIdx' hx).1
    simp [upTo]
    exact ⟨x.2, this, rfl⟩
  rw [this]
  simp

end Go.Proofs.YtbmflnnfnbepdaaGreatDoor
end

/-
  Of and Hex. Conditions: the texts are known; the constants lie in their variable; at most 2^49 bytes in all.
-/

section
set_option maxRecDepth 100000
set_option linter.unusedSimpArgs false
set_option linter.unusedVariables false
namespace Go.Proofs.YtbmflnnfnbepdaaGreatDoor
open Go.RowKit

theorem Txt.at {w : World} {p q : Nat} {A : Option Addr} {n c : Nat} {bs : List B8} (h : Txt w p A n c bs) (hq : w.heap.size ≤ q) : Txt w q A n c bs := by
  refine ⟨h.len, h.cap, h.capm, fun hn => ?_⟩
  obtain ⟨g, o, hA, hg, hc⟩ := h.cells hn
  have : g < w.heap.size := World.block_lt_of_cell? w _ (hc 0 hn)
  exact ⟨g, o, hA, by omega, hc⟩
theorem Txts.at {w : World} {p q : Nat} {L : Option Addr} {n : Nat} {xs : List (List B8)} (h : Txts w p L n xs) (hq : w.heap.size ≤ q) : Txts w q L n xs := by
  refine ⟨h.len, fun hn => ?_⟩
  obtain ⟨g, o, hL, hg, hc⟩ := h.cells hn
  obtain ⟨A, k, c, h0, ht⟩ := hc 0 (xs[0]'(by have := h.len; omega)) (List.getElem?_eq_getElem _)
  have : g < w.heap.size := World.block_lt_of_cell? w _ h0
  exact ⟨g, o, hL, by omega, fun i x hx => by
    obtain ⟨A, k, c, h0, ht⟩ := hc i x hx
    exact ⟨A, k, c, h0, ht.at hq⟩⟩

/-- Bytes as a string. -/
def strOf (l : List B8) : Value := .string ⟨(l.map UInt8.ofBitVec).toArray⟩

theorem agg_index (d : List B8) (hd : d.length = 32) (k : Nat) (hk : k < 32) (W : World) : (Instr.index 111 (.agg (Vb d).toArray) (.int .i64 k)).run Tryz.prog W = .ok (.int .u8 (nb (d.getD k 0))) W := by
  have hs : (sizeOf 5).run Tryz.prog W = .ok 1 W := by kernel_rfl
  obtain ⟨x, hx⟩ : ∃ x, d[k]? = some x := ⟨_, List.getElem?_eq_getElem (by omega)⟩
  have hv : (Vb d)[k]? = some (.int .u8 (nb x)) := by rw [Vb_get, hx]; rfl
  rw [List.getD_eq_getElem?_getD, hx]
  simp [Instr.index, asIntOf, run_underlying Tryz.underlying111, Go.part, hs, hv, hk]

theorem sign_index (i : Nat) (hi : i < 16) (W : World) : (Instr.index 9 (.string ⟨#[48, 49, 50, 51, 52, 53, 54, 55, 56, 57, 97, 98, 99, 100, 101, 102]⟩) (.int .u8 i)).run Tryz.prog W = .ok (.int .u8 (nb (sign i))) W := by
  match i, hi with
  | 0, _ =>
    have h : (Instr.index 9 (.string ⟨#[48, 49, 50, 51, 52, 53, 54, 55, 56, 57, 97, 98, 99, 100, 101, 102]⟩) (.int .u8 ((0 : Nat) : Int))).run Tryz.prog W = .ok (.int .u8 (nb (sign 0))) W := by kernel_rfl
    exact h
  | 1, _ =>
    have h : (Instr.index 9 (.string ⟨#[48, 49, 50, 51, 52, 53, 54, 55, 56, 57, 97, 98, 99, 100, 101, 102]⟩) (.int .u8 ((1 : Nat) : Int))).run Tryz.prog W = .ok (.int .u8 (nb (sign 1))) W := by kernel_rfl
    exact h
  | 2, _ =>
    have h : (Instr.index 9 (.string ⟨#[48, 49, 50, 51, 52, 53, 54, 55, 56, 57, 97, 98, 99, 100, 101, 102]⟩) (.int .u8 ((2 : Nat) : Int))).run Tryz.prog W = .ok (.int .u8 (nb (sign 2))) W := by kernel_rfl
    exact h
  | 3, _ =>
    have h : (Instr.index 9 (.string ⟨#[48, 49, 50, 51, 52, 53, 54, 55, 56, 57, 97, 98, 99, 100, 101, 102]⟩) (.int .u8 ((3 : Nat) : Int))).run Tryz.prog W = .ok (.int .u8 (nb (sign 3))) W := by kernel_rfl
    exact h
  | 4, _ =>
    have h : (Instr.index 9 (.string ⟨#[48, 49, 50, 51, 52, 53, 54, 55, 56, 57, 97, 98, 99, 100, 101, 102]⟩) (.int .u8 ((4 : Nat) : Int))).run Tryz.prog W = .ok (.int .u8 (nb (sign 4))) W := by kernel_rfl
    exact h
  | 5, _ =>
    have h : (Instr.index 9 (.string ⟨#[48, 49, 50, 51, 52, 53, 54, 55, 56, 57, 97, 98, 99, 100, 101, 102]⟩) (.int .u8 ((5 : Nat) : Int))).run Tryz.prog W = .ok (.int .u8 (nb (sign 5))) W := by kernel_rfl
    exact h
  | 6, _ =>
    have h : (Instr.index 9 (.string ⟨#[48, 49, 50, 51, 52, 53, 54, 55, 56, 57, 97, 98, 99, 100, 101, 102]⟩) (.int .u8 ((6 : Nat) : Int))).run Tryz.prog W = .ok (.int .u8 (nb (sign 6))) W := by kernel_rfl
    exact h
  | 7, _ =>
    have h : (Instr.index 9 (.string ⟨#[48, 49, 50, 51, 52, 53, 54, 55, 56, 57, 97, 98, 99, 100, 101, 102]⟩) (.int .u8 ((7 : Nat) : Int))).run Tryz.prog W = .ok (.int .u8 (nb (sign 7))) W := by kernel_rfl
    exact h
  | 8, _ =>
    have h : (Instr.index 9 (.string ⟨#[48, 49, 50, 51, 52, 53, 54, 55, 56, 57, 97, 98, 99, 100, 101, 102]⟩) (.int .u8 ((8 : Nat) : Int))).run Tryz.prog W = .ok (.int .u8 (nb (sign 8))) W := by kernel_rfl
    exact h
  | 9, _ =>
    have h : (Instr.index 9 (.string ⟨#[48, 49, 50, 51, 52, 53, 54, 55, 56, 57, 97, 98, 99, 100, 101, 102]⟩) (.int .u8 ((9 : Nat) : Int))).run Tryz.prog W = .ok (.int .u8 (nb (sign 9))) W := by kernel_rfl
    exact h
  | 10, _ =>
    have h : (Instr.index 9 (.string ⟨#[48, 49, 50, 51, 52, 53, 54, 55, 56, 57, 97, 98, 99, 100, 101, 102]⟩) (.int .u8 ((10 : Nat) : Int))).run Tryz.prog W = .ok (.int .u8 (nb (sign 10))) W := by kernel_rfl
    exact h
  | 11, _ =>
    have h : (Instr.index 9 (.string ⟨#[48, 49, 50, 51, 52, 53, 54, 55, 56, 57, 97, 98, 99, 100, 101, 102]⟩) (.int .u8 ((11 : Nat) : Int))).run Tryz.prog W = .ok (.int .u8 (nb (sign 11))) W := by kernel_rfl
    exact h
  | 12, _ =>
    have h : (Instr.index 9 (.string ⟨#[48, 49, 50, 51, 52, 53, 54, 55, 56, 57, 97, 98, 99, 100, 101, 102]⟩) (.int .u8 ((12 : Nat) : Int))).run Tryz.prog W = .ok (.int .u8 (nb (sign 12))) W := by kernel_rfl
    exact h
  | 13, _ =>
    have h : (Instr.index 9 (.string ⟨#[48, 49, 50, 51, 52, 53, 54, 55, 56, 57, 97, 98, 99, 100, 101, 102]⟩) (.int .u8 ((13 : Nat) : Int))).run Tryz.prog W = .ok (.int .u8 (nb (sign 13))) W := by kernel_rfl
    exact h
  | 14, _ =>
    have h : (Instr.index 9 (.string ⟨#[48, 49, 50, 51, 52, 53, 54, 55, 56, 57, 97, 98, 99, 100, 101, 102]⟩) (.int .u8 ((14 : Nat) : Int))).run Tryz.prog W = .ok (.int .u8 (nb (sign 14))) W := by kernel_rfl
    exact h
  | 15, _ =>
    have h : (Instr.index 9 (.string ⟨#[48, 49, 50, 51, 52, 53, 54, 55, 56, 57, 97, 98, 99, 100, 101, 102]⟩) (.int .u8 ((15 : Nat) : Int))).run Tryz.prog W = .ok (.int .u8 (nb (sign 15))) W := by kernel_rfl
    exact h
  | k + 16, h => exact absurd h (by omega)

theorem and15 (x : B8) : bits .and .u8 (nb x) 15 = ((x.toNat % 16 : Nat) : Int) := by
  have h : ∀ y : B8, bits .and .u8 (nb y) 15 = ((y.toNat % 16 : Nat) : Int) := by decide +kernel
  exact h x
theorem div16 (x : B8) : nb x / 16 = ((x.toNat / 16 : Nat) : Int) := by
  unfold nb
  omega

theorem sign_nat (i : Nat) (hi : i < 16) (h : i < (⟨#[48, 49, 50, 51, 52, 53, 54, 55, 56, 57, 97, 98, 99, 100, 101, 102]⟩ : ByteArray).size) : (((⟨#[48, 49, 50, 51, 52, 53, 54, 55, 56, 57, 97, 98, 99, 100, 101, 102]⟩ : ByteArray)[i]'h).toNat : Int) = nb (sign i) := by
  match i, hi, h with
  | 0, _, h =>
    have e : (((⟨#[48, 49, 50, 51, 52, 53, 54, 55, 56, 57, 97, 98, 99, 100, 101, 102]⟩ : ByteArray)[0]'h).toNat : Int) = nb (sign 0) := by kernel_rfl
    exact e
  | 1, _, h =>
    have e : (((⟨#[48, 49, 50, 51, 52, 53, 54, 55, 56, 57, 97, 98, 99, 100, 101, 102]⟩ : ByteArray)[1]'h).toNat : Int) = nb (sign 1) := by kernel_rfl
    exact e
  | 2, _, h =>
    have e : (((⟨#[48, 49, 50, 51, 52, 53, 54, 55, 56, 57, 97, 98, 99, 100, 101, 102]⟩ : ByteArray)[2]'h).toNat : Int) = nb (sign 2) := by kernel_rfl
    exact e
  | 3, _, h =>
    have e : (((⟨#[48, 49, 50, 51, 52, 53, 54, 55, 56, 57, 97, 98, 99, 100, 101, 102]⟩ : ByteArray)[3]'h).toNat : Int) = nb (sign 3) := by kernel_rfl
    exact e
  | 4, _, h =>
    have e : (((⟨#[48, 49, 50, 51, 52, 53, 54, 55, 56, 57, 97, 98, 99, 100, 101, 102]⟩ : ByteArray)[4]'h).toNat : Int) = nb (sign 4) := by kernel_rfl
    exact e
  | 5, _, h =>
    have e : (((⟨#[48, 49, 50, 51, 52, 53, 54, 55, 56, 57, 97, 98, 99, 100, 101, 102]⟩ : ByteArray)[5]'h).toNat : Int) = nb (sign 5) := by kernel_rfl
    exact e
  | 6, _, h =>
    have e : (((⟨#[48, 49, 50, 51, 52, 53, 54, 55, 56, 57, 97, 98, 99, 100, 101, 102]⟩ : ByteArray)[6]'h).toNat : Int) = nb (sign 6) := by kernel_rfl
    exact e
  | 7, _, h =>
    have e : (((⟨#[48, 49, 50, 51, 52, 53, 54, 55, 56, 57, 97, 98, 99, 100, 101, 102]⟩ : ByteArray)[7]'h).toNat : Int) = nb (sign 7) := by kernel_rfl
    exact e
  | 8, _, h =>
    have e : (((⟨#[48, 49, 50, 51, 52, 53, 54, 55, 56, 57, 97, 98, 99, 100, 101, 102]⟩ : ByteArray)[8]'h).toNat : Int) = nb (sign 8) := by kernel_rfl
    exact e
  | 9, _, h =>
    have e : (((⟨#[48, 49, 50, 51, 52, 53, 54, 55, 56, 57, 97, 98, 99, 100, 101, 102]⟩ : ByteArray)[9]'h).toNat : Int) = nb (sign 9) := by kernel_rfl
    exact e
  | 10, _, h =>
    have e : (((⟨#[48, 49, 50, 51, 52, 53, 54, 55, 56, 57, 97, 98, 99, 100, 101, 102]⟩ : ByteArray)[10]'h).toNat : Int) = nb (sign 10) := by kernel_rfl
    exact e
  | 11, _, h =>
    have e : (((⟨#[48, 49, 50, 51, 52, 53, 54, 55, 56, 57, 97, 98, 99, 100, 101, 102]⟩ : ByteArray)[11]'h).toNat : Int) = nb (sign 11) := by kernel_rfl
    exact e
  | 12, _, h =>
    have e : (((⟨#[48, 49, 50, 51, 52, 53, 54, 55, 56, 57, 97, 98, 99, 100, 101, 102]⟩ : ByteArray)[12]'h).toNat : Int) = nb (sign 12) := by kernel_rfl
    exact e
  | 13, _, h =>
    have e : (((⟨#[48, 49, 50, 51, 52, 53, 54, 55, 56, 57, 97, 98, 99, 100, 101, 102]⟩ : ByteArray)[13]'h).toNat : Int) = nb (sign 13) := by kernel_rfl
    exact e
  | 14, _, h =>
    have e : (((⟨#[48, 49, 50, 51, 52, 53, 54, 55, 56, 57, 97, 98, 99, 100, 101, 102]⟩ : ByteArray)[14]'h).toNat : Int) = nb (sign 14) := by kernel_rfl
    exact e
  | 15, _, h =>
    have e : (((⟨#[48, 49, 50, 51, 52, 53, 54, 55, 56, 57, 97, 98, 99, 100, 101, 102]⟩ : ByteArray)[15]'h).toNat : Int) = nb (sign 15) := by kernel_rfl
    exact e
  | i + 16, h, _ => exact absurd h (by omega)
theorem sign_at (x : Int) (i : Nat) (hx : x = (i : Int)) (hi : i < 16) (h : x.toNat < (⟨#[48, 49, 50, 51, 52, 53, 54, 55, 56, 57, 97, 98, 99, 100, 101, 102]⟩ : ByteArray).size) : (((⟨#[48, 49, 50, 51, 52, 53, 54, 55, 56, 57, 97, 98, 99, 100, 101, 102]⟩ : ByteArray)[x.toNat]'h).toNat : Int) = nb (sign i) := by
  subst hx
  exact sign_nat i hi h
/-- Bytes, and behind them the rest of N, still nought. -/
def partN (N : Nat) (l : List B8) : List Value := Vb l ++ List.replicate (N - l.length) (.int .u8 0)
theorem partN_length {N : Nat} {l : List B8} (h : l.length ≤ N) : (partN N l).length = N := by simp [partN, Vb_length]; omega
theorem partN_set {N : Nat} {l : List B8} (h : l.length < N) (x : B8) : (partN N l).set l.length (.int .u8 (nb x)) = partN N (l ++ [x]) := by
  unfold partN
  rw [List.set_append_right _ _ (by rw [Vb_length]; omega), Vb_length, Nat.sub_self, Vb_append]
  obtain ⟨m, hm⟩ : ∃ m, N - l.length = m + 1 := ⟨N - l.length - 1, by omega⟩
  rw [hm, List.replicate_succ, List.set_cons_zero, List.append_assoc]
  have : N - (l ++ [x]).length = m := by simp; omega
  rw [this]
  rfl
theorem partN_next {N : Nat} {l : List B8} {j : Nat} (h : l.length + j < N) : (partN N l)[l.length + j]? = some (.int .u8 0) := by
  unfold partN
  rw [List.getElem?_append_right (by rw [Vb_length]; omega), Vb_length, Nat.add_sub_cancel_left, List.getElem?_replicate]
  rw [if_pos (by omega)]
theorem partN_whole {N : Nat} (l : List B8) (h : l.length = N) : partN N l = Vb l := by simp [partN, h]

end Go.Proofs.YtbmflnnfnbepdaaGreatDoor
end

/-
  The law's own 'known': the document's two examples hold. Condition: the constants lie in their variable.
-/

section
set_option maxRecDepth 100000
set_option linter.unusedSimpArgs false
set_option linter.unusedVariables false
namespace Go.Proofs.YtbmflnnfnbepdaaGreatDoor
open Go.RowKit

theorem strA0 : strOf textA = .string ⟨#[101, 51, 98, 48, 99, 52, 52, 50, 57, 56, 102, 99, 49, 99, 49, 52, 57, 97, 102, 98, 102, 52, 99, 56, 57, 57, 54, 102, 98, 57, 50, 52, 50, 55, 97, 101, 52, 49, 101, 52, 54, 52, 57, 98, 57, 51, 52, 99, 97, 52, 57, 53, 57, 57, 49, 98, 55, 56, 53, 50, 98, 56, 53, 53]⟩ := by kernel_rfl
theorem strB0 : strOf textB = .string ⟨#[98, 97, 55, 56, 49, 54, 98, 102, 56, 102, 48, 49, 99, 102, 101, 97, 52, 49, 52, 49, 52, 48, 100, 101, 53, 100, 97, 101, 50, 50, 50, 51, 98, 48, 48, 51, 54, 49, 97, 51, 57, 54, 49, 55, 55, 97, 57, 99, 98, 52, 49, 48, 102, 102, 54, 49, 102, 50, 48, 48, 49, 53, 97, 100]⟩ := by kernel_rfl
theorem strA : strOf (hexS (sha Ks []) 32) = .string ⟨#[101, 51, 98, 48, 99, 52, 52, 50, 57, 56, 102, 99, 49, 99, 49, 52, 57, 97, 102, 98, 102, 52, 99, 56, 57, 57, 54, 102, 98, 57, 50, 52, 50, 55, 97, 101, 52, 49, 101, 52, 54, 52, 57, 98, 57, 51, 52, 99, 97, 52, 57, 53, 57, 57, 49, 98, 55, 56, 53, 50, 98, 56, 53, 53]⟩ := by
  rw [known_none]
  exact strA0
theorem strB : strOf (hexS (sha Ks [97#8, 98#8, 99#8]) 32) = .string ⟨#[98, 97, 55, 56, 49, 54, 98, 102, 56, 102, 48, 49, 99, 102, 101, 97, 52, 49, 52, 49, 52, 48, 100, 101, 53, 100, 97, 101, 50, 50, 50, 51, 98, 48, 48, 51, 54, 49, 97, 51, 57, 54, 49, 55, 55, 97, 57, 99, 98, 52, 49, 48, 102, 102, 54, 49, 102, 50, 48, 48, 49, 53, 97, 100]⟩ := by
  have h : hexS (sha Ks [97#8, 98#8, 99#8]) 32 = textB := known_abc
  rw [h]
  exact strB0

theorem Vb_cells (xs : List B8) : Vb xs = (xs.map UInt8.ofBitVec).map Extern.Stop.cell := by
  unfold Vb
  rw [List.map_map]
  apply List.map_congr_left
  intro x _
  unfold nb
  rfl
/-- '==' of two digests. -/
theorem eql32 (xs ys : List B8) (hx : xs.length = 32) (hy : ys.length = 32) (W : World) : (Op.equalIn 10000 111 (.agg (Vb xs).toArray) (.agg (Vb ys).toArray)).run Tryz.prog W = .ok (decide (xs = ys)) W := by
  rw [Vb_cells, Vb_cells, run_equalIn_bytes W 9998 111 5 32 Tryz.underlying111 Tryz.underlying5 (fun w => by kernel_rfl) _ _ (by simpa using hx) (by simpa using hy)]
  congr 1
  rw [Bool.eq_iff_iff, beq_iff_eq, decide_eq_true_eq]
  exact List.map_inj_right (fun a b h => by injection h)

theorem abc_txts (w : World) (p : Nat) (hp : w.heap.size + 3 ≤ p) :
    Txts (((w.alloc (.cells #[.int .u8 97] 5 (1, 2))).alloc (.cells #[.int .u8 98, .int .u8 99] 5 (2, 3))).alloc (.cells #[.slice (some ⟨w.heap.size, 0, none⟩) 1 1, .slice (some ⟨w.heap.size + 1, 0, none⟩) 2 2] 22)) p (some ⟨w.heap.size + 2, 0, none⟩) 2 [[97], [98, 99]] := by
  have b0 : (((w.alloc (.cells #[.int .u8 97] 5 (1, 2))).alloc (.cells #[.int .u8 98, .int .u8 99] 5 (2, 3))).alloc (.cells #[.slice (some ⟨w.heap.size, 0, none⟩) 1 1, .slice (some ⟨w.heap.size + 1, 0, none⟩) 2 2] 22)).heap[w.heap.size]? = some (.cells #[.int .u8 97] 5 (1, 2)) :=
    (Below.heap_alloc _ _ _ (by simp; omega)).trans ((Below.heap_alloc _ _ _ (by simp)).trans (heap_alloc_new w _))
  have b1 : (((w.alloc (.cells #[.int .u8 97] 5 (1, 2))).alloc (.cells #[.int .u8 98, .int .u8 99] 5 (2, 3))).alloc (.cells #[.slice (some ⟨w.heap.size, 0, none⟩) 1 1, .slice (some ⟨w.heap.size + 1, 0, none⟩) 2 2] 22)).heap[w.heap.size + 1]? = some (.cells #[.int .u8 98, .int .u8 99] 5 (2, 3)) := by
    refine (Below.heap_alloc _ _ _ (by simp)).trans ?_
    have h := heap_alloc_new (w.alloc (.cells #[.int .u8 97] 5 (1, 2))) (.cells #[.int .u8 98, .int .u8 99] 5 (2, 3))
    rw [World.size_alloc] at h
    exact h
  have b2 : (((w.alloc (.cells #[.int .u8 97] 5 (1, 2))).alloc (.cells #[.int .u8 98, .int .u8 99] 5 (2, 3))).alloc (.cells #[.slice (some ⟨w.heap.size, 0, none⟩) 1 1, .slice (some ⟨w.heap.size + 1, 0, none⟩) 2 2] 22)).heap[w.heap.size + 2]? = some (.cells #[.slice (some ⟨w.heap.size, 0, none⟩) 1 1, .slice (some ⟨w.heap.size + 1, 0, none⟩) 2 2] 22 (0, 0)) := by
    have h := heap_alloc_new ((w.alloc (.cells #[.int .u8 97] 5 (1, 2))).alloc (.cells #[.int .u8 98, .int .u8 99] 5 (2, 3))) (.cells #[.slice (some ⟨w.heap.size, 0, none⟩) 1 1, .slice (some ⟨w.heap.size + 1, 0, none⟩) 2 2] 22)
    rw [World.size_alloc, World.size_alloc] at h
    exact h
  have e97 : Value.int .u8 97 = .int .u8 (nb 97) := by unfold nb; rfl
  have e98 : Value.int .u8 98 = .int .u8 (nb 98) := by unfold nb; rfl
  have e99 : Value.int .u8 99 = .int .u8 (nb 99) := by unfold nb; rfl
  refine ⟨rfl, fun _ => ⟨w.heap.size + 2, 0, rfl, by omega, fun i x hx => ?_⟩⟩
  match i, hx with
  | 0, hx =>
    simp only [List.getElem?_cons_zero, Option.some.injEq] at hx
    subst hx
    refine ⟨_, 1, 1, cell_of_row _ _ 0 _ _ _ b2, ⟨rfl, Nat.le_refl _, by unfold maxLen; omega, fun _ => ⟨w.heap.size, 0, rfl, by omega, fun j hj => ?_⟩⟩⟩
    obtain rfl : j = 0 := by omega
    rw [Nat.zero_add, cell_of_row _ _ _ _ _ _ b0]
    exact congrArg some e97
  | 1, hx =>
    simp only [List.getElem?_cons_succ, List.getElem?_cons_zero, Option.some.injEq] at hx
    subst hx
    refine ⟨_, 2, 2, cell_of_row _ _ 1 _ _ _ b2, ⟨rfl, Nat.le_refl _, by unfold maxLen; omega, fun _ => ⟨w.heap.size + 1, 0, rfl, by omega, fun j hj => ?_⟩⟩⟩
    rw [Nat.zero_add, cell_of_row _ _ _ _ _ _ b1]
    match j, hj with
    | 0, _ => exact congrArg some e98
    | 1, _ => exact congrArg some e99

end Go.Proofs.YtbmflnnfnbepdaaGreatDoor
end

/-
  Texts: at most twelve of the texts, of at most 300 bytes, and all of them. Condition: the texts are known.
-/

section
set_option maxRecDepth 100000
set_option linter.unusedSimpArgs false
set_option linter.unusedVariables false
namespace Go.Proofs.YtbmflnnfnbepdaaGreatDoor
open Go.RowKit

def cutT (xs : List (List B8)) : List (List B8) := (xs.take 12).map (·.take 300)

/-- A text that is nil, or has an address. -/
structure TxtN (w : World) (p : Nat) (A : Option Addr) (n c : Nat) (bs : List B8) : Prop where
  txt : Txt w p A n c bs
  nil : A = none → n = 0 ∧ c = 0
structure TxtsN (w : World) (p : Nat) (L : Option Addr) (n : Nat) (xs : List (List B8)) : Prop where
  len : xs.length = n
  cells : 0 < n → ∃ g o, L = some ⟨g, o, none⟩ ∧ g ≠ p ∧ ∀ i x, xs[i]? = some x → ∃ A k c, w.cell? ⟨g, o + i, none⟩ = some (.slice A k c) ∧ TxtN w p A k c x
theorem TxtsN.txts {w : World} {p : Nat} {L : Option Addr} {n : Nat} {xs : List (List B8)} (h : TxtsN w p L n xs) : Txts w p L n xs := by
  refine ⟨h.len, fun hn => ?_⟩
  obtain ⟨g, o, hL, hg, hc⟩ := h.cells hn
  refine ⟨g, o, hL, hg, fun i x hx => ?_⟩
  obtain ⟨A, k, c, h0, ht⟩ := hc i x hx
  exact ⟨A, k, c, h0, ht.txt⟩
theorem TxtN.at {w : World} {p q : Nat} {A : Option Addr} {n c : Nat} {bs : List B8} (h : TxtN w p A n c bs) (hq : w.heap.size ≤ q) : TxtN w q A n c bs := ⟨h.txt.at hq, h.nil⟩
theorem TxtN.below {w w' : World} {p B : Nat} {A : Option Addr} {n c : Nat} {bs : List B8} (h : TxtN w p A n c bs) (ho : Below B w w') (hB : w.heap.size ≤ B) : TxtN w' p A n c bs := ⟨h.txt.below ho hB, h.nil⟩
theorem TxtN.at' {w w' : World} {p : Nat} {A : Option Addr} {n c : Nat} {bs : List B8} (h : TxtN w' p A n c bs) (_hq : w.heap.size ≤ w'.heap.size) : TxtN w' w'.heap.size A n c bs := h.at (Nat.le_refl _)
theorem Txt.take {w : World} {p : Nat} {A : Option Addr} {n c : Nat} {bs : List B8} (h : Txt w p A n c bs) (k : Nat) (hk : k ≤ n) : Txt w p A k c (bs.take k) := by
  refine ⟨by rw [List.length_take, h.len]; omega, by have := h.cap; omega, h.capm, fun h0 => ?_⟩
  obtain ⟨g, o, hA, hg, hc⟩ := h.cells (by omega)
  refine ⟨g, o, hA, hg, fun j hj => ?_⟩
  rw [hc j (by omega)]
  simp [List.getD_eq_getElem?_getD, hj]
/-- Texts in memory of the call's own. -/
def OTexts (B : Nat) (w : World) (v : Value) (X : List (List B8)) : Prop := ∃ cells : List Value, w.ownsRow B 22 1 v X.length cells ∧ ∀ (j : Nat) (x : List B8), X[j]? = some x → ∃ A k c, cells[j]? = some (Value.slice A k c) ∧ TxtN w w.heap.size A k c x

theorem own_own_ne {w : World} {B B' e e' s s' n n' : Nat} {v v' : Value} {xs xs' : List Value} (h : w.ownsRow B e s v n xs) (h' : w.ownsRow B' e' s' v' n' xs') (hne : e ≠ e') : ∀ g, v.ownBlock = some g → v'.ownBlock ≠ some g := by
  intro g hg hg'
  rcases h.2 with ⟨rfl, _⟩ | ⟨b, cap, cur, rfl, _, hh, _⟩
  · simp [Value.ownBlock] at hg
  · rcases h'.2 with ⟨rfl, _⟩ | ⟨b', cap', cur', rfl, _, hh', _⟩
    · simp [Value.ownBlock] at hg'
    · have e1 : b = g := by simpa [Value.ownBlock] using hg
      have e2 : b' = g := by simpa [Value.ownBlock] using hg'
      subst e1 e2
      rw [hh] at hh'
      injection hh' with hh'
      injection hh' with _ ht
      exact hne ht
theorem own_ge {w : World} {B e s n : Nat} {v : Value} {xs : List Value} (h : w.ownsRow B e s v n xs) : ∀ g, v.ownBlock = some g → B ≤ g := by
  intro g hg
  rcases h.2 with ⟨rfl, _⟩ | ⟨b, cap, cur, rfl, hb, _⟩
  · simp [Value.ownBlock] at hg
  · have e1 : b = g := by simpa [Value.ownBlock] using hg
    omega
theorem own_grown {w w' : World} {B e e' s s' n n' : Nat} {v v' : Value} {xs xs' : List Value} (h : w.ownsRow B e s v n xs) (h' : w.ownsRow B e' s' v' n' xs') (hne : e ≠ e') (hg : w.grownBy w' v'.ownBlock) : w'.ownsRow B e s v n xs := by
  refine ownsRow_only (S := v'.ownBlock.toList) h ((Only.refl _ _).grown hg (fun k hk => .inl (by simp [hk]))) ?_
  intro k hk hm
  exact own_own_ne h h' hne k hk (by simpa using hm)

theorem new_slice (A : Option Addr) (m c : Nat) : ∀ u ∈ [Value.slice A m c], u.oneCell' = true := by
  intro u hu
  simp at hu
  subst hu
  rfl
theorem txt_cells {w : World} {p : Nat} {a : Addr} {n c : Nat} {bs : List B8} (h : Txt w p (some a) n c bs) : ∀ j u, (Vb bs)[j]? = some u → w.cell? (a.add j) = some u := by
  intro j u hu
  rw [Vb_get] at hu
  cases hx : bs[j]? with
  | none => rw [hx] at hu; cases hu
  | some x =>
    rw [hx] at hu
    simp only [Option.map_some, Option.some.injEq] at hu
    subst hu
    have hj : j < n := by have := (List.getElem?_eq_some_iff.1 hx).1; have := h.len; omega
    obtain ⟨g, o, hA, hg, hc⟩ := h.cells (by omega)
    simp only [Option.some.injEq] at hA
    subst hA
    rw [Addr.add_mid, hc j hj, List.getD_eq_getElem?_getD, hx]
    rfl
theorem cut_get {xs : List (List B8)} {k : Nat} (h1 : k < xs.length) (h2 : k < 12) : (cutT xs)[k]? = some (xs[k].take 300) := by
  unfold cutT
  rw [List.getElem?_map, List.getElem?_take, if_pos h2, List.getElem?_eq_getElem h1]
  rfl
theorem cut_flat {xs : List (List B8)} {k : Nat} {x : List B8} (h : (cutT xs)[k]? = some x) : ((cutT xs).take (k + 1)).flatten = ((cutT xs).take k).flatten ++ x := take_flat h
theorem cut_small (xs : List (List B8)) (k : Nat) (hk : k ≤ 12) : ((cutT xs).take k).flatten.length ≤ 300 * k := by
  induction k with
  | zero => simp
  | succ k ih =>
    cases hx : (cutT xs)[k]? with
    | none =>
      rw [List.getElem?_eq_none_iff] at hx
      rw [List.take_of_length_le (by omega)]
      have := ih (by omega)
      rw [List.take_of_length_le hx] at this
      omega
    | some x =>
      rw [cut_flat hx, List.length_append]
      have := ih (by omega)
      have hl : x.length ≤ 300 := by
        have hm := List.mem_of_getElem? hx
        unfold cutT at hm
        obtain ⟨y, _, rfl⟩ := List.mem_map.1 hm
        rw [List.length_take]
        omega
      omega

/-- The cells gathered so far. -/
def Gathered (w0 : World) (X : List (List B8)) (k : Nat) (cells : List Value) : Prop := ∀ j x, j < k → X[j]? = some x → ∃ A m c, cells[j]? = some (Value.slice A m c) ∧ TxtN w0 w0.heap.size A m c x
theorem Gathered.snoc {w0 : World} {X : List (List B8)} {k : Nat} {cells : List Value} (h : Gathered w0 X k cells) (hl : cells.length = k) {A : Option Addr} {m c : Nat} {x : List B8} (hx : X[k]? = some x) (ht : TxtN w0 w0.heap.size A m c x) : Gathered w0 X (k + 1) (cells ++ [Value.slice A m c]) := by
  intro j y hj hy
  by_cases hjk : j < k
  · obtain ⟨A', m', c', h1, h2⟩ := h j y hjk hy
    exact ⟨A', m', c', by rw [List.getElem?_append_left (by omega)]; exact h1, h2⟩
  · obtain rfl : j = k := by omega
    rw [hx] at hy
    injection hy with hy
    subst hy
    exact ⟨A, m, c, by rw [List.getElem?_append_right (by omega), hl]; simp, ht⟩

def TextsRel (w : World) (xs : List (List B8)) (n : Nat) (i v va : Value) (wr : World) : Prop := ∃ k : Nat, k ≤ n ∧ k ≤ 12 ∧ i = .int .i64 k ∧ (∃ cells, wr.ownsRow w.heap.size 22 1 v k cells ∧ Gathered w (cutT xs) k cells) ∧
  wr.ownsRow w.heap.size 5 1 va ((cutT xs).take k).flatten.length (Vb ((cutT xs).take k).flatten) ∧ Below w.heap.size w wr

end Go.Proofs.YtbmflnnfnbepdaaGreatDoor
end
