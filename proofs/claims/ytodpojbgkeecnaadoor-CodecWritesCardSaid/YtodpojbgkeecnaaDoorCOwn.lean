/-
  own: a value of the call's own memory that reads as the one it is handed. Conditions: the value reads as a tree, its numbers are of 64 bits, its bytes and lists no longer than a million.
-/
import Derived.Test.YtodpojbgkeecnaaDoorCAppend
set_option linter.unusedSimpArgs false
set_option linter.unusedVariables false
namespace Go.Proofs.YtodpojbgkeecnaaDoor
open Go.RowKit

/-- What own leaves. -/
def OwnPost (t : T) (w : World) (e : Ending) (w' : World) : Prop := ∃ v', e = .returned v' ∧ In w' (fun g => w.heap.size ≤ g) t v' ∧ Below w.heap.size w w'

/-- Where own's loop stands. -/
def OwnRel (w0 : World) (vs : List Value) (A : Option Addr) (nb cb : Nat) (b : List UInt8) (l : List T) (n : Nat) (v i : Value) (wr : World) : Prop :=
  ∃ k : Nat, k ≤ n ∧ i = .int .i64 k ∧ (∃ xs, wr.ownsRow (w0.heap.size + 2) 26 4 v k xs ∧ Row wr (fun g => w0.heap.size + 2 ≤ g ∧ v.ownBlock ≠ some g) (l.take k) xs) ∧
    BIn wr (fun g => w0.heap.size + 2 ≤ g ∧ v.ownBlock ≠ some g) A nb cb b ∧ Blk wr w0.heap.size 26 vs ∧ Blk wr (w0.heap.size + 1) 26 [.int .i64 0, .int .i64 0, .slice none 0 0, .slice none 0 0] ∧ Below w0.heap.size w0 wr

/-- Behind one more value. -/
theorem own_step {w0 wr w2 w4 : World} {vs : List Value} {A : Option Addr} {nb cb k : Nat} {b : List UInt8} {l : List T} {n : Nat} {v v4 : Value} {ys : List Value} {t : T} {d0 d1 d2 d3 : Value} (hk : k < n) (hlk : l[k]? = some t)
    (hown : wr.ownsRow (w0.heap.size + 2) 26 4 v k ys) (hrow : Row wr (fun g => w0.heap.size + 2 ≤ g ∧ v.ownBlock ≠ some g) (l.take k) ys) (hbs : BIn wr (fun g => w0.heap.size + 2 ≤ g ∧ v.ownBlock ≠ some g) A nb cb b)
    (hd0 : Blk wr w0.heap.size 26 vs) (hd1 : Blk wr (w0.heap.size + 1) 26 [.int .i64 0, .int .i64 0, .slice none 0 0, .slice none 0 0]) (hbel : Below w0.heap.size w0 wr)
    (hin : In w2 (fun g => wr.heap.size ≤ g) t (.agg #[d0, d1, d2, d3])) (hb2 : Below wr.heap.size wr w2)
    (ho4 : w4.ownsRow (w0.heap.size + 2) 26 4 v4 (k + 1) (ys ++ [d0, d1, d2, d3])) (hg4 : (w2.alloc (.cells #[d0, d1, d2, d3] 26)).grownBy w4 v.ownBlock) (hn4 : v4.ownBlock = v.ownBlock ∨ v4.ownBlock = some (w2.alloc (.cells #[d0, d1, d2, d3] 26)).heap.size) :
    OwnRel w0 vs A nb cb b l n v4 (.int .i64 (k + 1 : Nat)) w4 := by
  have hsz := hbel.size
  have hs2 := hb2.size
  have hlt := hown.lt
  have hd0s := hd0.lt
  have hd1s := hd1.lt
  have hs4 := hg4.size
  rw [World.size_alloc] at hn4 hs4
  have old : ∀ g, g < wr.heap.size → v.ownBlock ≠ some g → w4.heap[g]? = wr.heap[g]? ∧ v4.ownBlock ≠ some g := by
    intro g hg hv
    refine ⟨((hg4.block g (by simp; omega) (fun e => hv e.symm)).trans (Below.heap_alloc w2 _ g (by omega))).trans (hb2.block g hg), ?_⟩
    rcases hn4 with h | h
    · rw [h]; exact hv
    · rw [h]; intro e; injection e with e; omega
  have hne : ∀ g, g < w0.heap.size + 2 → v.ownBlock ≠ some g := fun g hg e => by have := (hlt g e).1; omega
  refine ⟨k + 1, by omega, rfl, ⟨_, ho4, ?_⟩, hbs.keep fun g hg hl => ⟨(old g hl hg.2).1, hg.1, (old g hl hg.2).2⟩, ?_, ?_, ?_⟩
  · rw [List.take_add_one, hlk]
    refine Row.snoc (Row.keep _ _ hrow fun g hg hl => ⟨(old g hl hg.2).1, hg.1, (old g hl hg.2).2⟩) (hin.keep _ _ fun g hg hl => ?_)
    refine ⟨(hg4.block g (by simp; omega) (fun e => by have := (hlt g e.symm).2; omega)).trans (Below.heap_alloc w2 _ g hl), by omega, ?_⟩
    rcases hn4 with h | h
    · rw [h]; intro e; have := (hlt g e).2; omega
    · rw [h]; intro e; injection e with e; omega
  · exact (old _ hd0s (hne _ (by omega))).1.trans hd0
  · exact (old _ hd1s (hne _ (by omega))).1.trans hd1
  · exact ⟨hg4.os.trans (hb2.os.trans hbel.os), hg4.tape.trans (hb2.tape.trans hbel.tape), hg4.output.trans (hb2.output.trans hbel.output), by omega, fun g hg => (old g (by omega) (hne g (by omega))).1.trans (hbel.block g hg)⟩

theorem own_end {w wr w' : World} {A L : Option Addr} {k n : Int} {nb cb nl cl : Nat} {b : List UInt8} {l : List T} {xs : List Value} (hb : BIn wr (fun g => w.heap.size + 2 ≤ g) A nb cb b) (hl : LIn wr (fun g => w.heap.size + 2 ≤ g) L nl cl l xs) (hbel : Below w.heap.size w wr) (ho : Only [w.heap.size, w.heap.size + 1] wr w') :
    OwnPost (.mk k n b l) w (.returned (.agg #[.int .i64 k, .int .i64 n, .slice A nb cb, .slice L nl cl])) w' :=
  ⟨_, rfl, In.shut (hb.keep fun g hg hlt => ⟨ho.block g hlt (by simp; omega), by omega⟩) (hl.keep fun g hg hlt => ⟨ho.block g hlt (by simp; omega), by omega⟩), hbel.trans (ho.below hbel.size (by simp))⟩
theorem own_first {w w1 : World} {c0 c1 c2 c3 : Value} (hg : ((w.alloc (.cells #[c0, c1, c2, c3] 26)).alloc (.cells #[.int .i64 0, .int .i64 0, .slice none 0 0, .slice none 0 0] 26)).grownBy w1 (Value.ownBlock (.slice none 0 0))) :
    Blk w1 w.heap.size 26 [c0, c1, c2, c3] ∧ Blk w1 (w.heap.size + 1) 26 [.int .i64 0, .int .i64 0, .slice none 0 0, .slice none 0 0] ∧ Below w.heap.size w w1 ∧ w1.cell? ⟨w.heap.size, 2, none⟩ = some c2 ∧ w1.cell? ⟨w.heap.size, 3, none⟩ = some c3 ∧ w1.frozen? ⟨w.heap.size, 2, none⟩ = false := by
  have e1 : ∀ k : Nat, some k ≠ Value.ownBlock (.slice none 0 0) := fun k h => by cases h
  have hd0 : Blk w1 w.heap.size 26 [c0, c1, c2, c3] := ((Blk.new w 26 [c0, c1, c2, c3]).alloc _).grown hg (e1 _)
  have hd1 : Blk w1 (w.heap.size + 1) 26 [.int .i64 0, .int .i64 0, .slice none 0 0, .slice none 0 0] := by
    have := Blk.new (w.alloc (.cells #[c0, c1, c2, c3] 26)) 26 [.int .i64 0, .int .i64 0, .slice none 0 0, .slice none 0 0]
    rw [World.size_alloc] at this
    exact this.grown hg (e1 _)
  exact ⟨hd0, hd1, (((Below.refl _ _).alloc (Nat.le_refl _) _).alloc (by simp) _).grown hg (by simp; omega) (fun q hq => absurd hq.symm (e1 q)), hd0.cell 2, hd0.cell 3, hd0.frozen 2⟩

set_option maxRecDepth 100000 in
set_option maxHeartbeats 1000000 in
theorem own_any : ∀ (N : Nat) (t : T), t.high < N → t.ok → ∀ (w : World) (Q : Nat → Prop) (v : Value), In w Q t v → Calls Tryd.prog 31 #[v] w (OwnPost t w)
  | 0, t, h, _, _, _, _, _ => absurd h (Nat.not_lt_zero _)
  | N + 1, .mk kd nn b l, hN, hok, w, Q, v, hin => by
    have hih : ∀ t ∈ l, ∀ (w : World) (Q : Nat → Prop) (v : Value), In w Q t v → Calls Tryd.prog 31 #[v] w (OwnPost t w) := fun t ht w Q v hv => own_any N t (by have := T.high_lt (k := kd) (n := nn) (b := b) ht; omega) (by rw [T.ok] at hok; exact T.okAll_mem hok.2.2.2.2 t ht) w Q v hv
    obtain ⟨A, nb, cb, L, nl, cl, xs, rfl, hb, hl⟩ := hin.open_
    obtain ⟨i0, hi, hz0, hz1, hz2⟩ := info_parts binfo
    obtain ⟨i1, hj, hy0, hy1, hy2⟩ := info_parts tinfo
    have HI := Lib.hid (And.intro hi (And.intro hz0 (And.intro hz1 hz2)))
    have HJ := Lib.hid (And.intro hj (And.intro hy0 (And.intro hy1 hy2)))
    have HB := Lib.hid hb
    have HL := Lib.hid hl
    have HH := Lib.hid hih
    have hnb : nb ≤ 1000000 := by rw [T.ok] at hok; have := hb.len; omega
    have hnl : nl ≤ 1000000 := by rw [T.ok] at hok; have := hl.len; omega
    clear hi hz0 hz1 hz2 hj hy0 hy1 hy2 hb hl hih hok hN hin own_any
    go_enter Tryd.func31, Tryd.ntmps31
    have hbn : BIn ((w.alloc (.cells #[.int .i64 kd, .int .i64 nn, .slice A nb cb, .slice L nl cl] 26)).alloc (.cells #[.int .i64 0, .int .i64 0, .slice none 0 0, .slice none 0 0] 26)) Q A nb cb b := HB.out.below (((Below.refl _ _).alloc (Nat.le_refl _) _).alloc (by simp) _)
    have HBN := Lib.hid hbn
    clear hbn
    go_wp2_with (at_builtin; go_loud (refine wpList_append_bin rfl (.const (Value.slice none 0 0)) (.tmp 7) rfl (w.heap.size + 2) (.slice none 0 0) 0 [] rfl (World.ownsRow_nil _ _ _ _) Q A nb cb b rfl HBN.out (by omega) (by simp) ?_); intro v1 w1 ho1 hg1 _; obtain ⟨A1, cb1, rfl, hv1⟩ := own_bin (b := b) (by simpa [HB.out.len] using ho1); obtain ⟨hd0, hd1, hb1, c2, c3, f2⟩ := own_first hg1; have HK := Lib.hid (And.intro hd0 (And.intro hd1 (And.intro hb1 hv1))); clear hd0 hd1 hb1 hv1 hg1 ho1 HBN)
    have hl1 := HB.out.len
    have hw2 : OwnRel w [.int .i64 kd, .int .i64 nn, .slice A1 b.length cb1, .slice L nl cl] A1 b.length cb1 b l nl (.slice none 0 0) (.int .i64 0) (w1.setCell ⟨w.heap.size, 2, none⟩ (.slice A1 b.length cb1)) := by
      obtain ⟨hd0, hd1, hb1, hv1⟩ := HK.out
      refine ⟨0, Nat.zero_le _, rfl, ⟨[], World.ownsRow_nil _ _ _ _, by simp [Row.nil]⟩, hv1.keep fun g hg hlt => ⟨Below.heap_setCell w1 _ _ g (by simp; omega), hg, by simp [Value.ownBlock]⟩, hd0.set_ 2 _, hd1.far (by simp) _, hb1.setCell (Nat.le_refl _) _⟩
    have HW := Lib.hid hw2
    clear hw2 hl1 c2 c3 f2
    go_loopw [3, 13] (fun v i wr => OwnRel w [.int .i64 kd, .int .i64 nn, .slice A1 b.length cb1, .slice L nl cl] A1 b.length cb1 b l nl v i wr) (fun _ i _ => nl - (intOf i).toNat)
    case atStart => exact HW.out
    case round =>
      clear HW HK
      obtain ⟨k, hk, rfl, ⟨ys, hown, hrow⟩, hbs, hd0, hd1, hbel⟩ := hrel
      have hsz := hbel.size
      by_cases hkn : k < nl
      · obtain ⟨g, o, rfl, hQ, hc⟩ := HL.out.cells (by omega)
        have hlk : l[k]? = some (l[k]'(by have := HL.out.len; omega)) := List.getElem?_eq_getElem _
        have hmem : (l[k]'(by have := HL.out.len; omega)) ∈ l := List.getElem_mem _
        generalize (l[k]'(by have := HL.out.len; omega)) = t at hlk hmem
        obtain ⟨k', n', b', l'⟩ := t
        have hlw := HL.out.keep (w' := wr) (Q' := Q) fun g hg hlt => ⟨hbel.block g hlt, hg⟩
        obtain ⟨c0, c1, c2, c3, e0, e1, e2, e3, hint⟩ := hlw.get k _ hlk
        obtain ⟨A', nb', cb', L', nl', cl', xs', hv, _, _⟩ := hint.open_
        injection hv with hv
        simp only [Array.mk.injEq, List.cons.injEq, and_true] at hv
        obtain ⟨rfl, rfl, rfl, rfl⟩ := hv
        have HO := Lib.hid (And.intro hown (And.intro hrow (And.intro hbs (And.intro hd0 (And.intro hd1 (And.intro hbel (And.intro hint hlk)))))))
        have HM := Lib.hid hmem
        have HQ := Lib.hid (And.intro hQ hc)
        clear hown hrow hbs hd0 hd1 hbel hint hlk hmem hQ hc hlw
        go_wp2_with fail
        refine (HH.out _ HM.out _ Q _ (HO.out.2.2.2.2.2.2.1.below ((Below.refl _ _).alloc (Nat.le_refl _) _))).mono ?_
        rintro e w2 ⟨v2, rfl, hin2, hb2⟩
        obtain ⟨A2, nb2, cb2, L2, nl2, cl2, xs2, rfl, _, _⟩ := hin2.open_
        rw [World.size_alloc] at hb2
        have hin3 := hin2.mono (Q' := fun g => wr.heap.size ≤ g) (fun g hg _ => by simp at hg; omega)
        have hb3 : Below wr.heap.size wr w2 := ((Below.refl _ wr).alloc (Nat.le_refl _) _).trans (hb2.mono (by omega))
        have hown3 : w2.ownsRow (w.heap.size + 2) 26 4 u3 k ys := ownsRow_only (S := []) HO.out.1 (Only.of_below hb3) (by simp)
        have hs3 := hb3.size
        have H2 := Lib.hid (And.intro hin3 (And.intro hb3 hown3))
        clear hin2 hin3 hb2 hb3 hown3
        go_wp2_with (at_builtin; go_loud (refine wpList_append_new _ rfl (.tmp 17) (.tmp 20) 24 rfl (w.heap.size + 2) 26 i1 (.agg #[.int .i64 0, .int .i64 0, .slice none 0 0, .slice none 0 0]) 4 64 Tryd.underlying24 HJ.out.1 HJ.out.2.1 HJ.out.2.2.1 HJ.out.2.2.2 rfl (by decide) u3 k ys rfl (H2.out.2.2.alloc _) ⟨w2.heap.size, 0, none⟩ 1 1 [.int .i64 k', .int .i64 n', .slice A2 nb2 cb2, .slice L2 nl2 cl2] ?_ ?_ ?_ ?_ ?_ ?_ ?_ ?_); all_goals first | with_reducible rfl | rfl | exact (new_four _ _ _ _ _ _) | exact H2.out.1.one | (unfold maxLen; omega) | omega | (have := HO.out.2.2.2.2.1.lt; simp; omega) | (intro v4 w4 ho4 hg4 hn4; have H4 := Lib.hid (And.intro ho4 (And.intro hg4 hn4)); clear ho4 hg4 hn4))
        go_roundw
        case rel =>
          have := own_step hkn HO.out.2.2.2.2.2.2.2 HO.out.1 HO.out.2.1 HO.out.2.2.1 HO.out.2.2.2.1 HO.out.2.2.2.2.1 HO.out.2.2.2.2.2.1 H2.out.1 H2.out.2.1 H4.out.1 H4.out.2.1 H4.out.2.2
          exact this
        case measure => simp [intOf]; omega
      · have hend : l.take k = l := List.take_of_length_le (by have := HL.out.len; omega)
        have hlk : l.length = k := by have := HL.out.len; omega
        rw [hend] at hrow
        have hrow2 := Row.keep (w' := wr) (Q' := fun g => w.heap.size + 2 ≤ g) _ _ hrow fun g hg _ => ⟨rfl, hg.1⟩
        have hbs2 := hbs.keep (w' := wr) (Q' := fun g => w.heap.size + 2 ≤ g) fun g hg _ => ⟨rfl, hg.1⟩
        obtain ⟨L3, c3', rfl, hlin⟩ := own_lin hown hlk hrow2 (fun g hg => (hown.lt g hg).1)
        have e0 := hd0.cell 0
        have e1 := hd0.cell 1
        have e2 := hd0.cell 2
        have e3 := hd0.cell 3
        have f3 := hd0.frozen 3
        simp only [List.getElem?_cons_succ, List.getElem?_cons_zero] at e0 e1 e2 e3
        have g0 := hd1.cell 0
        have g1 := hd1.cell 1
        have g2 := hd1.cell 2
        have g3 := hd1.cell 3
        simp only [List.getElem?_cons_succ, List.getElem?_cons_zero] at g0 g1 g2 g3
        have k0 := hd1.frozen 0
        have k1 := hd1.frozen 1
        have k2 := hd1.frozen 2
        have k3 := hd1.frozen 3
        have HO := Lib.hid (And.intro hown (And.intro hrow2 (And.intro hbs2 (And.intro hd0 (And.intro hd1 (And.intro hbel (And.intro hlin hlk)))))))
        clear hown hrow hrow2 hbs hbs2 hd0 hd1 hbel hlin hlk hend
        go_wp2_with fail
        refine bodyPost_ret (v := .agg #[.int .i64 kd, .int .i64 nn, .slice A1 b.length cb1, .slice L3 k c3']) (by simp [results, Tryd.results31, go_sem, g0, g1, g2, g3]) rfl ?_
        exact own_end HO.out.2.2.1 HO.out.2.2.2.2.2.2.1 HO.out.2.2.2.2.2.1 (((((((Only.refl _ _).setCell (.inl (by simp)) _).setCell (.inl (by simp)) _).setCell (.inl (by simp)) _).setCell (.inl (by simp)) _).setCell (.inl (by simp)) _))

end Go.Proofs.YtodpojbgkeecnaaDoor
