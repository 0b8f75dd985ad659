/-
  Copy: a disk of its own in the same state. Conditions: the disk is held.
-/
import Derived.Test.YthphaidaknkedaaBLive
import Derived.Deep.RegionHeld3
import Derived.Deep.RegionLaw
import Derived.WalkSpells
namespace Go.Proofs.Ythphaidaknkedaa
open Go.RowKit

theorem store_run {w : World} {a : Addr} {x y : Int} (hc : w.cell? a = some (.int .i64 x)) (hz : w.frozen? a = false) :
    (callFunc 49 #[.pointer (some a), .int .i64 y]).run Try.prog w = .ok (.value (.tuple #[])) (w.setCell a (.int .i64 y)) :=
  run_call_store Try.func49 (by kernel_rfl) (by kernel_rfl) (by kernel_rfl) (by kernel_rfl) hc hz
theorem atom_store (w : World) (b o : Nat) (x y : Int) (hc : w.cell? ⟨b, o, none⟩ = some (.int .i64 x)) (hz : w.frozen? ⟨b, o, none⟩ = false) :
    Calls Try.prog 44 #[.pointer (some ⟨b, o, none⟩), .int .i64 y] w fun e w' => e = .returned (.tuple #[]) ∧ w.setCell ⟨b, o, none⟩ (.int .i64 y) = w' := by
  have hl := store_run (y := y) hc hz
  go_enter Try.func44, Try.ntmps44
  go_wp2
  go_end0
  exact ⟨rfl, rfl⟩
theorem atom_load (w : World) (b o : Nat) (x : Int) (hc : w.cell? ⟨b, o, none⟩ = some (.int .i64 x)) :
    Calls Try.prog 45 #[.pointer (some ⟨b, o, none⟩)] w fun e w' => e = .returned (.int .i64 x) ∧ w = w' := by
  have hl := load_run hc
  go_enter Try.func45, Try.ntmps45
  go_wp2
  go_ret
  exact ⟨rfl, rfl⟩

def OwnWaits (N : Nat) (ws : List (Int × List Int)) (w : World) (e : Ending) (w' : World) : Prop := ∃ v', e = .returned v' ∧ w'.ownsRow N 73 65 v' ws.length (W ws) ∧ Below N w w'
theorem W_length : ∀ (ws : List (Int × List Int)), (∀ p ∈ ws, p.2.length = 64) → (W ws).length = ws.length * 65
  | [], _ => rfl
  | p :: ws, h => by
    have hW : W (p :: ws) = (Value.int .i64 p.1 :: U p.2) ++ W ws := by simp [W]
    rw [hW, List.length_append, W_length ws (fun q hq => h q (by simp [hq])), List.length_cons, U_length, h p (by simp)]
    simp
    omega
theorem W_oneCell (ws : List (Int × List Int)) : ∀ u ∈ W ws, u.oneCell' = true := by
  intro u hu
  unfold W at hu
  simp only [List.mem_flatMap] at hu
  obtain ⟨p, _, hu⟩ := hu
  exact one_cells p.1 p.2 u hu

set_option maxHeartbeats 400000 in
theorem clone_waits (B : Nat) (w : World) (v : Value) (ws : List (Int × List Int)) (hown : w.ownsRow B 73 65 v ws.length (W ws)) (hw : ∀ p ∈ ws, p.2.length = 64) (hcap : ws.length ≤ 1000000) :
    Calls Try.prog 43 #[v] w (OwnWaits w.heap.size ws w) := by
  have q62 : ∀ (w : World) (a : Option Addr) (n c n' c' : Nat), (binOp .eql 62 (.slice a n c) (.slice none n' c')).run Try.prog w = .ok (.bool a.isNone) w := fun w a n c n' c' => Lib.run_eql_slice_nil w _ _ a n c n' c' Try.underlying62
  rcases hown.2 with ⟨rfl, h0⟩ | ⟨g, cap, cur, rfl, hbase, hb, h1, h2, h3, h4⟩
  · have hk : ws = [] := List.eq_nil_of_length_eq_zero h0
    subst hk
    clear hown
    go_enter Try.func43, Try.ntmps43
    go_wp2_with fail
    go_ret
    exact ⟨_, rfl, World.ownsRow_nil _ _ _ _, Below.refl _ _⟩
  · have hglt : g < w.heap.size := (Array.getElem?_eq_some_iff.1 hb).1
    have hcell : ∀ j u, (W ws)[j]? = some u → (w.alloc (.cells #[] 73)).cell? ((⟨g, 0, none⟩ : Addr).add j) = some u := by
      intro j u hu
      have := hown.cells (g := g) rfl j u hu
      rw [World.cell?_alloc_lt w _ _ (by rw [block_of_add']; exact hglt)]
      exact this
    have hnew : (w.alloc (.cells #[] 73)).ownsRow w.heap.size 73 65 (.slice (some ⟨w.heap.size, 0, none⟩) 0 0) 0 [] := World.ownsRow_made w #[] 0 (Nat.le_refl _) (Nat.zero_le _) rfl
    have hlen : (W ws).length = ws.length * 65 := W_length ws hw
    have HC := Lib.hid hcell
    have HN := Lib.hid hnew
    have HL := Lib.hid hlen
    obtain ⟨i0, hi, hz0, hz1, hz2⟩ := info_parts winfo
    have HI := Lib.hid (And.intro hi (And.intro hz0 (And.intro hz1 hz2)))
    clear hown hb h3 h4 hcell hnew hlen hi hz0 hz1 hz2 hw
    go_enter Try.func43, Try.ntmps43
    go_wp2_with (at_builtin; go_loud (refine wpList_append_own _ rfl (.tmp 5) (.tmp 6) 62 rfl w.heap.size 73 i0 _ 65 72 (by kernel_rfl) HI.out.1 HI.out.2.1 HI.out.2.2.1 HI.out.2.2.2 rfl (by decide) (.slice (some ⟨w.heap.size, 0, none⟩) 0 0) 0 [] rfl HN.out ⟨g, 0, none⟩ ws.length cap (W ws) rfl HL.out HC.out (W_oneCell ws) (by unfold maxLen; omega) (by omega) (by simp) ?_); intro v' w2 hown2 hgrow _; have Hown := Lib.hid hown2; have Hgrow := Lib.hid hgrow; clear hown2 hgrow)
    go_ret
    exact ⟨_, rfl, by have := Hown.out; simpa using this, ((Below.refl _ _).alloc (Nat.le_refl _) _).grown Hgrow.out (by simp) (by intro k hk; simp [Value.ownBlock] at hk; omega)⟩

/-- A slice of the call's own, of bytes: its cells, its spare ones with them. -/
theorem own_bytes_blk {N : Nat} {w : World} {v : Value} {xs : List Int} (h : w.ownsRow N 5 1 v xs.length (U xs)) (hn : v ≠ .slice none 0 0) : ∃ g cap tl, v = .slice (some ⟨g, 0, none⟩) xs.length cap ∧ N ≤ g ∧ xs.length ≤ cap ∧ Blk w g 5 (U xs ++ tl) := by
  rcases h.2 with ⟨rfl, _⟩ | ⟨g, cap, cur, rfl, hg, hb, hc, _, _, ht⟩
  · exact absurd rfl hn
  · refine ⟨g, cap, cur.toList.drop xs.length, rfl, hg, hc, ?_⟩
    have e : U xs ++ cur.toList.drop xs.length = cur.toList := by rw [← ht, Nat.mul_one]; exact List.take_append_drop _ _
    rw [e]
    simpa [Blk] using hb

theorem laid_cells {B : Nat} {w : World} {D L : Nat} {wv : Value} {s : St} (h : IsDisk B w D L wv s) : ∀ j u, (U s.laid)[j]? = some u → w.cell? ((⟨L, 0, none⟩ : Addr).add j) = some u := by
  intro j u hu
  rw [add_off, Nat.zero_add, h.laid.cell j, List.getElem?_append_left (List.getElem?_eq_some_iff.1 hu).1, hu]

theorem own_form' {w : World} {N : Nat} {e : TypeId} {size n : Nat} {v : Value} {xs : List Value} (h : w.ownsRow N e size v n xs) : ∃ A c, v = .slice A n c := by
  rcases h.2 with ⟨rfl, rfl⟩ | ⟨g, cap, cur, rfl, _⟩
  · exact ⟨_, _, rfl⟩
  · exact ⟨_, _, rfl⟩
theorem ownsRow_base {w : World} {N M : Nat} {e : TypeId} {size n : Nat} {v : Value} {xs : List Value} (h : w.ownsRow N e size v n xs) (hM : M ≤ N) : w.ownsRow M e size v n xs := by
  refine ⟨h.1, ?_⟩
  rcases h.2 with hn | ⟨g, cap, cur, hv, hg, rest⟩
  · exact .inl hn
  · exact .inr ⟨g, cap, cur, hv, by omega, rest⟩
theorem keep_cells {w w' : World} {D : Nat} {x0 x1 x2 x3 x4 : Value} (h : Below w.heap.size w w') (hD : D < w.heap.size) (c0 : w.cell? ⟨D, 0, none⟩ = some x0) (c1 : w.cell? ⟨D, 1, none⟩ = some x1) (c2 : w.cell? ⟨D, 2, none⟩ = some x2) (c3 : w.cell? ⟨D, 3, none⟩ = some x3) (c4 : w.cell? ⟨D, 4, none⟩ = some x4) :
    w'.cell? ⟨D, 0, none⟩ = some x0 ∧ w'.cell? ⟨D, 1, none⟩ = some x1 ∧ w'.cell? ⟨D, 2, none⟩ = some x2 ∧ w'.cell? ⟨D, 3, none⟩ = some x3 ∧ w'.cell? ⟨D, 4, none⟩ = some x4 :=
  ⟨(h.cell (p := ⟨D, 0, none⟩) hD).trans c0, (h.cell (p := ⟨D, 1, none⟩) hD).trans c1, (h.cell (p := ⟨D, 2, none⟩) hD).trans c2, (h.cell (p := ⟨D, 3, none⟩) hD).trans c3, (h.cell (p := ⟨D, 4, none⟩) hD).trans c4⟩
theorem own_kept {B : Nat} {w w1 : World} {D L : Nat} {wv : Value} {s : St} (h : IsDisk B w D L wv s) (hb : Below w.drew.heap.size w.drew w1) : w1.ownsRow B 73 65 wv s.waits.length (W s.waits) :=
  ownsRow_only h.own (Only.of_below (S := []) (w := w) ⟨hb.os, hb.tape, hb.output, hb.size, hb.block⟩) (by simp)

/-- What Copy leaves. -/
def CopyPost (s : St) (w : World) (e : Ending) (w' : World) : Prop := ∃ D L lc tl, e = .returned (.pointer (some ⟨D, 0, none⟩)) ∧ Live w.heap.size D L { s with lc := lc, tl := tl } w' ∧ Below w.heap.size w w'

/-- The new disk, its counts not yet brought over. -/
theorem copy_made {B : Nat} {w w1 w2 : World} {D L gL cL cp2 : Nat} {A2 : Option Addr} {wv : Value} {s : St} {tl : List Value} (hd : IsDisk B w D L wv s) (hgL : w.drew.heap.size ≤ gL) (hle : s.laid.length ≤ cL) (hbL : Blk w1 gL 5 (U s.laid ++ tl)) (h3 : Below w.drew.heap.size w.drew w1)
    (hg1 : w2.ownsRow w1.heap.size 73 65 (.slice A2 s.waits.length cp2) s.waits.length (W s.waits)) (hg2 : Below w1.heap.size w1 w2) :
    IsDisk w.heap.size (w2.alloc (.cells #[.bool s.on, .bool s.armed, .int .i64 s.left, .slice (some ⟨gL, 0, none⟩) s.laid.length cL, .slice A2 s.waits.length cp2, .int .i64 0, .int .i64 0] 69)) w2.heap.size gL (.slice A2 s.waits.length cp2) { s with lc := cL, tl := tl, wr := 0, fl := 0 } ∧
    Below w.heap.size w (w2.alloc (.cells #[.bool s.on, .bool s.armed, .int .i64 s.left, .slice (some ⟨gL, 0, none⟩) s.laid.length cL, .slice A2 s.waits.length cp2, .int .i64 0, .int .i64 0] 69)) ∧
    Blk (w2.alloc (.cells #[.bool s.on, .bool s.armed, .int .i64 s.left, .slice (some ⟨gL, 0, none⟩) s.laid.length cL, .slice A2 s.waits.length cp2, .int .i64 0, .int .i64 0] 69)) D 69 (dk s.on s.armed s.left L s.n s.lc wv s.wr s.fl) ∧ D ≠ w2.heap.size ∧ D < w.heap.size := by
  have hb1 : Below w.heap.size w w1 := ⟨h3.os, h3.tape, h3.output, h3.size, h3.block⟩
  have hb2 : Below w.heap.size w w2 := hb1.trans (hg2.mono hb1.size)
  have hDlt := hd.disk.lt
  have hg := hd.good
  refine ⟨⟨?_, ?_, ?_, hb2.size, hgL, ⟨hg.size, hg.n1, hg.n2, hg.sec, hg.left0, hg.left1, hg.cap, Int.le_refl _, by simp, Int.le_refl _, by simp, by have := hg.size; show 64 * s.n ≤ cL; omega⟩⟩, hb2.alloc hb2.size _, (hd.disk.below hb2 hDlt).alloc _, ?_, hDlt⟩
  · show Blk _ _ _ (dk s.on s.armed s.left gL s.n cL (.slice A2 s.waits.length cp2) 0 0)
    have e : dk s.on s.armed s.left gL s.n cL (.slice A2 s.waits.length cp2) 0 0 = [.bool s.on, .bool s.armed, .int .i64 s.left, .slice (some ⟨gL, 0, none⟩) s.laid.length cL, .slice A2 s.waits.length cp2, .int .i64 0, .int .i64 0] := by rw [hg.size]; rfl
    rw [e]
    exact Blk.new _ _ _
  · exact (hbL.below hg2 hbL.lt).alloc _
  · exact (ownsRow_base hg1 hb1.size).alloc _
  · have := hb2.size; omega

theorem copy_end {w w3 : World} {D L N gL cL cp2 : Nat} {A2 : Option Addr} {wv : Value} {s : St} {tl : List Value}
    (h : IsDisk w.heap.size w3 N gL (.slice A2 s.waits.length cp2) { s with lc := cL, tl := tl, wr := 0, fl := 0 } ∧ Below w.heap.size w w3 ∧ Blk w3 D 69 (dk s.on s.armed s.left L s.n s.lc wv s.wr s.fl) ∧ D ≠ N ∧ D < w.heap.size) (hg : Good s) :
    Live w.heap.size N gL { s with lc := cL, tl := tl } ((w3.setCell ⟨N, 5, none⟩ (.int .i64 s.wr)).setCell ⟨N, 6, none⟩ (.int .i64 s.fl)).drew.drew ∧ Below w.heap.size w ((w3.setCell ⟨N, 5, none⟩ (.int .i64 s.wr)).setCell ⟨N, 6, none⟩ (.int .i64 s.fl)).drew.drew := by
  obtain ⟨hd, hb, _⟩ := h
  have hNL : gL ≠ N := hd.laid.ne_ hd.disk (by decide)
  have ho : Only [N] w3 ((w3.setCell ⟨N, 5, none⟩ (.int .i64 s.wr)).setCell ⟨N, 6, none⟩ (.int .i64 s.fl)) := ((Only.refl _ _).setCell (.inl (by simp)) _).setCell (.inl (by simp)) _
  refine ⟨⟨.slice A2 s.waits.length cp2, (hd.disk.set_ 5 (.int .i64 s.wr)).set_ 6 (.int .i64 s.fl), hd.laid.only ho.drew.drew (by simpa using hNL), ownsRow_only hd.own ho.drew.drew ?_, hd.baseD, hd.baseL, ?_⟩, (hb.trans (ho.below hb.size (by intro k hk; simp at hk; subst hk; exact hd.baseD))).drew.drew⟩
  · intro k hk
    have := own_blk_ne hd.own hd.disk (by decide)
    rw [hk] at this
    simpa using this
  · have h0 := hd.good
    exact ⟨h0.size, h0.n1, h0.n2, h0.sec, h0.left0, h0.left1, h0.cap, hg.wr0, hg.wr1, hg.fl0, hg.fl1, h0.lc0⟩

set_option maxRecDepth 100000 in
set_option maxHeartbeats 2000000 in
theorem copy_any (B : Nat) (w : World) (D L : Nat) (wv : Value) (s : St) (hd : IsDisk B w D L wv s) :
    Calls Try.prog 23 #[.pointer (some ⟨D, 0, none⟩)] w (CopyPost s w) := by
  obtain ⟨c0, c1, c2, c3, c4, c5, c6⟩ := dk_cells hd.disk
  have hDlt : D < w.heap.size := hd.disk.lt
  have HC := Lib.hid (laid_cells hd)
  have HD := Lib.hid hd
  clear hd
  go_enter Try.func23, Try.ntmps23
  go_wp2_with fail
  go_region_held3 (fun w' => w'.cell? ⟨D, 0, none⟩ = some (.bool s.on) ∧ w'.cell? ⟨D, 1, none⟩ = some (.bool s.armed) ∧ w'.cell? ⟨D, 2, none⟩ = some (.int .i64 s.left) ∧ w'.cell? ⟨D, 3, none⟩ = some (.slice (some ⟨L, 0, none⟩) (64 * s.n) s.lc) ∧ w'.cell? ⟨D, 4, none⟩ = some wv) (go_keep)
    (first
      | (go_at_call 37; refine (clone_bytes w.drew ⟨L, 0, none⟩ (64 * s.n) s.lc s.laid HD.out.good.size (by have := HD.out.good.n2; omega) HC.out).mono ?_; rintro e w1 ⟨v1, rfl, h1, h2, h3⟩; obtain ⟨gL, cL, tl, rfl, hgL, hle, hbL⟩ := own_bytes_blk h1 h2; have hk := keep_cells (w := w.drew) h3 hDlt c0 c1 c2 c3 c4; obtain ⟨d0, d1, d2, d3, d4⟩ := hk; have H1 := Lib.hid (And.intro hgL (And.intro hle (And.intro hbL h3))); clear h1 h2 h3 hgL hle hbL)
      | (go_at_call 43; refine (clone_waits B w1 wv s.waits (own_kept HD.out H1.out.2.2.2) (fun p hp => (HD.out.good.sec p hp).2.2) HD.out.good.cap).mono ?_; rintro e w2 ⟨v2, rfl, g1, g2⟩; obtain ⟨A2, cp2, rfl⟩ := own_form' g1; have hk := keep_cells (w := w1) g2 (Nat.lt_of_lt_of_le hDlt H1.out.2.2.2.size) d0 d1 d2 d3 d4; obtain ⟨f0, f1, f2, f3, f4⟩ := hk; have H2 := Lib.hid (And.intro g1 g2); clear g1 g2))
  go_wp2_with fail
  have hcd := copy_made HD.out H1.out.1 H1.out.2.1 H1.out.2.2.1 H1.out.2.2.2 H2.out.1 H2.out.2
  generalize w2.alloc (.cells #[.bool s.on, .bool s.armed, .int .i64 s.left, .slice (some ⟨gL, 0, none⟩) s.laid.length cL, .slice A2 s.waits.length cp2, .int .i64 0, .int .i64 0] 69) = w3 at hcd ⊢
  generalize w2.heap.size = N at hcd ⊢
  have HCD := Lib.hid hcd
  have n5 := (dk_cells hcd.1.disk).2.2.2.2.2.1
  have m5 := hcd.1.disk.frozen 5
  have x5 := (dk_cells hcd.2.2.1).2.2.2.2.2.1
  clear hcd d0 d1 d2 d3 d4 f0 f1 f2 f3 f4 c0 c1 c2 c3 c4 c5 c6 H1 H2
  go_region_law (first | (go_simp; go_at_call 45; refine (atom_load w3.drew D 5 s.wr x5).mono ?_; rintro e w' ⟨rfl, rfl⟩) | (go_simp; go_at_call 44; refine (atom_store w3.drew N 5 0 s.wr n5 m5).mono ?_; rintro e w' ⟨rfl, rfl⟩))
  go_wp2_with fail
  have hd4 : Blk (w3.setCell ⟨N, 5, none⟩ (.int .i64 s.wr)) N 69 (dk s.on s.armed s.left gL s.n cL (.slice A2 s.waits.length cp2) s.wr 0) := HCD.out.1.disk.set_ 5 _
  have ho4 : Blk (w3.setCell ⟨N, 5, none⟩ (.int .i64 s.wr)) D 69 (dk s.on s.armed s.left L s.n s.lc wv s.wr s.fl) := HCD.out.2.2.1.far (p := ⟨N, 5, none⟩) HCD.out.2.2.2.1 _
  have n6 := (dk_cells hd4).2.2.2.2.2.2
  have m6 := hd4.frozen 6
  have x6 := (dk_cells ho4).2.2.2.2.2.2
  clear hd4 ho4 n5 m5 x5
  go_region_law (first | (go_simp; go_at_call 45; refine (atom_load (w3.setCell ⟨N, 5, none⟩ (.int .i64 s.wr)).drew.drew D 6 s.fl x6).mono ?_; rintro e w' ⟨rfl, rfl⟩) | (go_simp; go_at_call 44; refine (atom_store (w3.setCell ⟨N, 5, none⟩ (.int .i64 s.wr)).drew.drew N 6 0 s.fl n6 m6).mono ?_; rintro e w' ⟨rfl, rfl⟩))
  go_wp2_with fail
  go_ret
  exact ⟨N, gL, cL, tl, rfl, copy_end HCD.out HD.out.good⟩

end Go.Proofs.Ythphaidaknkedaa
