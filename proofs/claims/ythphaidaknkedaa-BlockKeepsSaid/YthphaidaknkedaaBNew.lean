/-
  New, Power, Arm: what each does. Conditions: the disk is held (Power, Arm).
-/
import Derived.Test.YthphaidaknkedaaBMore
namespace Go.Proofs.Ythphaidaknkedaa
open Go.RowKit

/-- A new disk of n sectors. -/
def fresh (n : Nat) : St := { on := true, armed := false, left := 0, n := n, lc := 64 * n, laid := List.replicate (64 * n) 0, tl := [], waits := [], wr := 0, fl := 0 }
theorem fresh_good {n : Nat} (h1 : 1 ≤ n) (h2 : n ≤ 4096) : Good (fresh n) :=
  ⟨by simp [fresh], h1, h2, by intro p hp; simp [fresh] at hp, Int.le_refl _, by simp [fresh], by simp [fresh], Int.le_refl _, by simp [fresh], Int.le_refl _, by simp [fresh], Nat.le_refl _⟩

theorem new_arg (w : World) (n : Int) (h : ¬ (1 ≤ n ∧ n ≤ 4096)) : Calls Try.prog 7 #[.int .i64 n] w fun e w' => e = .returned (.tuple #[.pointer none, .int .i64 1]) ∧ w = w' := by
  by_cases h1 : n < 1
  · go_enter Try.func7, Try.ntmps7
    go_wp2_with fail
    go_ret2
    exact ⟨rfl, rfl⟩
  · have h2 : decide (n < 1) = false := decide_eq_false h1
    have h3 : 4096 < n := by omega
    clear h
    go_enter Try.func7, Try.ntmps7
    go_wp2_with fail
    go_ret2
    exact ⟨rfl, rfl⟩

theorem byte_info : (Try.prog.info? 5).map (fun i => (i.zero, i.size, i.bytes)) = some (some (.int .u8 0), 1, 1) := by kernel_rfl
theorem made_bytes (n : Nat) : madeCells #[.int .u8 0] n = (U (List.replicate n 0)).toArray := by
  apply Array.toList_inj.1
  rw [toList_madeCells_one]
  simp [U]
theorem make_bytes (w : World) (n : Int) (h0 : 0 ≤ n) (h1 : n ≤ 1000000) : (Instr.makeSlice 31 (.int .i64 n) (.int .i64 n)).run Try.prog w = .ok (.slice (some ⟨w.heap.size, 0, none⟩) n.toNat n.toNat) (w.alloc (.cells (U (List.replicate n.toNat 0)).toArray 5)) := by
  obtain ⟨i0, hi, hz0, hz1, hz2⟩ := info_parts byte_info
  have := run_make (P := Try.prog) w 31 5 i0 (.int .u8 0) (by kernel_rfl) hi hz0 .i64 .i64 n n h0 (Int.le_refl _) (by rw [hz2]; omega) (by omega)
  rw [this, hz1, Nat.mul_one, ← made_bytes]
  rfl

/-- What New leaves. -/
def NewPost (n : Nat) (w : World) (e : Ending) (w' : World) : Prop := e = .returned (.tuple #[.pointer (some ⟨w.heap.size + 1, 0, none⟩), .int .i64 0]) ∧ IsDisk w.heap.size w' (w.heap.size + 1) w.heap.size (.slice none 0 0) (fresh n) ∧ Below w.heap.size w w'

theorem new_end {n : Nat} {w w1 : World} (h1 : 1 ≤ n) (h2 : n ≤ 4096) (hd1 : Blk w1 (w.heap.size + 1) 69 (dk false false 0 w.heap.size n (64 * n) (.slice none 0 0) 0 0)) (hl1 : Blk w1 w.heap.size 5 (U (List.replicate (64 * n) 0))) (hb1 : Below w.heap.size w w1) :
    IsDisk w.heap.size (((w1.setCell ⟨w.heap.size + 1, 0, none⟩ (.bool true)).setCell ⟨w.heap.size + 1, 1, none⟩ (.bool false)).setCell ⟨w.heap.size + 1, 2, none⟩ (.int .i64 0)) (w.heap.size + 1) w.heap.size (.slice none 0 0) (fresh n) ∧
    Below w.heap.size w (((w1.setCell ⟨w.heap.size + 1, 0, none⟩ (.bool true)).setCell ⟨w.heap.size + 1, 1, none⟩ (.bool false)).setCell ⟨w.heap.size + 1, 2, none⟩ (.int .i64 0)) := by
  refine ⟨⟨((hd1.set_ 0 _).set_ 1 _).set_ 2 _, ?_, World.ownsRow_nil _ _ _ _, by omega, Nat.le_refl _, fresh_good h1 h2⟩, ?_⟩
  · rw [show (fresh n).tl = [] from rfl, List.append_nil]
    exact ((hl1.far (p := ⟨w.heap.size + 1, 0, none⟩) (by simp) _).far (p := ⟨w.heap.size + 1, 1, none⟩) (by simp) _).far (p := ⟨w.heap.size + 1, 2, none⟩) (by simp) _
  · exact ((hb1.setCell (p := ⟨w.heap.size + 1, 0, none⟩) (by simp) _).setCell (p := ⟨w.heap.size + 1, 1, none⟩) (by simp) _).setCell (p := ⟨w.heap.size + 1, 2, none⟩) (by simp) _

theorem power_end {B : Nat} {w : World} {D L : Nat} {wv : Value} {s : St} (hd : IsDisk B w D L wv s) (h1 : Blk (w.setCell ⟨D, 4, none⟩ (.slice none 0 0)) D 69 (dk s.on s.armed s.left L s.n s.lc (.slice none 0 0) s.wr s.fl)) :
    DiskPost B D L [D] w { s with on := true, armed := false, left := 0, waits := [] } ((((w.setCell ⟨D, 4, none⟩ (.slice none 0 0)).setCell ⟨D, 0, none⟩ (.bool true)).setCell ⟨D, 1, none⟩ (.bool false)).setCell ⟨D, 2, none⟩ (.int .i64 0)) := by
  have hDL : L ≠ D := hd.laid.ne_ hd.disk (by decide)
  refine ⟨.slice none 0 0, ⟨((h1.set_ 0 _).set_ 1 _).set_ 2 _, ?_, World.ownsRow_nil _ _ _ _, hd.baseD, hd.baseL, ?_⟩, ?_⟩
  · exact (((hd.laid.far (p := ⟨D, 4, none⟩) hDL _).far (p := ⟨D, 0, none⟩) hDL _).far (p := ⟨D, 1, none⟩) hDL _).far (p := ⟨D, 2, none⟩) hDL _
  · have hg := hd.good
    exact ⟨hg.size, hg.n1, hg.n2, by intro p hp; simp at hp, Int.le_refl _, by simp, by simp, hg.wr0, hg.wr1, hg.fl0, hg.fl1, hg.lc0⟩
  · exact ((((Only.refl [D] w).setCell (.inl (by simp)) _).setCell (.inl (by simp)) _).setCell (.inl (by simp)) _).setCell (.inl (by simp)) _

theorem arm_end {B : Nat} {w : World} {D L : Nat} {wv : Value} {s : St} {n : Int} (hn : n ≤ 9223372036854775807) (hd : IsDisk B w D L wv s) :
    DiskPost B D L [D] w { s with armed := decide (0 ≤ n), left := max n 0 } ((w.setCell ⟨D, 1, none⟩ (.bool (decide (0 ≤ n)))).setCell ⟨D, 2, none⟩ (.int .i64 (max n 0))) := by
  have hDL : L ≠ D := hd.laid.ne_ hd.disk (by decide)
  have ho : Only [D] w ((w.setCell ⟨D, 1, none⟩ (.bool (decide (0 ≤ n)))).setCell ⟨D, 2, none⟩ (.int .i64 (max n 0))) := ((Only.refl [D] w).setCell (.inl (by simp)) _).setCell (.inl (by simp)) _
  refine ⟨wv, ⟨(hd.disk.set_ 1 _).set_ 2 _, hd.laid.only ho (by simpa using hDL), ownsRow_only hd.own ho ?_, hd.baseD, hd.baseL, ?_⟩, ho⟩
  · intro k hk
    have := own_blk_ne hd.own hd.disk (by decide)
    rw [hk] at this
    simpa using this
  · have hg := hd.good
    exact ⟨hg.size, hg.n1, hg.n2, hg.sec, by show 0 ≤ max n 0; omega, by show max n 0 ≤ 9223372036854775807; omega, hg.cap, hg.wr0, hg.wr1, hg.fl0, hg.fl1, hg.lc0⟩

theorem new_ok (w : World) (n : Nat) (h1 : 1 ≤ n) (h2 : n ≤ 4096) : Calls Try.prog 7 #[.int .i64 n] w (NewPost n w) := by
  have hmk := make_bytes w ((n : Int) * 64) (by omega) (by omega)
  have hd : decide ((n : Int) < 1) = false := decide_eq_false (by omega)
  have hd' : decide ((4096 : Int) < n) = false := decide_eq_false (by omega)
  go_enter Try.func7, Try.ntmps7
  go_wp2_with fail
  have hd1 : Blk ((w.alloc (.cells (U (List.replicate (n * 64) 0)).toArray 5)).alloc (.cells #[.bool false, .bool false, .int .i64 0, .slice (some ⟨w.heap.size, 0, none⟩) (n * 64) (n * 64), .slice none 0 0, .int .i64 0, .int .i64 0] 69)) (w.heap.size + 1) 69
      (dk false false 0 w.heap.size n (64 * n) (.slice none 0 0) 0 0) := by
    rw [show dk false false 0 w.heap.size n (64 * n) (.slice none 0 0) 0 0 = [.bool false, .bool false, .int .i64 0, .slice (some ⟨w.heap.size, 0, none⟩) (n * 64) (n * 64), .slice none 0 0, .int .i64 0, .int .i64 0] from by simp [dk, Nat.mul_comm]]
    exact heap_alloc2_new w _ _
  have hl1 : Blk ((w.alloc (.cells (U (List.replicate (n * 64) 0)).toArray 5)).alloc (.cells #[.bool false, .bool false, .int .i64 0, .slice (some ⟨w.heap.size, 0, none⟩) (n * 64) (n * 64), .slice none 0 0, .int .i64 0, .int .i64 0] 69)) w.heap.size 5
      (U (List.replicate (64 * n) 0)) := by
    rw [Nat.mul_comm 64 n]
    exact (Blk.new w _ _).alloc _
  have hb1 : Below w.heap.size w ((w.alloc (.cells (U (List.replicate (n * 64) 0)).toArray 5)).alloc (.cells #[.bool false, .bool false, .int .i64 0, .slice (some ⟨w.heap.size, 0, none⟩) (n * 64) (n * 64), .slice none 0 0, .int .i64 0, .int .i64 0] 69)) :=
    ((Below.refl _ w).alloc (Nat.le_refl _) _).alloc (by simp) _
  obtain ⟨c0, c1, c2, c3, c4, c5, c6⟩ := dk_cells hd1
  refine (restore_any _ (w.heap.size + 1) false false 0 c0 c1 c2 (hd1.frozen 0) (hd1.frozen 1) (hd1.frozen 2)).mono ?_
  rintro e w' ⟨rfl, hw⟩
  have H0 := new_end h1 h2 hd1 hl1 hb1
  rw [hw] at H0
  have H := Lib.hid H0
  clear H0 hw hd1 hl1 hb1 c0 c1 c2 c3 c4 c5 c6 hmk
  go_wp2_with fail
  go_ret2
  exact ⟨rfl, H.out⟩

theorem power_any (B : Nat) (w : World) (D L : Nat) (wv : Value) (s : St) (hd : IsDisk B w D L wv s) :
    Calls Try.prog 21 #[.pointer (some ⟨D, 0, none⟩)] w fun e w' => e = .returned (.tuple #[]) ∧ DiskPost B D L [D] w { s with on := true, armed := false, left := 0, waits := [] } w' := by
  have hdisk := hd.disk
  obtain ⟨c0, c1, c2, c3, c4, c5, c6⟩ := dk_cells hdisk
  have f4 := hdisk.frozen 4
  have hd1 : Blk (w.setCell ⟨D, 4, none⟩ (.slice none 0 0)) D 69 (dk s.on s.armed s.left L s.n s.lc (.slice none 0 0) s.wr s.fl) := hdisk.set_ 4 _
  obtain ⟨d0, d1, d2, d3, d4, d5, d6⟩ := dk_cells hd1
  have f0 := hd1.frozen 0
  have f1 := hd1.frozen 1
  have f2 := hd1.frozen 2
  have HD := Lib.hid hd
  have H1 := Lib.hid hd1
  clear hd hdisk hd1
  go_enter Try.func21, Try.ntmps21
  go_wp2_with (go_at_call 31; refine (restore_any _ D _ _ _ d0 d1 d2 f0 f1 f2).mono ?_; rintro e w' ⟨rfl, rfl⟩)
  go_end0
  exact ⟨rfl, power_end HD.out H1.out⟩

theorem arm_disk (B : Nat) (w : World) (D L : Nat) (wv : Value) (s : St) (n : Int) (hn : n ≤ 9223372036854775807) (hd : IsDisk B w D L wv s) :
    Calls Try.prog 22 #[.pointer (some ⟨D, 0, none⟩), .int .i64 n] w fun e w' => e = .returned (.tuple #[]) ∧ DiskPost B D L [D] w { s with armed := decide (0 ≤ n), left := max n 0 } w' := by
  have hdisk := hd.disk
  obtain ⟨c0, c1, c2, c3, c4, c5, c6⟩ := dk_cells hdisk
  have f1 := hdisk.frozen 1
  have f2 := hdisk.frozen 2
  have HD := Lib.hid hd
  have HN := Lib.hid hn
  clear hd hdisk hn
  go_enter Try.func22, Try.ntmps22
  go_wp2_with (go_at_call 42; refine (arm_any _ D _ _ n c1 c2 f1 f2).mono ?_; rintro e w' ⟨rfl, rfl⟩)
  go_end0
  exact ⟨rfl, arm_end HN.out HD.out⟩

end Go.Proofs.Ythphaidaknkedaa
