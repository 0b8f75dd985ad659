/-
  The methods once more, in the words that the laws need: a disk that lives, and what a step leaves of other memory. Conditions: those of each contract.
-/
import Derived.Test.YthphaidaknkedaaBWrite
import Derived.Test.YthphaidaknkedaaBRead
import Derived.Test.YthphaidaknkedaaBCrash
import Derived.Test.YthphaidaknkedaaBNew
namespace Go.Proofs.Ythphaidaknkedaa
open Go.RowKit

/-- The disk at D, its laid bytes at L, is in state s. -/
def Live (B D L : Nat) (s : St) (w : World) : Prop := ∃ wv, IsDisk B w D L wv s

/-- A step of the disk: below B nothing has turned; a block of another kind, that is not the laid bytes, is as it was. -/
structure Step (B L : Nat) (w w' : World) : Prop where
  below : Below B w w'
  keep : ∀ g t cs, t ≠ 69 → t ≠ 73 → g ≠ L → Blk w g t cs → Blk w' g t cs

theorem Step.refl (B L : Nat) (w : World) : Step B L w w := ⟨Below.refl _ _, fun _ _ _ _ _ _ h => h⟩
theorem Step.trans {B L : Nat} {a b c : World} (h : Step B L a b) (k : Step B L b c) : Step B L a c :=
  ⟨h.below.trans k.below, fun g t cs h1 h2 h3 hb => k.keep g t cs h1 h2 h3 (h.keep g t cs h1 h2 h3 hb)⟩
theorem Step.of_below {B L : Nat} {w w' : World} (hB : B ≤ w.heap.size) (h : Below w.heap.size w w') : Step B L w w' := ⟨h.mono hB, fun _ _ _ _ _ _ hb => hb.below h hb.lt⟩
theorem Step.drewN (B L : Nat) (w : World) (n : Nat) : Step B L w (w.drewN n) := ⟨⟨rfl, rfl, rfl, Nat.le_refl _, fun _ _ => rfl⟩, fun _ _ _ _ _ _ h => h⟩
theorem Step.size {B L : Nat} {w w' : World} (h : Step B L w w') : w.heap.size ≤ w'.heap.size := h.below.size

theorem Live.lt {B D L : Nat} {s : St} {w : World} (h : Live B D L s w) : B ≤ D ∧ B ≤ L ∧ D < w.heap.size ∧ L < w.heap.size := by
  obtain ⟨wv, h⟩ := h
  exact ⟨h.baseD, h.baseL, h.disk.lt, h.laid.lt⟩
theorem Live.good {B D L : Nat} {s : St} {w : World} (h : Live B D L s w) : Good s := h.choose_spec.good
theorem Live.below {B D L : Nat} {s : St} {w w' : World} (h : Live B D L s w) (hb : Below w.heap.size w w') : Live B D L s w' := by
  obtain ⟨wv, h⟩ := h
  exact ⟨wv, h.disk.below hb h.disk.lt, h.laid.below hb h.laid.lt, ownsRow_only h.own (Only.of_below (S := []) hb) (by simp), h.baseD, h.baseL, h.good⟩
theorem Live.drewN {B D L : Nat} {s : St} {w : World} (h : Live B D L s w) (n : Nat) : Live B D L s (w.drewN n) := by
  obtain ⟨wv, h⟩ := h
  exact ⟨wv, h.disk, h.laid, h.own, h.baseD, h.baseL, h.good⟩

theorem DiskPost.step {B D L : Nat} {S : List Nat} {w w' : World} {s s' : St} {wv : Value} (hd : IsDisk B w D L wv s) (h : DiskPost B D L S w s' w') (hB : B ≤ w.heap.size)
    (hS : ∀ k, k ∈ S → k = D ∨ k = L ∨ wv.ownBlock = some k) : Live B D L s' w' ∧ Step B L w w' := by
  obtain ⟨wv', h1, h2⟩ := h
  refine ⟨⟨wv', h1⟩, h2.below hB ?_, fun g t cs hn1 hn2 hL hb => hb.only h2 fun hg => ?_⟩
  · intro k hk
    rcases hS k hk with rfl | rfl | hk
    · exact hd.baseD
    · exact hd.baseL
    · exact (hd.own.lt k hk).1
  · rcases hS g hg with rfl | rfl | hk
    · exact hn1 (hb.same hd.disk).1
    · exact hL rfl
    · exact own_blk_ne hd.own hb (Ne.symm hn2) hk

/-- A slice of bytes in a block of its own, from block N on. -/
def HasBytes (N : Nat) (w : World) (v : Value) (xs : List Int) : Prop := ∃ g cap cs, v = .slice (some ⟨g, 0, none⟩) xs.length cap ∧ N ≤ g ∧ Blk w g 5 cs ∧ cs.take xs.length = U xs
theorem HasBytes.of_own {N : Nat} {w : World} {v : Value} {xs : List Int} (h : w.ownsRow N 5 1 v xs.length (U xs)) (hn : v ≠ .slice none 0 0) : HasBytes N w v xs := by
  rcases h.2 with ⟨rfl, _⟩ | ⟨g, cap, cur, rfl, hg, hb, _, _, _, ht⟩
  · exact absurd rfl hn
  · exact ⟨g, cap, cur.toList, rfl, hg, by simpa [Blk] using hb, by simpa using ht⟩
theorem HasBytes.step {N B L : Nat} {w w' : World} {v : Value} {xs : List Int} (h : HasBytes N w v xs) (hs : Step B L w w') (hL : L < N) : HasBytes N w' v xs := by
  obtain ⟨g, cap, cs, e, hg, hb, ht⟩ := h
  exact ⟨g, cap, cs, e, hg, hs.keep g _ cs (by decide) (by decide) (by omega) hb, ht⟩
theorem HasBytes.more {N M : Nat} {w : World} {v : Value} {xs : List Int} (h : HasBytes N w v xs) (hM : M ≤ N) : HasBytes M w v xs := by
  obtain ⟨g, cap, cs, e, hg, hb, ht⟩ := h
  exact ⟨g, cap, cs, e, by omega, hb, ht⟩
theorem HasBytes.cells {N : Nat} {w : World} {v : Value} {xs : List Int} (h : HasBytes N w v xs) : ∃ g cap, v = .slice (some ⟨g, 0, none⟩) xs.length cap ∧ N ≤ g ∧ ∀ j u, (U xs)[j]? = some u → w.cell? ((⟨g, 0, none⟩ : Addr).add j) = some u := by
  obtain ⟨g, cap, cs, rfl, hg, hb, ht⟩ := h
  refine ⟨g, cap, rfl, hg, fun j u hu => ?_⟩
  rw [add_off, hb.cell, Nat.zero_add]
  rw [← ht, List.getElem?_take] at hu
  split at hu
  · exact hu
  · cases hu

theorem HasBytes.at_ {N : Nat} {w : World} {v : Value} {xs : List Int} (h : HasBytes N w v xs) {n : Nat} (hn : xs.length = n) : ∃ g cap, v = .slice (some ⟨g, 0, none⟩) n cap ∧ N ≤ g := by
  obtain ⟨g, cap, rfl, hg, _⟩ := h.cells
  exact ⟨g, cap, by rw [hn], hg⟩
theorem HasBytes.lt_ {N : Nat} {w : World} {v : Value} {xs : List Int} (h : HasBytes N w v xs) : ∀ g n c, v = .slice (some ⟨g, 0, none⟩) n c → g < w.heap.size := by
  obtain ⟨g, cap, cs, rfl, hg, hb, ht⟩ := h
  intro g' n c e
  cases e
  exact hb.lt
theorem HasBytes.grown {N : Nat} {w w' : World} {v : Value} {xs : List Int} {row : Option Nat} (h : HasBytes N w v xs) (hg : w.grownBy w' row) (hr : ∀ g, v.ownBlock = some g → some g ≠ row) : HasBytes N w' v xs := by
  obtain ⟨g, cap, cs, rfl, hN, hb, ht⟩ := h
  exact ⟨g, cap, cs, rfl, hN, hb.grown hg (hr g rfl), ht⟩
theorem HasBytes.of_blk {N : Nat} {w : World} {g : Nat} {xs : List Int} {n : Nat} (h : Blk w g 5 (U xs)) (hn : xs.length = n) (hN : N ≤ g) : HasBytes N w (.slice (some ⟨g, 0, none⟩) n n) xs :=
  ⟨g, n, U xs, by rw [hn], hN, h, by rw [List.take_of_length_le]; simp [U_length]⟩
theorem own_of_blk {N : Nat} {w : World} {g : Nat} {xs : List Int} {n : Nat} (h : Blk w g 5 (U xs)) (hn : xs.length = n) (hN : N ≤ g) (hm : n ≤ maxLen) : w.ownsRow N 5 1 (.slice (some ⟨g, 0, none⟩) n n) n (U xs) :=
  ⟨by rw [U_length, hn]; omega, .inr ⟨g, n, _, rfl, hN, h, Nat.le_refl _, hm, by simp [U_length, hn], by rw [List.take_of_length_le]; simp [U_length, hn]⟩⟩

theorem new_live (w : World) (n : Nat) (h1 : 1 ≤ n) (h2 : n ≤ 4096) : Calls Try.prog 7 #[.int .i64 n] w fun e w' => e = .returned (.tuple #[.pointer (some ⟨w.heap.size + 1, 0, none⟩), .int .i64 0]) ∧
    Live w.heap.size (w.heap.size + 1) w.heap.size (fresh n) w' ∧ Below w.heap.size w w' :=
  (new_ok w n h1 h2).mono fun _ _ ⟨he, hd, hb⟩ => ⟨he, ⟨_, hd⟩, hb⟩

theorem write_live (B : Nat) (w : World) (D L : Nat) (s : St) (no : Int) (bs : List Int) (A : Option Addr) (m c : Nat) (hd : Live B D L s w) (hB : B ≤ w.heap.size) (hm : bs.length = m)
    (hbs : m = 64 → ∃ ad, A = some ad ∧ ad.block ≠ D ∧ ∀ j u, (U bs)[j]? = some u → w.cell? (ad.add j) = some u) (hcap : s.waits.length < 1000000) (hwr : s.wr < 1000000) :
    Calls Try.prog 12 #[.pointer (some ⟨D, 0, none⟩), .int .i64 no, .slice A m c] w fun e w' => e = .returned (.int .i64 (s.write no bs).1) ∧ Live B D L (s.write no bs).2 w' ∧ Step B L w w' := by
  obtain ⟨wv, hd⟩ := hd
  exact (write_any B w D L wv s no bs A m c hd hB hm hbs hcap hwr).mono fun e w' ⟨he, h⟩ => ⟨he, DiskPost.step hd h hB (by intro k hk; simp at hk; rcases hk with h | h <;> simp [h])⟩

theorem flush_live (B : Nat) (w : World) (D L : Nat) (s : St) (hd : Live B D L s w) (hB : B ≤ w.heap.size) (hfl : s.fl < 1000000) :
    Calls Try.prog 17 #[.pointer (some ⟨D, 0, none⟩)] w fun e w' => e = .returned (.int .i64 s.flush.1) ∧ Live B D L s.flush.2 w' ∧ Step B L w w' := by
  obtain ⟨wv, hd⟩ := hd
  exact (flush_any B w D L wv s hd hfl).mono fun e w' ⟨he, h⟩ => ⟨he, DiskPost.step hd h hB (by intro k hk; simp at hk; rcases hk with h | h <;> simp [h])⟩

theorem crash_live (B : Nat) (w : World) (D L : Nat) (s : St) (A : Option Addr) (m c : Nat) (ks : List Int) (hd : Live B D L s w) (hB : B ≤ w.heap.size) (hm : ks.length = m) (hbig : m ≤ 1000000) (hk : IntsAt w A ks) :
    Calls Try.prog 19 #[.pointer (some ⟨D, 0, none⟩), .slice A m c] w fun e w' => e = .returned (.int .i64 (s.crash ks).1) ∧ Live B D L (s.crash ks).2 w' ∧ Step B L w w' := by
  obtain ⟨wv, hd⟩ := hd
  exact (crash_any B w D L wv s A m c ks hd hm hbig hk).mono fun e w' ⟨he, h⟩ => ⟨he, DiskPost.step hd h hB (by intro k hk; simp at hk; rcases hk with h | h <;> simp [h])⟩

theorem power_live (B : Nat) (w : World) (D L : Nat) (s : St) (hd : Live B D L s w) (hB : B ≤ w.heap.size) :
    Calls Try.prog 21 #[.pointer (some ⟨D, 0, none⟩)] w fun e w' => e = .returned (.tuple #[]) ∧ Live B D L { s with on := true, armed := false, left := 0, waits := [] } w' ∧ Step B L w w' := by
  obtain ⟨wv, hd⟩ := hd
  exact (power_any B w D L wv s hd).mono fun e w' ⟨he, h⟩ => ⟨he, DiskPost.step hd h hB (by intro k hk; simp at hk; simp [hk])⟩

theorem arm_live (B : Nat) (w : World) (D L : Nat) (s : St) (n : Int) (hn : n ≤ 9223372036854775807) (hd : Live B D L s w) (hB : B ≤ w.heap.size) :
    Calls Try.prog 22 #[.pointer (some ⟨D, 0, none⟩), .int .i64 n] w fun e w' => e = .returned (.tuple #[]) ∧ Live B D L { s with armed := decide (0 ≤ n), left := max n 0 } w' ∧ Step B L w w' := by
  obtain ⟨wv, hd⟩ := hd
  exact (arm_disk B w D L wv s n hn hd).mono fun e w' ⟨he, h⟩ => ⟨he, DiskPost.step hd h hB (by intro k hk; simp at hk; simp [hk])⟩

/-- What Read and Laid leave. -/
def GotBytes (B D L : Nat) (s : St) (xs : List Int) (w : World) (v : Value) (w' : World) : Prop := HasBytes w.heap.size w' v xs ∧ Live B D L s w' ∧ Step B L w w'

theorem laid_live (B : Nat) (w : World) (D L : Nat) (s : St) (hd : Live B D L s w) (hB : B ≤ w.heap.size) :
    Calls Try.prog 26 #[.pointer (some ⟨D, 0, none⟩)] w fun e w' => ∃ v, e = .returned v ∧ GotBytes B D L s s.laid w v w' := by
  obtain ⟨wv, hd⟩ := hd
  obtain ⟨c0, c1, c2, c3, c4, c5, c6⟩ := dk_cells hd.disk
  exact (laid_any w D L s.n s.lc s.laid s.tl hd.good.n2 c3 hd.laid hd.good.size).mono fun e w' ⟨v, he, h1, h2, h3⟩ => ⟨v, he, HasBytes.of_own h1 h2, Live.below ⟨wv, hd⟩ h3, Step.of_below hB h3⟩

theorem read_live (B : Nat) (w : World) (D L : Nat) (s : St) (k : Nat) (hd : Live B D L s w) (hB : B ≤ w.heap.size) (hon : s.on = true) (hk : k < s.n) :
    Calls Try.prog 14 #[.pointer (some ⟨D, 0, none⟩), .int .i64 k] w fun e w' => ∃ v, e = .returned (.tuple #[v, .int .i64 0]) ∧ GotBytes B D L s (seen s k) w v w' := by
  obtain ⟨wv, hd⟩ := hd
  exact (read_ok B w D L wv s k hd hon hk).mono fun e w' ⟨v, he, h1, h2, h3⟩ => ⟨v, he, HasBytes.of_own h1 h2, Live.below ⟨wv, hd⟩ h3, Step.of_below hB h3⟩

end Go.Proofs.Ythphaidaknkedaa
