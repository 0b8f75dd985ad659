/-
  BlockLast's walk: what is read of a sector is what was written last. Conditions: the calls lie at their slice's address.
-/
import Derived.Test.YthphaidaknkedaaBSit
import Derived.Test.YthphaidaknkedaaBKnown
import Derived.PlainAid
namespace Go.Proofs.Ythphaidaknkedaa
open Go.RowKit

theorem new_eight (w : World) : Calls Try.prog 7 #[.int .i64 8] w fun e w' => ∃ D L, e = .returned (.tuple #[.pointer (some ⟨D, 0, none⟩), .int .i64 0]) ∧ Live w.heap.size D L (fresh 8) w' ∧ Below w.heap.size w w' :=
  (new_live w 8 (by omega) (by omega)).mono fun _ _ ⟨he, h⟩ => ⟨_, _, he, h⟩

def nils : List Value := List.replicate 8 (.slice none 0 0)
theorem make_nils (w : World) : (Instr.makeSlice 55 (.int .i64 8) (.int .i64 8)).run Try.prog w = .ok (.slice (some ⟨w.heap.size, 0, none⟩) 8 8) (w.alloc (.cells nils.toArray 31)) := by kernel_rfl

/-- What holds at the head of the first loop. -/
structure LoopOne (B M D L G : Nat) (W : World) (i f : Nat) (kv : Value) (s : St) (lasts : Nat → List Int) (wr : World) : Prop where
  live : Live B D L s wr
  on : s.on = true
  armed : s.armed = false
  n : s.n = 8
  wr_ : s.wr = i
  fl : s.fl ≤ f
  waits : s.waits.length ≤ i
  keep : wr.ownsRow M 3 1 kv s.waits.length ((upTo s.waits.length).map (Value.int .i64))
  mem : LastsAt M G 8 lasts wr
  sees : ∀ j, j < 8 → seen s j = full (lasts j)
  below : Below B W wr
  lens : ∀ j, (lasts j).length ≤ 64

theorem no_eight (n : Int) : ∃ k : Nat, k < 8 ∧ wrap64 ((IntKind.u64.wrap n).tmod 8) = (k : Int) := by
  have h0 : 0 ≤ IntKind.u64.wrap n := by rw [IntKind.wrap_u64]; omega
  rw [Int.tmod_eq_emod_of_nonneg h0]
  refine ⟨(IntKind.u64.wrap n % 8).toNat, by omega, ?_⟩
  rw [IntWalk.wrap64_in _ ⟨by omega, by omega⟩]
  omega
theorem full_of {ys : List Int} (h : ys.length = 64) : full ys = ys := by
  unfold full
  rw [List.take_of_length_le (by omega), show 64 - ys.length = 0 by omega]
  simp
theorem own_form {w : World} {N : Nat} {e : TypeId} {size n : Nat} {v : Value} {xs : List Value} (h : w.ownsRow N e size v n xs) : ∃ A c, v = .slice A n c := by
  rcases h.2 with ⟨rfl, rfl⟩ | ⟨g, cap, cur, rfl, _⟩
  · exact ⟨_, _, rfl⟩
  · exact ⟨_, _, rfl⟩
set_option maxRecDepth 100000 in
theorem loop_start {W w1 : World} {D L : Nat} (hl : Live W.heap.size D L (fresh 8) w1) (hb : Below W.heap.size W w1) :
    LoopOne W.heap.size w1.heap.size D L w1.heap.size W 0 0 (.slice none 0 0) (fresh 8) (fun _ => []) (w1.alloc (.cells nils.toArray 31)) := by
  have hbel : Below w1.heap.size w1 (w1.alloc (.cells nils.toArray 31)) := (Below.refl _ _).alloc (Nat.le_refl _) _
  refine ⟨hl.below hbel, rfl, rfl, rfl, rfl, Int.le_refl _, Nat.le_refl _, World.ownsRow_nil _ _ _ _, ⟨nils, Blk.new _ _ _, rfl, fun j hj => ⟨.slice none 0 0, ?_, .inl ⟨rfl, rfl⟩⟩⟩, ?_, hb.trans (hbel.mono hb.size), fun _ => Nat.zero_le _⟩
  · rw [nils, List.getElem?_replicate, if_pos hj]
  · intro j hj
    show ((List.replicate (64 * 8) (0 : Int)).drop (64 * j)).take 64 = _
    rw [List.drop_replicate, List.take_replicate, show min 64 (64 * 8 - 64 * j) = 64 by omega]
    rfl

theorem flush_mid {B M D L G i : Nat} {W wr w' : World} {kv : Value} {s : St} {lasts : Nat → List Int} (h : LoopOne B M D L G W i i kv s lasts wr) (hL : L < M) (hG : G ≠ L) (hl : Live B D L s.flush.2 w') (hs : Step B L wr w') :
    s.flush.1 = 0 ∧ LoopOne B M D L G W i (i + 1) (.slice none 0 0) s.flush.2 lasts w' := by
  have e : s.flush = (0, { s with left := nextLeft s.armed s.left, laid := layAll s.laid s.waits, waits := [], fl := s.fl + 1 }) := by
    unfold St.flush
    rw [if_neg (by rw [h.on]; simp), if_neg (by rw [h.armed]; simp)]
  rw [e] at hl ⊢
  refine ⟨rfl, hl, h.on, h.armed, h.n, h.wr_, by have := h.fl; show s.fl + 1 ≤ ((i + 1 : Nat) : Int); omega, Nat.zero_le _, World.ownsRow_nil _ _ _ _, h.mem.step hs hL hG, fun j hj => ?_, h.below.trans hs.below, h.lens⟩
  rw [← h.sees j hj]
  exact seen_laid h.live.good (by rw [h.n]; exact hj) hl.good rfl rfl rfl

theorem flush_zero {B M D L G i : Nat} {W wr : World} {kv : Value} {s : St} {lasts : Nat → List Int} (h : LoopOne B M D L G W i i kv s lasts wr) : s.flush.2.waits.length = 0 := by
  unfold St.flush
  rw [if_neg (by rw [h.on]; simp), if_neg (by rw [h.armed]; simp)]
  rfl

theorem write_eq {B M D L G i f : Nat} {W wr : World} {kv : Value} {s : St} {lasts : Nat → List Int} (h : LoopOne B M D L G W i f kv s lasts wr) {k : Nat} (hk : k < 8) (xs : List Int) :
    s.write k (full xs) = (0, { s with left := nextLeft s.armed s.left, waits := s.waits ++ [((k : Int), full xs)], wr := s.wr + 1 }) := by
  unfold St.write
  rw [if_neg (by rw [h.on]; simp), if_neg (by rw [h.n, full_length]; omega), if_neg (by rw [h.armed]; simp)]

theorem HasBytes.only {N : Nat} {w w' : World} {v : Value} {xs : List Int} {S : List Nat} (h : HasBytes N w v xs) (ho : Only S w w') (hS : ∀ k, k ∈ S → ∀ t cs, Blk w k t cs → t ≠ 5) : HasBytes N w' v xs := by
  obtain ⟨g, cap, cs, e, hg, hb, ht⟩ := h
  exact ⟨g, cap, cs, e, hg, hb.only ho (fun hs => hS g hs _ _ hb rfl), ht⟩
theorem LastsAt.only {M G n : Nat} {lasts : Nat → List Int} {w w' : World} {S : List Nat} (h : LastsAt M G n lasts w) (ho : Only S w w') (hS : ∀ k, k ∈ S → ∀ t cs, Blk w k t cs → t ≠ 5 ∧ t ≠ 31) : LastsAt M G n lasts w' := by
  obtain ⟨cs, hb, hl, hc⟩ := h
  refine ⟨cs, hb.only ho (fun hs => (hS G hs _ _ hb).2 rfl), hl, fun j hj => ?_⟩
  obtain ⟨v, hv, h | h⟩ := hc j hj
  · exact ⟨v, hv, .inl h⟩
  · exact ⟨v, hv, .inr (h.only ho fun k hk t cs hb => (hS k hk t cs hb).1)⟩

theorem round_end {B M D L G i f : Nat} {W wr w4 w6 : World} {kv kv' v : Value} {s : St} {lasts : Nat → List Int} {k : Nat} {xs : List Int} {X : Obj} (h : LoopOne B M D L G W i f kv s lasts wr) (hf : f ≤ i + 1) (hk : k < 8) (hL : L < M) (hG : G ≠ L) (hBM : B ≤ M) (hBG : B ≤ G)
    (hMw : M ≤ w4.heap.size) (hl : Live B D L { s with left := nextLeft s.armed s.left, waits := s.waits ++ [((k : Int), full xs)], wr := s.wr + 1 } w4) (hs : Step B L wr w4) (hv : HasBytes M w4 v (full xs))
    (hgrow : ((w4.setCell ⟨G, k, none⟩ v).alloc X).grownBy w6 kv.ownBlock) (hown : w6.ownsRow M 3 1 kv' (s.waits.length + 1) ((upTo s.waits.length).map (Value.int .i64) ++ [.int .i64 s.waits.length])) :
    LoopOne B M D L G W (i + 1) (i + 1) kv' { s with left := nextLeft s.armed s.left, waits := s.waits ++ [((k : Int), full xs)], wr := s.wr + 1 } (fun j => if j = k then full xs else lasts j) w6 := by
  have hm4 := h.mem.step hs hL hG
  have hm5 := hm4.set_ hk hv
  have hk4 := ownsRow_step h.keep hs (by decide) (by decide) hL
  obtain ⟨gcs, hgb, _⟩ := hm4
  have ho5 : Only [G] w4 ((w4.setCell ⟨G, k, none⟩ v).alloc X) := ((Only.refl _ _).setCell (.inl (by simp)) _).alloc X
  have hl5 : Live B D L _ ((w4.setCell ⟨G, k, none⟩ v).alloc X) := hl.only ho5 (by
    intro q hq t cs hb
    simp at hq
    subst hq
    obtain ⟨rfl, _⟩ := hb.same hgb
    exact ⟨by decide, by decide, hG⟩)
  have hk5 : ((w4.setCell ⟨G, k, none⟩ v).alloc X).ownsRow M 3 1 kv s.waits.length _ := ownsRow_only hk4 ho5 (fun q hq => by
    have := own_blk_ne hk4 hgb (by decide)
    rw [hq] at this
    simpa using this)
  have hm5' : LastsAt M G 8 (fun j => if j = k then full xs else lasts j) ((w4.setCell ⟨G, k, none⟩ v).alloc X) := hm5.only ((Only.refl [] _).alloc X) (by simp)
  have ho6 : Only kv.ownBlock.toList ((w4.setCell ⟨G, k, none⟩ v).alloc X) w6 := (Only.refl _ _).grown hgrow (fun q hq => .inl (by simp [hq]))
  have hrow : ∀ q, q ∈ kv.ownBlock.toList → M ≤ q ∧ ∀ t cs, Blk ((w4.setCell ⟨G, k, none⟩ v).alloc X) q t cs → t = 3 := by
    intro q hq
    have hq' : kv.ownBlock = some q := by simpa using hq
    refine ⟨(hk5.lt q hq').1, fun t cs hb => ?_⟩
    rcases Nat.decEq t 3 with hne | he
    · exact absurd hq' (own_blk_ne hk5 hb (fun e => hne e.symm))
    · exact he
  have hg := hl.good
  refine ⟨hl5.only ho6 ?_, h.on, h.armed, h.n, ?_, ?_, ?_, ?_, hm5'.only ho6 ?_, ?_, ?_, fun j => ?_⟩
  · intro q hq t cs hb
    obtain ⟨h1, h2⟩ := hrow q hq
    rw [h2 t cs hb]
    exact ⟨by decide, by decide, by omega⟩
  · have := h.wr_
    show s.wr + 1 = ((i + 1 : Nat) : Int)
    omega
  · have := h.fl
    show s.fl ≤ ((i + 1 : Nat) : Int)
    omega
  · have := h.waits
    simp
    omega
  · rw [List.length_append, List.length_singleton, upTo_succ, List.map_append]
    exact hown
  · intro q hq t cs hb
    rw [(hrow q hq).2 t cs hb]
    exact ⟨by decide, by decide⟩
  · intro j hj
    rw [seen_write (s := s) (no := k) (bs := full xs) h.live.good (by rw [h.n]; exact hk) (full_length _) (by rw [h.n]; exact hj) hg rfl rfl rfl]
    by_cases hjk : j = k
    · rw [if_pos hjk, if_pos hjk, full_of (full_length xs)]
    · rw [if_neg hjk, if_neg hjk]
      exact h.sees j hj
  · exact h.below.trans (hs.below.trans ((ho5.below (Nat.le_trans hBM hMw) (by simpa using hBG)).trans (ho6.below (by have := ho5.size; omega) (fun q hq => by have := (hrow q hq).1; omega))))
  · show (if j = k then full xs else lasts j).length ≤ 64
    split
    · rw [full_length]; omega
    · exact h.lens j

/-- What holds at the heads of the second loop and of the loop in it. -/
structure LoopTwo (B M D L G : Nat) (W : World) (t m : Nat) (kv : Value) (s : St) (lasts : Nat → List Int) (wr : World) : Prop where
  live : Live B D L s wr
  on : s.on = true
  n : s.n = 8
  mem : LastsAt M G 8 lasts wr
  sees : ∀ j, j < 8 → seen s j = full (lasts j)
  below : Below B W wr
  lens : ∀ j, (lasts j).length ≤ 64
  keep : t = 0 → s.waits.length = m ∧ wr.ownsRow M 3 1 kv m ((upTo m).map (Value.int .i64))
  rest : 0 < t → s.waits = []
theorem LoopTwo.start {B M D L G i f : Nat} {W wr : World} {kv : Value} {s : St} {lasts : Nat → List Int} (h : LoopOne B M D L G W i f kv s lasts wr) : LoopTwo B M D L G W 0 s.waits.length kv s lasts wr :=
  ⟨h.live, h.on, h.n, h.mem, h.sees, h.below, h.lens, fun _ => ⟨rfl, h.keep⟩, fun h0 => absurd h0 (by omega)⟩
theorem LoopTwo.step {B M D L G t m : Nat} {W wr w' : World} {kv : Value} {s : St} {lasts : Nat → List Int} (h : LoopTwo B M D L G W t m kv s lasts wr) (hl : Live B D L s w') (hs : Step B L wr w') (hL : L < M) (hG : G ≠ L) : LoopTwo B M D L G W t m kv s lasts w' :=
  ⟨hl, h.on, h.n, h.mem.step hs hL hG, h.sees, h.below.trans hs.below, h.lens, fun ht => ⟨(h.keep ht).1, ownsRow_step (h.keep ht).2 hs (by decide) (by decide) hL⟩, h.rest⟩
/-- Behind the crash that keeps all (or none at all), and the power: the next turn. -/
theorem LoopTwo.next {B M D L G t m : Nat} {W wr w' : World} {kv : Value} {s s' : St} {lasts : Nat → List Int} (h : LoopTwo B M D L G W t m kv s lasts wr) (hl : Live B D L s' w') (hs : Step B L wr w') (hL : L < M) (hG : G ≠ L)
    (hon : s'.on = true) (hn : s'.n = 8) (hw : s'.waits = []) (hsee : ∀ j, j < 8 → seen s' j = seen s j) : LoopTwo B M D L G W (t + 1) m kv s' lasts w' :=
  ⟨hl, hon, hn, h.mem.step hs hL hG, fun j hj => (hsee j hj).trans (h.sees j hj), h.below.trans hs.below, h.lens, fun ht => by omega, fun _ => hw⟩
theorem two_last {B M D L G m : Nat} {W wr w' : World} {kv : Value} {s : St} {lasts : Nat → List Int} (h : LoopTwo B M D L G W 1 m kv s lasts wr) (hl : Live B D L { s with on := true, armed := false, left := 0, waits := [] } w') (hs : Step B L wr w') (hL : L < M) (hG : G ≠ L) :
    LoopTwo B M D L G W 2 m kv { s with on := true, armed := false, left := 0, waits := [] } lasts w' :=
  h.next hl hs hL hG rfl h.n rfl fun j _ => by
    unfold seen
    rw [h.rest (by omega)]
theorem ints_of_own {N : Nat} {w : World} {v : Value} {A : Option Addr} {n c : Nat} {ks : List Int} (h : w.ownsRow N 3 1 v n (ks.map (Value.int .i64))) (hv : v = .slice A n c) : IntsAt w A ks := by
  intro j x hj
  rcases h.2 with ⟨rfl, h0⟩ | ⟨g, cap, cur, rfl, _⟩
  · have := h.1
    simp at this
    have := (List.getElem?_eq_some_iff.1 hj).1
    omega
  · cases hv
    refine ⟨g, 0, rfl, ?_⟩
    have := h.cells (g := g) rfl j (.int .i64 x) (by rw [List.getElem?_map, hj]; rfl)
    rwa [add_off] at this
theorem crash_all {B M D L G t m : Nat} {W wr : World} {kv : Value} {s : St} {lasts : Nat → List Int} (h : LoopTwo B M D L G W t m kv s lasts wr) (ht : t = 0) : s.crash (upTo m) = (((m : Nat) : Int), { s with on := false, laid := layAll s.laid s.waits, waits := [] }) := by
  obtain ⟨rfl, _⟩ := h.keep ht
  unfold St.crash
  rw [kept_all]

theorem int_info : (Try.prog.info? 3).map (fun i => (i.zero, i.size, i.bytes)) = some (some (.int .i64 0), 1, 8) := by kernel_rfl
theorem one_new (w : World) (t : TypeId) (x : Value) : ∀ j u, ([x] : List Value)[j]? = some u → (w.alloc (.cells #[x] t)).cell? ((⟨w.heap.size, 0, none⟩ : Addr).add j) = some u := fun j u hu => new_cells w [x] t j u hu
theorem one_new_set (w : World) (p : Addr) (v : Value) (t : TypeId) (x : Value) : ∀ j u, ([x] : List Value)[j]? = some u → ((w.setCell p v).alloc (.cells #[x] t)).cell? ((⟨w.heap.size, 0, none⟩ : Addr).add j) = some u := by
  have e : (w.setCell p v).heap.size = w.heap.size := by simp [World.setCell]
  have := one_new (w.setCell p v) t x
  rwa [e] at this
theorem one_int (n : Int) : ∀ u ∈ ([.int .i64 n] : List Value), u.oneCell' = true := by
  intro u hu
  simp only [List.mem_singleton] at hu
  subst hu
  rfl
theorem LastsAt.lt_ {M G n : Nat} {lasts : Nat → List Int} {w : World} (h : LastsAt M G n lasts w) : G ≤ w.heap.size := by
  obtain ⟨cs, hb, _⟩ := h
  exact Nat.le_of_lt hb.lt
theorem acts_again {N : Nat} {w w' : World} {b o : Nat} {l : List GoAct} {a : GoAct} {i : Nat} (h : ActsAt N w (some ⟨b, o, none⟩) l) (ha : l[i]? = some a) (hb : Below N w w') :
    w'.cell? ⟨b, o + i * 4, none⟩ = some (.int .i64 a.kind) ∧ w'.cell? ⟨b, o + i * 4 + 1, none⟩ = some (.int .i64 a.no) ∧ w'.cell? ⟨b, o + i * 4 + 2, none⟩ = some (.slice a.bA a.bn a.bc) ∧
    w'.cell? ⟨b, o + i * 4 + 3, none⟩ = some (.slice a.kA a.kn a.kc) ∧ BytesAt w' a.bA a.bs := by
  obtain ⟨b', o', e, _, c0, c1, c2, c3, h1, h2, h3, _⟩ := (h.below hb) i a ha
  cases e
  exact ⟨c0, c1, c2, c3, h3⟩

set_option maxRecDepth 100000 in
set_option maxHeartbeats 1000000 in
theorem last_walk (w : World) (A : Option Addr) (n c : Nat) (l : List GoAct) (hn : l.length = n) (hbig : n ≤ 9223372036854775807) (h : ActsAt w.heap.size w A l) :
    Calls Try.prog 6 #[.slice A n c] w fun e w' => e = .returned (.bool true) ∧ Below w.heap.size w w' := by
  have hmk := make_nils
  have HN := Lib.hid hn
  have HA := Lib.hid h
  clear hn h
  go_enter Try.func6, Try.ntmps6
  go_wp2_with fail
  refine (new_eight w).mono ?_
  rintro e w1 ⟨D, L, rfl, hl1, hb1⟩
  have HL := Lib.hid hl1
  have HB := Lib.hid hb1
  clear hl1 hb1
  have hm1 := hmk w1
  clear hmk
  go_wp2_with fail
  have hs0 : LoopOne w.heap.size w1.heap.size D L w1.heap.size w 0 0 (.slice none 0 0) (fresh 8) (fun _ => []) (w1.alloc (.cells nils.toArray 31)) := loop_start HL.out HB.out
  have H0 := Lib.hid hs0
  have hLM := HL.out.lt.2.2.2
  have HGL : Hid (w1.heap.size ≠ L) := by have := HL.out.lt; show w1.heap.size ≠ L; omega
  have HBM := Lib.hid HB.out.size
  obtain ⟨i0, hi, hz0, hz1, hz2⟩ := info_parts int_info
  have HI := Lib.hid (And.intro hi (And.intro hz0 (And.intro hz1 hz2)))
  clear hi hz0 hz1 hz2
  clear hs0 hm1
  go_loopw [6, 7] (fun kv iv wr => ∃ (i : Nat) (s : St) (lasts : Nat → List Int), i ≤ n ∧ i ≤ 30 ∧ iv = .int .i64 i ∧ LoopOne w.heap.size w1.heap.size D L w1.heap.size w i i kv s lasts wr) (fun _ iv _ => n - (intOf iv).toNat)
  case atStart => exact ⟨0, _, _, Nat.zero_le _, Nat.zero_le _, rfl, H0.out⟩
  case round =>
    clear H0
    obtain ⟨i, s, lasts, hin, hi30, rfl, hrel⟩ := hrel
    obtain ⟨Ak, ck, hkv⟩ := own_form hrel.keep
    subst hkv
    have HR := Lib.hid hrel
    clear hrel
    by_cases hlt : i < n
    · by_cases hlt2 : i < 30
      · obtain ⟨a, ha⟩ : ∃ a, l[i]? = some a := ⟨_, List.getElem?_eq_getElem (by have := HN.out; omega)⟩
        obtain ⟨b, o, rfl, hblt, c0, c1, c2, c3, hrest⟩ := (HA.out.below HR.out.below) i a ha
        have HX := Lib.hid hrest
        clear hrest
        obtain ⟨k, hk8, hno⟩ := no_eight a.no
        have HA2 := Lib.hid ha
        clear ha
        have hM1 : w1.heap.size ≤ wr.heap.size := HR.out.mem.lt_
        have HM1 := Lib.hid hM1
        clear hM1
        by_cases hfl : (bits BinOp.and IntKind.i64 a.kind 1 == 1) = true
        · have HK := Lib.hid (And.intro hk8 hno)
          go_wp2_with fail
          have hw0 := flush_live w.heap.size wr D L s HR.out.live HR.out.below.size (by have := HR.out.fl; omega)
          refine hw0.mono ?_
          clear hw0
          rintro e w1' ⟨rfl, hl', hs'⟩
          obtain ⟨he, hr'⟩ := flush_mid HR.out hLM HGL.out hl' hs'
          rw [he]
          have HR' := Lib.hid hr'
          have HZ : Hid (s.flush.2.waits.length = 0) := flush_zero HR.out
          have HM' := Lib.hid (Nat.le_trans HM1.out hs'.size)
          clear he hr' hl' hs'
          clear c0 c1 c2 c3
          obtain ⟨c0, c1, c2, c3, hby⟩ := acts_again HA.out HA2.out HR'.out.below
          have HBy' := Lib.hid hby
          clear hby
          go_wp2_with fail
          have hbytes := HX.out.2.2.1
          have HBy := Lib.hid hbytes
          clear hbytes
          refine (full_walk w1' a.bA a.bn a.bc a.bs HX.out.1 HX.out.2.1 HBy'.out).mono ?_
          rintro e w2 ⟨rfl, hf2, hb2⟩
          have HF2 := Lib.hid (And.intro hf2 hb2)
          clear hf2 hb2
          go_wp2_with fail
          have hw3 := write_live w.heap.size w2 D L s.flush.2 k (full a.bs) (some ⟨w1'.heap.size, 0, none⟩) 64 64 (HR'.out.live.below HF2.out.2) (Nat.le_trans HR'.out.below.size HF2.out.2.size) (full_length _) (fun _ => ⟨_, rfl, by have := HR'.out.live.lt; simp; omega, blk_cells HF2.out.1⟩) (by have := HR'.out.waits; omega) (by have := HR'.out.wr_; omega)
          rw [write_eq HR'.out HK.out.1] at hw3
          refine hw3.mono ?_
          clear hw3
          rintro e w3 ⟨rfl, hl3, hs3⟩
          have HL3 := Lib.hid hl3
          have HS3 := Lib.hid ((Step.of_below (L := L) HR'.out.below.size HF2.out.2).trans hs3)
          clear hl3 hs3 HF2
          clear c0 c1 c2 c3
          obtain ⟨c0, c1, c2, c3, hby3⟩ := acts_again HA.out HA2.out (HR'.out.below.trans HS3.out.below)
          have HBy3 := Lib.hid hby3
          clear hby3
          go_wp2_with fail
          refine (full_walk w3 a.bA a.bn a.bc a.bs HX.out.1 HX.out.2.1 HBy3.out).mono ?_
          rintro e w4 ⟨rfl, hf4, hb4⟩
          have hv4 : HasBytes w1.heap.size w4 (.slice (some ⟨w3.heap.size, 0, none⟩) 64 64) (full a.bs) := HasBytes.of_blk hf4 (full_length _) (Nat.le_trans HM'.out HS3.out.size)
          have hs4 : Step w.heap.size L w1' w4 := HS3.out.trans (Step.of_below (Nat.le_trans HR'.out.below.size HS3.out.size) hb4)
          have hm4 := HR'.out.mem.step hs4 hLM HGL.out
          obtain ⟨gcs, hgb, hgl, _⟩ := hm4
          obtain ⟨gu, hgu⟩ : ∃ u, gcs[k]? = some u := ⟨_, List.getElem?_eq_getElem (by have := HK.out.1; omega)⟩
          have g0 : w4.cell? ⟨w1.heap.size, k, none⟩ = some gu := by rw [hgb.cell, hgu]
          have g1 := hgb.frozen k
          have HL4 := Lib.hid (HL3.out.below hb4)
          have HS4 := Lib.hid hs4
          have HV4 := Lib.hid hv4
          have hk4 := ownsRow_step HR'.out.keep hs4 (by decide) (by decide) hLM
          have hk5 : (w4.setCell ⟨w1.heap.size, k, none⟩ (.slice (some ⟨w3.heap.size, 0, none⟩) 64 64)).ownsRow w1.heap.size 3 1 (.slice none 0 0) 0 ((upTo 0).map (Value.int .i64)) := ownsRow_only (by rw [HZ.out] at hk4; exact hk4) ((Only.refl [w1.heap.size] _).setCell (.inl (by simp)) _) (fun q hq => by
            have := own_blk_ne hk4 hgb (by decide)
            rw [hq] at this
            simpa using this)
          have HK5 := Lib.hid hk5
          have hM4 : w1.heap.size ≤ w4.heap.size := Nat.le_trans HM'.out hs4.size
          clear hf4 hb4 hs4 hv4 hgb hgu hgl hk4 hk5
          have hwl := HR'.out.waits
          go_wp2_with (at_builtin; go_loud (refine wpList_append_own _ rfl (.tmp 71) (.tmp 74) 32 rfl w1.heap.size 3 i0 (.int .i64 0) 1 8 (by kernel_rfl) HI.out.1 HI.out.2.1 HI.out.2.2.1 HI.out.2.2.2 rfl (by decide) ((.slice none 0 0)) 0 _ rfl (HK5.out.alloc _) ⟨w4.heap.size, 0, none⟩ 1 1 [.int .i64 0] rfl rfl (one_new_set w4 _ _ _ _) (one_int _) (by unfold maxLen; omega) (by omega) (by simp; omega) ?_); intro kv' w6 hown hgrow _; have Hown := Lib.hid hown; have Hgrow := Lib.hid hgrow; clear hown hgrow)
          go_roundw
          case rel => exact ⟨i + 1, _, _, by omega, by omega, by go_num, round_end HR'.out (by omega) HK.out.1 hLM HGL.out HBM.out HBM.out hM4 HL4.out HS4.out HV4.out Hgrow.out (by rw [HZ.out]; exact Hown.out)⟩
          case measure => simp [intOf]; omega
        · have hfl' : (bits BinOp.and IntKind.i64 a.kind 1 == 1) = false := by simpa using hfl
          clear hfl
          have HK := Lib.hid (And.intro hk8 hno)
          go_wp2_with fail
          have hbytes := HX.out.2.2.1
          have HBy := Lib.hid hbytes
          clear hbytes
          refine (full_walk wr a.bA a.bn a.bc a.bs HX.out.1 HX.out.2.1 HBy.out).mono ?_
          rintro e w2 ⟨rfl, hf2, hb2⟩
          have HF2 := Lib.hid (And.intro hf2 hb2)
          clear hf2 hb2
          go_wp2_with fail
          have hw3 := write_live w.heap.size w2 D L s k (full a.bs) (some ⟨wr.heap.size, 0, none⟩) 64 64 (HR.out.live.below HF2.out.2) (Nat.le_trans HR.out.below.size HF2.out.2.size) (full_length _) (fun _ => ⟨_, rfl, by have := HR.out.live.lt; simp; omega, blk_cells HF2.out.1⟩) (by have := HR.out.waits; omega) (by have := HR.out.wr_; omega)
          rw [write_eq HR.out HK.out.1] at hw3
          refine hw3.mono ?_
          clear hw3
          rintro e w3 ⟨rfl, hl3, hs3⟩
          have HL3 := Lib.hid hl3
          have HS3 := Lib.hid ((Step.of_below (L := L) HR.out.below.size HF2.out.2).trans hs3)
          clear hl3 hs3 HF2
          clear c0 c1 c2 c3
          obtain ⟨c0, c1, c2, c3, hby3⟩ := acts_again HA.out HA2.out (HR.out.below.trans HS3.out.below)
          have HBy3 := Lib.hid hby3
          clear hby3
          go_wp2_with fail
          refine (full_walk w3 a.bA a.bn a.bc a.bs HX.out.1 HX.out.2.1 HBy3.out).mono ?_
          rintro e w4 ⟨rfl, hf4, hb4⟩
          have hv4 : HasBytes w1.heap.size w4 (.slice (some ⟨w3.heap.size, 0, none⟩) 64 64) (full a.bs) := HasBytes.of_blk hf4 (full_length _) (Nat.le_trans HM1.out HS3.out.size)
          have hs4 : Step w.heap.size L wr w4 := HS3.out.trans (Step.of_below (Nat.le_trans HR.out.below.size HS3.out.size) hb4)
          have hm4 := HR.out.mem.step hs4 hLM HGL.out
          obtain ⟨gcs, hgb, hgl, _⟩ := hm4
          obtain ⟨gu, hgu⟩ : ∃ u, gcs[k]? = some u := ⟨_, List.getElem?_eq_getElem (by have := HK.out.1; omega)⟩
          have g0 : w4.cell? ⟨w1.heap.size, k, none⟩ = some gu := by rw [hgb.cell, hgu]
          have g1 := hgb.frozen k
          have HL4 := Lib.hid (HL3.out.below hb4)
          have HS4 := Lib.hid hs4
          have HV4 := Lib.hid hv4
          have hk4 := ownsRow_step HR.out.keep hs4 (by decide) (by decide) hLM
          have hk5 : (w4.setCell ⟨w1.heap.size, k, none⟩ (.slice (some ⟨w3.heap.size, 0, none⟩) 64 64)).ownsRow w1.heap.size 3 1 (.slice Ak s.waits.length ck) s.waits.length ((upTo s.waits.length).map (Value.int .i64)) := ownsRow_only hk4 ((Only.refl [w1.heap.size] _).setCell (.inl (by simp)) _) (fun q hq => by
            have := own_blk_ne hk4 hgb (by decide)
            rw [hq] at this
            simpa using this)
          have HK5 := Lib.hid hk5
          have hM4 : w1.heap.size ≤ w4.heap.size := Nat.le_trans HM1.out hs4.size
          clear hf4 hb4 hs4 hv4 hgb hgu hgl hk4 hk5
          have hwl := HR.out.waits
          go_wp2_with (at_builtin; go_loud (refine wpList_append_own _ rfl (.tmp 71) (.tmp 74) 32 rfl w1.heap.size 3 i0 (.int .i64 0) 1 8 (by kernel_rfl) HI.out.1 HI.out.2.1 HI.out.2.2.1 HI.out.2.2.2 rfl (by decide) ((.slice Ak s.waits.length ck)) s.waits.length _ rfl (HK5.out.alloc _) ⟨w4.heap.size, 0, none⟩ 1 1 [.int .i64 s.waits.length] rfl rfl (one_new_set w4 _ _ _ _) (one_int _) (by unfold maxLen; omega) (by omega) (by simp; omega) ?_); intro kv' w6 hown hgrow _; have Hown := Lib.hid hown; have Hgrow := Lib.hid hgrow; clear hown hgrow)
          go_roundw
          case rel => exact ⟨i + 1, _, _, by omega, by omega, by go_num, round_end HR.out (by omega) HK.out.1 hLM HGL.out HBM.out HBM.out hM4 HL4.out HS4.out HV4.out Hgrow.out Hown.out⟩
          case measure => simp [intOf]; omega
      · obtain rfl : i = 30 := by omega
        go_wp2_with fail
        have h20 := LoopTwo.start HR.out
        have H20 := Lib.hid h20
        clear h20
        generalize hm : s.waits.length = m at *
        have hmb : m ≤ 30 := by have := HR.out.waits; omega
        clear hm
        go_loopw [9] (fun tv w2 => ∃ (t : Nat) (s2 : St), t ≤ 2 ∧ tv = .int .i64 t ∧ LoopTwo w.heap.size w1.heap.size D L w1.heap.size w t m (.slice Ak m ck) s2 lasts w2) (fun tv _ => 2 - (intOf tv).toNat)
        case atStart => exact ⟨0, s, by omega, rfl, H20.out⟩
        case round =>
          clear H20
          obtain ⟨t, s2, ht2, rfl, hrel2⟩ := hrel
          have HR2 := Lib.hid hrel2
          clear hrel2
          by_cases htl : t < 2
          · obtain ⟨wo, rfl⟩ : ∃ wo : World, wo = wr := ⟨_, rfl⟩
            have htd : decide ((t : Int) < 2) = true := decide_eq_true (by omega)
            go_wp2_with fail
            go_loopw [10] (fun jv w3 => ∃ j : Nat, j ≤ 8 ∧ jv = .int .i64 j ∧ LoopTwo w.heap.size w1.heap.size D L w1.heap.size w t m (.slice Ak m ck) s2 lasts w3) (fun jv _ => 8 - (intOf jv).toNat)
            case atStart => exact ⟨0, by omega, rfl, HR2.out⟩
            case round =>
              clear HR2
              obtain ⟨j, hj8, rfl, hrel3⟩ := hrel
              have HR3 := Lib.hid hrel3
              clear hrel3
              by_cases hjl : j < 8
              · obtain ⟨Aj, cj, hgj, hbj⟩ := HR3.out.mem.form hjl
                have HBj := Lib.hid hbj
                have hlj := HR3.out.lens j
                clear hgj hbj
                go_wp2_with fail
                refine (read_live w.heap.size wr D L s2 j HR3.out.live HR3.out.below.size HR3.out.on (by have := HR3.out.n; omega)).mono ?_
                rintro e w4 ⟨v, rfl, hx, hl4, hs4⟩
                rw [HR3.out.sees j hjl] at hx
                obtain ⟨gx, cx, rfl, _⟩ := hx.at_ (n := 64) (full_length _)
                have HX4 := Lib.hid hx
                have HR4 := Lib.hid (HR3.out.step hl4 hs4 hLM HGL.out)
                have HLt := Lib.hid HR3.out.live.lt.2.2.2
                clear hx hl4 hs4 HBj
                obtain ⟨Aj, cj, hgj, hbj⟩ := HR4.out.mem.form hjl
                have HBj := Lib.hid hbj
                clear hbj
                go_wp2_with fail
                refine (full_walk w4 Aj (lasts j).length cj (lasts j) rfl (by omega) HBj.out).mono ?_
                rintro e w5 ⟨rfl, hf5, hb5⟩
                have hs5 := Step.of_below (L := L) HR4.out.below.size hb5
                have HR5 := Lib.hid (HR4.out.step (HR4.out.live.below hb5) hs5 hLM HGL.out)
                have HX5 := Lib.hid (HX4.out.step hs5 HLt.out)
                have HF5 := Lib.hid (HasBytes.of_blk hf5 (full_length _) (Nat.le_refl _))
                clear hf5 hb5 hs5 HX4
                go_wp2_with fail
                refine (same_has w.heap.size L w5 _ _ _ _ 64 (full (lasts j)) (full (lasts j)) true (full_length _) (by omega) HX5.out HF5.out (by simp)).mono ?_
                rintro e w6 ⟨rfl, hs6, hlf⟩
                have HR6 := Lib.hid (HR5.out.step (hlf D s2 HR5.out.live) hs6 hLM HGL.out)
                clear hs6 hlf HX5 HF5
                go_wp2_with fail
                go_roundw
                case rel => first | exact ⟨j + 1, by omega, by go_num, HR6.out⟩ | ((repeat apply Exists.intro); exact ⟨⟨j + 1, by omega, (show Value.int .i64 ((j : Int) + 1) = .int .i64 ((j + 1 : Nat) : Int) from by go_num), HR6.out⟩, rfl⟩)
                case measure => simp [intOf]; omega
              · obtain rfl : j = 8 := by omega
                by_cases ht0 : t = 0
                · subst ht0
                  have hce := crash_all HR3.out rfl
                  obtain ⟨hml, hown3⟩ := HR3.out.keep rfl
                  have hcr := crash_live w.heap.size wr D L s2 Ak m ck (upTo m) HR3.out.live HR3.out.below.size (upTo_length m) (by omega) (ints_of_own hown3 rfl)
                  rw [hce] at hcr
                  have HCR := Lib.hid hcr
                  have HML := Lib.hid hml
                  clear hce hml hown3 hcr
                  go_wp2_with fail
                  refine HCR.out.mono ?_
                  rintro e w4 ⟨rfl, hl4, hs4⟩
                  have HL4 := Lib.hid (And.intro hl4 hs4)
                  have hb4 := HR3.out.below.trans hs4.below
                  have HB4 := Lib.hid hb4.size
                  clear hl4 hs4 hb4
                  go_wp2_with fail
                  refine (power_live w.heap.size w4 D L _ HL4.out.1 HB4.out).mono ?_
                  rintro e w5 ⟨rfl, hl5, hs5⟩
                  have HN5 := Lib.hid (LoopTwo.next HR3.out hl5 (HL4.out.2.trans hs5) hLM HGL.out rfl HR3.out.n rfl (fun j hj => seen_laid HR3.out.live.good (by rw [HR3.out.n]; exact hj) hl5.good rfl rfl rfl))
                  clear hl5 hs5
                  go_wp2_with fail
                  go_roundw
                  case rel => exact ⟨1, _, by omega, by go_num, HN5.out⟩
                  case measure => simp [intOf]
                · obtain rfl : t = 1 := by omega
                  go_wp2_with fail
                  refine (power_live w.heap.size wr D L s2 HR3.out.live HR3.out.below.size).mono ?_
                  rintro e w5 ⟨rfl, hl5, hs5⟩
                  have HN5 := Lib.hid (And.intro hl5 hs5)
                  clear hl5 hs5
                  go_wp2_with fail
                  go_roundw
                  case rel => exact ⟨2, _, by omega, by go_num, two_last HR3.out HN5.out.1 HN5.out.2 hLM HGL.out⟩
                  case measure => simp [intOf]
          · obtain rfl : t = 2 := by omega
            go_wp2_with fail
            refine (known_walk wr).mono ?_
            rintro e w3 ⟨rfl, hb3⟩
            have HB3 := Lib.hid (HR2.out.below.trans (hb3.mono HR2.out.below.size))
            clear hb3
            go_wp2_with fail
            go_ret
            exact ⟨rfl, HB3.out⟩
    · obtain rfl : i = n := by omega
      have hdl : decide ((i : Int) < i) = false := by simp
      clear hlt
      go_wp2_with fail
      have h20 := LoopTwo.start HR.out
      have H20 := Lib.hid h20
      clear h20
      generalize hm : s.waits.length = m at *
      have hmb : m ≤ 30 := by have := HR.out.waits; omega
      clear hm
      go_loopw [9] (fun tv w2 => ∃ (t : Nat) (s2 : St), t ≤ 2 ∧ tv = .int .i64 t ∧ LoopTwo w.heap.size w1.heap.size D L w1.heap.size w t m (.slice Ak m ck) s2 lasts w2) (fun tv _ => 2 - (intOf tv).toNat)
      case atStart => exact ⟨0, s, by omega, rfl, H20.out⟩
      case round =>
        clear H20
        obtain ⟨t, s2, ht2, rfl, hrel2⟩ := hrel
        have HR2 := Lib.hid hrel2
        clear hrel2
        by_cases htl : t < 2
        · obtain ⟨wo, rfl⟩ : ∃ wo : World, wo = wr := ⟨_, rfl⟩
          have htd : decide ((t : Int) < 2) = true := decide_eq_true (by omega)
          go_wp2_with fail
          go_loopw [10] (fun jv w3 => ∃ j : Nat, j ≤ 8 ∧ jv = .int .i64 j ∧ LoopTwo w.heap.size w1.heap.size D L w1.heap.size w t m (.slice Ak m ck) s2 lasts w3) (fun jv _ => 8 - (intOf jv).toNat)
          case atStart => exact ⟨0, by omega, rfl, HR2.out⟩
          case round =>
            clear HR2
            obtain ⟨j, hj8, rfl, hrel3⟩ := hrel
            have HR3 := Lib.hid hrel3
            clear hrel3
            by_cases hjl : j < 8
            · obtain ⟨Aj, cj, hgj, hbj⟩ := HR3.out.mem.form hjl
              have HBj := Lib.hid hbj
              have hlj := HR3.out.lens j
              clear hgj hbj
              go_wp2_with fail
              refine (read_live w.heap.size wr D L s2 j HR3.out.live HR3.out.below.size HR3.out.on (by have := HR3.out.n; omega)).mono ?_
              rintro e w4 ⟨v, rfl, hx, hl4, hs4⟩
              rw [HR3.out.sees j hjl] at hx
              obtain ⟨gx, cx, rfl, _⟩ := hx.at_ (n := 64) (full_length _)
              have HX4 := Lib.hid hx
              have HR4 := Lib.hid (HR3.out.step hl4 hs4 hLM HGL.out)
              have HLt := Lib.hid HR3.out.live.lt.2.2.2
              clear hx hl4 hs4 HBj
              obtain ⟨Aj, cj, hgj, hbj⟩ := HR4.out.mem.form hjl
              have HBj := Lib.hid hbj
              clear hbj
              go_wp2_with fail
              refine (full_walk w4 Aj (lasts j).length cj (lasts j) rfl (by omega) HBj.out).mono ?_
              rintro e w5 ⟨rfl, hf5, hb5⟩
              have hs5 := Step.of_below (L := L) HR4.out.below.size hb5
              have HR5 := Lib.hid (HR4.out.step (HR4.out.live.below hb5) hs5 hLM HGL.out)
              have HX5 := Lib.hid (HX4.out.step hs5 HLt.out)
              have HF5 := Lib.hid (HasBytes.of_blk hf5 (full_length _) (Nat.le_refl _))
              clear hf5 hb5 hs5 HX4
              go_wp2_with fail
              refine (same_has w.heap.size L w5 _ _ _ _ 64 (full (lasts j)) (full (lasts j)) true (full_length _) (by omega) HX5.out HF5.out (by simp)).mono ?_
              rintro e w6 ⟨rfl, hs6, hlf⟩
              have HR6 := Lib.hid (HR5.out.step (hlf D s2 HR5.out.live) hs6 hLM HGL.out)
              clear hs6 hlf HX5 HF5
              go_wp2_with fail
              go_roundw
              case rel => first | exact ⟨j + 1, by omega, by go_num, HR6.out⟩ | ((repeat apply Exists.intro); exact ⟨⟨j + 1, by omega, (show Value.int .i64 ((j : Int) + 1) = .int .i64 ((j + 1 : Nat) : Int) from by go_num), HR6.out⟩, rfl⟩)
              case measure => simp [intOf]; omega
            · obtain rfl : j = 8 := by omega
              by_cases ht0 : t = 0
              · subst ht0
                have hce := crash_all HR3.out rfl
                obtain ⟨hml, hown3⟩ := HR3.out.keep rfl
                have hcr := crash_live w.heap.size wr D L s2 Ak m ck (upTo m) HR3.out.live HR3.out.below.size (upTo_length m) (by omega) (ints_of_own hown3 rfl)
                rw [hce] at hcr
                have HCR := Lib.hid hcr
                have HML := Lib.hid hml
                clear hce hml hown3 hcr
                go_wp2_with fail
                refine HCR.out.mono ?_
                rintro e w4 ⟨rfl, hl4, hs4⟩
                have HL4 := Lib.hid (And.intro hl4 hs4)
                have hb4 := HR3.out.below.trans hs4.below
                have HB4 := Lib.hid hb4.size
                clear hl4 hs4 hb4
                go_wp2_with fail
                refine (power_live w.heap.size w4 D L _ HL4.out.1 HB4.out).mono ?_
                rintro e w5 ⟨rfl, hl5, hs5⟩
                have HN5 := Lib.hid (LoopTwo.next HR3.out hl5 (HL4.out.2.trans hs5) hLM HGL.out rfl HR3.out.n rfl (fun j hj => seen_laid HR3.out.live.good (by rw [HR3.out.n]; exact hj) hl5.good rfl rfl rfl))
                clear hl5 hs5
                go_wp2_with fail
                go_roundw
                case rel => exact ⟨1, _, by omega, by go_num, HN5.out⟩
                case measure => simp [intOf]
              · obtain rfl : t = 1 := by omega
                go_wp2_with fail
                refine (power_live w.heap.size wr D L s2 HR3.out.live HR3.out.below.size).mono ?_
                rintro e w5 ⟨rfl, hl5, hs5⟩
                have HN5 := Lib.hid (And.intro hl5 hs5)
                clear hl5 hs5
                go_wp2_with fail
                go_roundw
                case rel => exact ⟨2, _, by omega, by go_num, two_last HR3.out HN5.out.1 HN5.out.2 hLM HGL.out⟩
                case measure => simp [intOf]
        · obtain rfl : t = 2 := by omega
          go_wp2_with fail
          refine (known_walk wr).mono ?_
          rintro e w3 ⟨rfl, hb3⟩
          have HB3 := Lib.hid (HR2.out.below.trans (hb3.mono HR2.out.below.size))
          clear hb3
          go_wp2_with fail
          go_ret
          exact ⟨rfl, HB3.out⟩

end Go.Proofs.Ythphaidaknkedaa
