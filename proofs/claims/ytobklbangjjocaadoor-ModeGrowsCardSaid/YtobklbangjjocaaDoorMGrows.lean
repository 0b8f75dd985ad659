/-
  ModeGrows, walked: for every stat, every who and every numbers it returns true. Condition: one cell of the library's table is as its initialiser lays it.
-/
import Derived.Test.YtobklbangjjocaaDoorMKnown
import Derived.Test.YtobklbangjjocaaDoorRVal
import Derived.Deep.RegionHeld3
set_option linter.unusedSimpArgs false
set_option linter.unusedVariables false
set_option maxRecDepth 100000
namespace Go.Proofs.YtobklbangjjocaaDoor
open Go.RowKit

section
variable {B : Nat} {k m o g : Int}
/-- What each operation of the law's first region leaves: two stats, two blocks of their own. -/
def GrV (B : Nat) (k m o g : Int) (i : Nat) (v : Nat → Value) (w : World) : Prop :=
  match i with
  | 0 => v 0 = stv k m o g
  | 1 => v 1 = stv k m o g
  | 2 => v 2 = stv k m o g
  | 3 => v 3 = stv k m o g
  | 4 => ∃ p cs, v 4 = .pointer (some ⟨p, 0, none⟩) ∧ B ≤ p ∧ Blk w p 32 cs ∧ cs.length = 4
  | 5 => ∃ p cs, v 5 = .pointer (some ⟨p, 0, none⟩) ∧ B ≤ p ∧ (Blk w p 32 cs ∧ cs.length = 4) ∧ v 4 ≠ .pointer (some ⟨p, 0, none⟩)
  | 6 => ∃ p, v 4 = .pointer (some ⟨p, 0, none⟩) ∧ B ≤ p ∧ Box w p 32 k m o g
  | 7 => ∃ p, v 5 = .pointer (some ⟨p, 0, none⟩) ∧ B ≤ p ∧ Box w p 32 k m o g
  | _ => True
def GrRel (k m o g : Int) (i : Nat) (x : Value) (w w' : World) : Prop :=
  (∀ p cs, Blk w p 32 cs → cs.length = 4 → ∃ cs', Blk w' p 32 cs' ∧ cs'.length = 4) ∧ (∀ p, Box w p 32 k m o g → Box w' p 32 k m o g) ∧
    (i = 4 → ∃ p, x = .pointer (some ⟨p, 0, none⟩) ∧ w.heap.size ≤ p)
def GrR (B : Nat) (w0 : World) (v : Nat → Value) (w : World) : Prop := Below B w0 w ∧ B ≤ w.heap.size ∧ ∀ p, v 4 = .pointer (some ⟨p, 0, none⟩) → p < w.heap.size
def grLook (i : Nat) : List Nat := if i = 6 then [4] else if i = 7 then [5] else []
theorem setV_ne {v : Nat → Value} {i j : Nat} {x : Value} (h : j ≠ i) : setV v i x j = v j := by unfold setV; rw [if_neg h]
theorem setV_own {v : Nat → Value} {i : Nat} {x : Value} : setV v i x i = x := by unfold setV; rw [if_pos rfl]
theorem GrV.st : ∀ i q v x w w', q ≠ i → q ∉ grLook i → GrV B k m o g i v w → GrRel k m o g q x w w' → GrV B k m o g i (setV v q x) w' := by
  intro i q v x w w' hq hl h hr
  have e : ∀ j, j ≠ q → setV v q x j = v j := fun j hj => setV_ne hj
  match i, h, hq, hl with
  | 0, h, hq, _ => exact (e 0 hq.symm).trans h
  | 1, h, hq, _ => exact (e 1 hq.symm).trans h
  | 2, h, hq, _ => exact (e 2 hq.symm).trans h
  | 3, h, hq, _ => exact (e 3 hq.symm).trans h
  | 4, h, hq, _ =>
    obtain ⟨p, cs, h1, h2, h3, h4⟩ := h
    obtain ⟨cs', h5, h6⟩ := hr.1 p cs h3 h4
    exact ⟨p, cs', (e 4 hq.symm).trans h1, h2, h5, h6⟩
  | 5, h, hq, _ =>
    obtain ⟨p, cs, h1, h2, ⟨h3, h4⟩, h7⟩ := h
    obtain ⟨cs', h5, h6⟩ := hr.1 p cs h3 h4
    refine ⟨p, cs', (e 5 hq.symm).trans h1, h2, ⟨h5, h6⟩, ?_⟩
    by_cases hq4 : q = 4
    · subst hq4
      obtain ⟨p', hx, hp'⟩ := hr.2.2 rfl
      rw [setV_own, hx]
      intro he
      have := h3.lt
      injection he with he
      injection he with he
      injection he with he
      omega
    · rw [e 4 (Ne.symm hq4)]
      exact h7
  | 6, h, hq, hl =>
    obtain ⟨p, h1, h2, h3⟩ := h
    exact ⟨p, (e 4 (fun h => hl (by subst h; simp [grLook]))).trans h1, h2, hr.2.1 p h3⟩
  | 7, h, hq, hl =>
    obtain ⟨p, h1, h2, h3⟩ := h
    exact ⟨p, (e 5 (fun h => hl (by subst h; simp [grLook]))).trans h1, h2, hr.2.1 p h3⟩
  | i + 8, _, _, _ => trivial
theorem GrRel.below {i : Nat} {x : Value} {w w' : World} (hi : i ≠ 4) (hb : Below w.heap.size w w') : GrRel k m o g i x w w' :=
  ⟨fun p cs h hl => ⟨cs, h.below hb h.lt, hl⟩, fun p h => h.below hb, fun h => absurd h hi⟩
theorem GrRel.four {p : Nat} {w w' : World} (hp : w.heap.size ≤ p) (hb : Below w.heap.size w w') : GrRel k m o g 4 (.pointer (some ⟨p, 0, none⟩)) w w' :=
  ⟨fun p cs h hl => ⟨cs, h.below hb h.lt, hl⟩, fun p h => h.below hb, fun _ => ⟨p, rfl, hp⟩⟩
theorem NIn.one1 (w : World) (X : Obj) (t : TypeId) (a : Int) (h0 : -9223372036854775808 ≤ a) (h1 : a ≤ 9223372036854775807) : NIn ((w.alloc X).alloc (.cells #[.int .i64 a] t)) (some ⟨w.heap.size + 1, 0, none⟩) 1 1 [a] := by
  have := NIn.one (w.alloc X) t a h0 h1
  rwa [World.size_alloc] at this
theorem mcell {a b : World} {p : Addr} {v : Value} (h : a.cell? p = some v) (hb : Below a.heap.size a b) : b.cell? p = some v := (hb.cell (World.block_lt_of_cell? a p h)).trans h
theorem mnewd (w : World) (ob : Obj) : Below w.heap.size w (w.alloc ob).drew := (mnew w ob).drew
theorem cells_on {a b : World} {p : Nat} (h : a.cell? ⟨p, 0, none⟩ = some (.int .i64 k) ∧ a.cell? ⟨p, 1, none⟩ = some (.int .i64 m) ∧ a.cell? ⟨p, 2, none⟩ = some (.int .i64 o) ∧ a.cell? ⟨p, 3, none⟩ = some (.int .i64 g)) (hb : Below a.heap.size a b) :
    b.cell? ⟨p, 0, none⟩ = some (.int .i64 k) ∧ b.cell? ⟨p, 1, none⟩ = some (.int .i64 m) ∧ b.cell? ⟨p, 2, none⟩ = some (.int .i64 o) ∧ b.cell? ⟨p, 3, none⟩ = some (.int .i64 g) :=
  ⟨mcell h.1 hb, mcell h.2.1 hb, mcell h.2.2.1 hb, mcell h.2.2.2 hb⟩
theorem GrR.step {i : Nat} {w0 : World} {v : Nat → Value} {x : Value} {w w' : World} (hi : i ≠ 4) (h : GrR B w0 v w) (hb : Below w.heap.size w w') : GrR B w0 (setV v i x) w' := by
  refine ⟨h.1.trans (hb.mono h.2.1), Nat.le_trans h.2.1 hb.size, fun p hp => ?_⟩
  rw [setV_ne (Ne.symm hi)] at hp
  exact Nat.lt_of_lt_of_le (h.2.2 p hp) hb.size
theorem GrR.four {w0 : World} {v : Nat → Value} {p : Nat} {w w' : World} (h : GrR B w0 v w) (hb : Below w.heap.size w w') (hp : p < w'.heap.size) : GrR B w0 (setV v 4 (.pointer (some ⟨p, 0, none⟩))) w' := by
  refine ⟨h.1.trans (hb.mono h.2.1), Nat.le_trans h.2.1 hb.size, fun q hq => ?_⟩
  rw [setV_own] at hq
  injection hq with hq
  injection hq with hq
  injection hq with hq
  omega
theorem GrR.set {i : Nat} {w0 : World} {v : Nat → Value} {x : Value} {w w' : World} {p : Nat} (hi : i ≠ 4) (h : GrR B w0 v w) (ho : Only [p] w w') (hp : B ≤ p) : GrR B w0 (setV v i x) w' := by
  refine ⟨h.1.trans (ho.below h.2.1 (by simpa using hp)), Nat.le_trans h.2.1 ho.size, fun q hq => ?_⟩
  rw [setV_ne (Ne.symm hi)] at hq
  exact Nat.lt_of_lt_of_le (h.2.2 q hq) ho.size
theorem only_four {w : World} {p : Nat} {a b c d : Value} : Only [p] w ((((w.setCell ⟨p, 0, none⟩ a).setCell ⟨p, 1, none⟩ b).setCell ⟨p, 2, none⟩ c).setCell ⟨p, 3, none⟩ d) :=
  ((((Only.refl _ _).setCell (.inl (by simp)) _).setCell (.inl (by simp)) _).setCell (.inl (by simp)) _).setCell (.inl (by simp)) _
theorem box_four {w : World} {p : Nat} {cs : List Value} (hk : Blk w p 32 cs) (hl : cs.length = 4) : Box ((((w.setCell ⟨p, 0, none⟩ (.int .i64 k)).setCell ⟨p, 1, none⟩ (.int .i64 m)).setCell ⟨p, 2, none⟩ (.int .i64 o)).setCell ⟨p, 3, none⟩ (.int .i64 g)) p 32 k m o g := by
  have h := (((hk.set_ 0 (.int .i64 k)).set_ 1 (.int .i64 m)).set_ 2 (.int .i64 o)).set_ 3 (.int .i64 g)
  match cs, hl with
  | [c0, c1, c2, c3], _ => exact h
theorem sts_one : ∀ u ∈ sts k m o g, u.oneCell' = true := by
  intro u hu
  simp only [sts, List.mem_cons, List.not_mem_nil, or_false] at hu
  rcases hu with rfl | rfl | rfl | rfl <;> rfl
theorem there_four {w : World} {p : Nat} {cs : List Value} (hk : Blk w p 32 cs) (hl : cs.length = 4) : w.there p 0 4 := by
  intro j hj
  refine ⟨?_, hk.frozen _⟩
  rw [hk.cell, List.getElem?_eq_getElem (by omega)]
  rfl
/-- A stat stored into a block that is known to be there: the block is named behind the step alone. -/
theorem wp_store_stat {op : Oper} {a : Act} {w : World} {K : Act → World → Prop} {Q : Exit → Act → World → Prop} (x y : Operand) (ho : op.op = .store 32 x y) {u : Value}
    (hx : a.eval x = u) (hu : ∃ p cs, u = .pointer (some ⟨p, 0, none⟩) ∧ B ≤ p ∧ Blk w p 32 cs ∧ cs.length = 4) (hy : a.eval y = .agg (sts k m o g).toArray)
    (h : ∀ p cs, u = .pointer (some ⟨p, 0, none⟩) → B ≤ p → Blk w p 32 cs → Box (w.setCells p 0 (sts k m o g)) p 32 k m o g → Only [p] w (w.setCells p 0 (sts k m o g)) → K (a.put op.dst undef) (w.setCells p 0 (sts k m o g))) : op.wp Tryd.prog a w K Q := by
  obtain ⟨p, cs, rfl, hB, hk, hl⟩ := hu
  refine wp_store_mid 32 x y ho p 0 (sts k m o g).toArray hx hy (there_four hk hl) (by kernel_rfl) (all_oneCell_toArray sts_one) ?_
  exact h p cs rfl hB hk (box_four hk hl) only_four
theorem four_cells {w : World} {p : Nat} {cs : List Value} (hk : Blk w p 32 cs) (hl : cs.length = 4) : ∃ c0 c1 c2 c3, w.cell? ⟨p, 0, none⟩ = some c0 ∧ w.cell? ⟨p, 1, none⟩ = some c1 ∧ w.cell? ⟨p, 2, none⟩ = some c2 ∧ w.cell? ⟨p, 3, none⟩ = some c3 := by
  match cs, hl, hk with
  | [c0, c1, c2, c3], _, hk => exact ⟨c0, c1, c2, c3, hk.cell 0, hk.cell 1, hk.cell 2, hk.cell 3⟩
theorem GrV.four {v : Nat → Value} {w : World} (h : GrV B k m o g 4 v w) : ∃ p cs, v 4 = .pointer (some ⟨p, 0, none⟩) ∧ B ≤ p ∧ Blk w p 32 cs ∧ cs.length = 4 := h
theorem GrV.five {v : Nat → Value} {w : World} (h : GrV B k m o g 5 v w) : ∃ p cs, v 5 = .pointer (some ⟨p, 0, none⟩) ∧ B ≤ p ∧ (Blk w p 32 cs ∧ cs.length = 4) ∧ v 4 ≠ .pointer (some ⟨p, 0, none⟩) := h
theorem five_four {v : Nat → Value} {w : World} (h : GrV B k m o g 5 v w) : ∃ p cs, v 5 = .pointer (some ⟨p, 0, none⟩) ∧ B ≤ p ∧ Blk w p 32 cs ∧ cs.length = 4 := by
  obtain ⟨p, cs, a, b, c, _⟩ := h
  exact ⟨p, cs, a, b, c⟩
theorem GrV.six {v : Nat → Value} {w : World} (h : GrV B k m o g 6 v w) : ∃ p, v 4 = .pointer (some ⟨p, 0, none⟩) ∧ B ≤ p ∧ Box w p 32 k m o g := h
theorem GrV.seven {v : Nat → Value} {w : World} (h : GrV B k m o g 7 v w) : ∃ p, v 5 = .pointer (some ⟨p, 0, none⟩) ∧ B ≤ p ∧ Box w p 32 k m o g := h
/-- A stat is stored into a block of four cells. -/
theorem GrRel.store {i p : Nat} {cs : List Value} {x : Value} {w w' : World} (hi : i ≠ 4) (hk : Blk w p 32 cs) (hn : Box w' p 32 k m o g) (ho : Only [p] w w') : GrRel k m o g i x w w' := by
  refine ⟨fun q cs h hl => ?_, fun q h => ?_, fun h => absurd h hi⟩
  · by_cases hq : q = p
    · subst hq
      exact ⟨_, hn, rfl⟩
    · exact ⟨cs, h.only ho (by simpa using hq), hl⟩
  · by_cases hq : q = p
    · subst hq
      exact hn
    · exact Blk.only h ho (by simpa using hq)
end

theorem grow_more {k m o g who group a e : Int} (hc : chk k m o g = 0) (hw0 : 0 ≤ who) (hw1 : who ≤ 65535) (hg0 : 0 ≤ group) (hg1 : group ≤ 65535) (he0 : 0 ≤ e) (he1 : e < 512) (ha0 : 0 ≤ a) (ha1 : a ≤ 7)
    (h : canB k m o g who group [a] = true) : canB k (bits .or .i64 m e) o g who group [a] = true := by
  obtain ⟨⟨k0, k1⟩, ⟨m0, m1⟩, ⟨o0, o1⟩, g0, g1⟩ := chk_zero hc
  have hb : 0 ≤ bits .or .i64 m e ∧ bits .or .i64 m e ≤ 4095 := by
    obtain ⟨n, rfl⟩ := Int.eq_ofNat_of_zero_le m0
    obtain ⟨c, rfl⟩ := Int.eq_ofNat_of_zero_le he0
    rw [or_nat _ _ (by omega) (by omega)]
    have := more_le n c (by omega) (by omega)
    omega
  have hc2 : chk k (bits .or .i64 m e) o g = 0 := chk_ok k0 k1 hb.1 hb.2 o0 o1 g0 g1
  rw [can_may hc hw0 hw1 hg0 hg1] at h
  rw [can_may hc2 hw0 hw1 hg0 hg1]
  unfold mayAll at h ⊢
  simp only [List.all_cons, List.all_nil, Bool.and_true, decide_eq_true_eq] at h ⊢
  exact gr_more m0 m1 he0 he1 ha0 ha1 h
theorem grow_all {k m o g group a b : Int} (hc : chk k m o g = 0) (hg0 : 0 ≤ group) (hg1 : group ≤ 65535) (ha0 : 0 ≤ a) (ha1 : a ≤ 7) (hb0 : 0 ≤ b) (hb1 : b ≤ 7) : canB k m o g 0 group [a, b] = true := by
  rw [can_may hc (by omega) (by omega) hg0 hg1]
  obtain ⟨x, rfl⟩ := Int.eq_ofNat_of_zero_le ha0
  obtain ⟨y, rfl⟩ := Int.eq_ofNat_of_zero_le hb0
  have e : gr m o g 0 group = 7 := by unfold gr; rw [if_pos rfl]
  rw [e]
  unfold mayAll
  simp only [List.all_cons, List.all_nil, Bool.and_true, seven_all x (by omega), seven_all y (by omega)]
  rfl
theorem grow_two {k m o g who group a b : Int} : canB k m o g who group [a, b] = (canB k m o g who group [a] && canB k m o g who group [b]) := by
  unfold canB
  simp only [List.all_cons, List.all_nil, Bool.and_true]
  cases (decide (chk k m o g = 0) && whoB who && whoB group) <;> simp
theorem grow_or {k m o g who group a b : Int} (ha0 : 0 ≤ a) (ha1 : a ≤ 7) (hb0 : 0 ≤ b) (hb1 : b ≤ 7) : canB k m o g who group [bits .or .i64 a b] = (canB k m o g who group [a] && canB k m o g who group [b]) := by
  have hb := @gr_bd m o g who group
  obtain ⟨d, hd⟩ := Int.eq_ofNat_of_zero_le hb.1
  obtain ⟨x, rfl⟩ := Int.eq_ofNat_of_zero_le ha0
  obtain ⟨y, rfl⟩ := Int.eq_ofNat_of_zero_le hb0
  unfold canB
  simp only [List.all_cons, List.all_nil, Bool.and_true]
  rw [hd, not_or d (by omega) x (by omega) y (by omega)]
  cases (decide (chk k m o g = 0) && whoB who && whoB group) <;> simp
theorem or_bd {a b : Int} (ha0 : 0 ≤ a) (ha1 : a ≤ 7) (hb0 : 0 ≤ b) (hb1 : b ≤ 7) : 0 ≤ bits .or .i64 a b ∧ bits .or .i64 a b ≤ 7 := by
  obtain ⟨x, rfl⟩ := Int.eq_ofNat_of_zero_le ha0
  obtain ⟨y, rfl⟩ := Int.eq_ofNat_of_zero_le hb0
  rw [or_nat _ _ (by omega) (by omega)]
  have : x ||| y < 2 ^ 3 := Nat.or_lt_two_pow (by omega) (by omega)
  omega
set_option maxRecDepth 100000 in
set_option maxHeartbeats 8000000 in
theorem mgrows_walk (w : World) (hz : Tz w) (k m o g who group more a b : Int) :
    Calls Tryd.prog 7 #[stv k m o g, .int .i64 who, .int .i64 group, .int .i64 more, .int .i64 a, .int .i64 b] w fun e w' => e = .returned (.bool true) ∧ Below w.heap.size w w' := by
  have HZ := Lib.hid (And.intro hz (mnew w (.cells #[.int .i64 k, .int .i64 m, .int .i64 o, .int .i64 g] 30)))
  have HX := Lib.hid (Box.new w 30 k m o g)
  clear hz
  go_enter Tryd.func7, Tryd.ntmps7
  go_wp2_with fail
  have hszw : (w.alloc (.cells #[.int .i64 k, .int .i64 m, .int .i64 o, .int .i64 g] 30)).heap.size ≤ w.heap.size + 1 := by simp
  refine wp_region_vals [some 17, some 18, some 19, some 20, some 13, some 14, none, none] (GrV (w.heap.size + 1) k m o g) grLook (GrR (w.heap.size + 1) (w.alloc (.cells #[.int .i64 k, .int .i64 m, .int .i64 o, .int .i64 g] 30))) (GrRel k m o g) 8 (by kernel_rfl) rfl rfl rfl (by kernel_rfl) (fun _ => undef) ?_ ⟨(mdrew _).mono (by simp), by simp, fun p h => by cases h⟩ ?_ GrV.st ?_ ?_
  · intro i t h
    match i, h with
    | 0, h => cases h; rfl
    | 1, h => cases h; rfl
    | 2, h => cases h; rfl
    | 3, h => cases h; rfl
    | 4, h => cases h; rfl
    | 5, h => cases h; rfl
    | 6, h => cases h
    | 7, h => cases h
    | i + 8, h => cases h
  · intro i hi
    match i, hi with
    | 0, _ => exact (by decide +kernel)
    | 1, _ => exact (by decide +kernel)
    | 2, _ => exact (by decide +kernel)
    | 3, _ => exact (by decide +kernel)
    | 4, _ => exact (by decide +kernel)
    | 5, _ => exact (by decide +kernel)
    | 6, _ => exact (by decide +kernel)
    | 7, _ => exact (by decide +kernel)
    | i + 8, h => omega
  · intro i hi
    match i, hi with
    | 0, _ =>
      refine StepV.of rfl [] (by decide +kernel) ?_
      intro v wx hR hd K hK
      have hbx := HX.out.below (hR.1.mono hszw)
      have HR := Lib.hid hR
      clear hR hd
      simp only [List.getElem_toArray, List.getElem_cons_zero, List.getElem_cons_succ, fillR, Act.put, List.setIfInBounds_toArray, List.set_cons_zero, List.set_cons_succ] at hK ⊢
      rw [if_pos (by rfl)]
      refine wp_load_mid 30 (.tmp 6) rfl w.heap.size 0 rfl (sts k m o g) _ (fun j u hu => by rw [Nat.zero_add, Blk.cell hbx]; exact hu) Tryd.underlying30 rfl (by kernel_rfl) ?_
      exact hK.out _ _ (GrR.step (by omega) HR.out (Below.refl _ _)) (GrRel.below (by omega) (Below.refl _ _)) rfl
    | 1, _ =>
      refine StepV.of rfl [0] (by decide +kernel) ?_
      intro v wx hR hd K hK
      have h1 : v 0 = _ := hd 0 (by simp)
      have HR := Lib.hid hR
      clear hR hd
      simp only [List.getElem_toArray, List.getElem_cons_zero, List.getElem_cons_succ, fillR, Act.put, List.setIfInBounds_toArray, List.set_cons_zero, List.set_cons_succ, h1] at hK ⊢
      go_simp
      refine (to_any _ k m o g).mono ?_
      rintro e w' ⟨rfl, hW⟩
      have hq := hK.out (stv k m o g) w' (GrR.step (by omega) HR.out hW) (GrRel.below (by omega) hW) rfl
      clear hK hW
      go_wp2_with fail
      exact hq
    | 2, _ =>
      refine StepV.of rfl [] (by decide +kernel) ?_
      intro v wx hR hd K hK
      have hbx := HX.out.below (hR.1.mono hszw)
      have HR := Lib.hid hR
      clear hR hd
      simp only [List.getElem_toArray, List.getElem_cons_zero, List.getElem_cons_succ, fillR, Act.put, List.setIfInBounds_toArray, List.set_cons_zero, List.set_cons_succ] at hK ⊢
      rw [if_pos (by rfl)]
      refine wp_load_mid 30 (.tmp 6) rfl w.heap.size 0 rfl (sts k m o g) _ (fun j u hu => by rw [Nat.zero_add, Blk.cell hbx]; exact hu) Tryd.underlying30 rfl (by kernel_rfl) ?_
      exact hK.out _ _ (GrR.step (by omega) HR.out (Below.refl _ _)) (GrRel.below (by omega) (Below.refl _ _)) rfl
    | 3, _ =>
      refine StepV.of rfl [2] (by decide +kernel) ?_
      intro v wx hR hd K hK
      have h1 : v 2 = _ := hd 2 (by simp)
      have HR := Lib.hid hR
      clear hR hd
      simp only [List.getElem_toArray, List.getElem_cons_zero, List.getElem_cons_succ, fillR, Act.put, List.setIfInBounds_toArray, List.set_cons_zero, List.set_cons_succ, h1] at hK ⊢
      go_simp
      refine (to_any _ k m o g).mono ?_
      rintro e w' ⟨rfl, hW⟩
      have hq := hK.out (stv k m o g) w' (GrR.step (by omega) HR.out hW) (GrRel.below (by omega) hW) rfl
      clear hK hW
      go_wp2_with fail
      exact hq
    | 4, _ =>
      refine StepV.of rfl [] (by decide +kernel) ?_
      intro v wx hR hd K hK
      have hb := mnew wx (.cells #[.int .i64 0, .int .i64 0, .int .i64 0, .int .i64 0] 32)
      have hk := Blk.new wx 32 [.int .i64 0, .int .i64 0, .int .i64 0, .int .i64 0]
      have HR := Lib.hid (And.intro hR (And.intro hb hk))
      clear hR hd hb hk
      simp only [List.getElem_toArray, List.getElem_cons_zero, List.getElem_cons_succ, fillR, Act.put, List.setIfInBounds_toArray, List.set_cons_zero, List.set_cons_succ] at hK ⊢
      go_simp
      exact hK.out _ _ (GrR.four HR.out.1 HR.out.2.1 (by simp)) (GrRel.four (Nat.le_refl _) HR.out.2.1) ⟨_, _, rfl, HR.out.1.2.1, HR.out.2.2, rfl⟩
    | 5, _ =>
      refine StepV.of rfl [] (by decide +kernel) ?_
      intro v wx hR hd K hK
      have hb := mnew wx (.cells #[.int .i64 0, .int .i64 0, .int .i64 0, .int .i64 0] 32)
      have hk := Blk.new wx 32 [.int .i64 0, .int .i64 0, .int .i64 0, .int .i64 0]
      have HR := Lib.hid (And.intro hR (And.intro hb hk))
      clear hR hd hb hk
      simp only [List.getElem_toArray, List.getElem_cons_zero, List.getElem_cons_succ, fillR, Act.put, List.setIfInBounds_toArray, List.set_cons_zero, List.set_cons_succ] at hK ⊢
      go_simp
      exact hK.out _ _ (GrR.step (by omega) HR.out.1 HR.out.2.1) (GrRel.below (by omega) HR.out.2.1) ⟨_, _, rfl, HR.out.1.2.1, ⟨HR.out.2.2, rfl⟩, fun h => Nat.lt_irrefl _ (HR.out.1.2.2 _ h)⟩
    | 6, _ =>
      refine StepV.of rfl [4, 1] (by decide +kernel) ?_
      intro v wx hR hd K hK
      have h1 : v 1 = _ := hd 1 (by simp)
      have h2 := (hd 4 (by simp)).four
      have HR := Lib.hid hR
      clear hR hd
      simp only [List.getElem_toArray, List.getElem_cons_zero, List.getElem_cons_succ, fillR, Act.put, List.setIfInBounds_toArray, List.set_cons_zero, List.set_cons_succ, h1] at hK ⊢
      rw [if_pos (by rfl)]
      refine wp_store_stat (B := w.heap.size + 1) (k := k) (m := m) (o := o) (g := g) (.tmp 13) (.tmp 18) rfl (u := v 4) rfl h2 rfl ?_
      intro p cs hp hB hk hn ho
      exact hK.out undef _ (GrR.set (by omega) HR.out ho hB) (GrRel.store (by omega) hk hn ho) ⟨p, hp, hB, hn⟩
    | 7, _ =>
      refine StepV.of rfl [5, 3] (by decide +kernel) ?_
      intro v wx hR hd K hK
      have h1 : v 3 = _ := hd 3 (by simp)
      have h2 := five_four (hd 5 (by simp))
      have HR := Lib.hid hR
      clear hR hd
      simp only [List.getElem_toArray, List.getElem_cons_zero, List.getElem_cons_succ, fillR, Act.put, List.setIfInBounds_toArray, List.set_cons_zero, List.set_cons_succ, h1] at hK ⊢
      rw [if_pos (by rfl)]
      refine wp_store_stat (B := w.heap.size + 1) (k := k) (m := m) (o := o) (g := g) (.tmp 14) (.tmp 20) rfl (u := v 5) rfl h2 rfl ?_
      intro p cs hp hB hk hn ho
      exact hK.out undef _ (GrR.set (by omega) HR.out ho hB) (GrRel.store (by omega) hk hn ho) ⟨p, hp, hB, hn⟩
    | i + 8, h => omega
  · intro v wx hR hV
    obtain ⟨p, h4, hp, hkp⟩ := (hV 6 (by omega)).six
    obtain ⟨q, h5, hq, hkq⟩ := (hV 7 (by omega)).seven
    have hne : p ≠ q := by
      obtain ⟨q', cs, h5', _, _, hne⟩ := (hV 5 (by omega)).five
      rw [h4] at hne
      rw [h5] at h5'
      rintro rfl
      exact hne h5'
    simp only [fillR, Act.put, List.setIfInBounds_toArray, List.set_cons_zero, List.set_cons_succ, h4, h5]
    have hbw := HZ.out.2.trans (hR.1.mono (by omega))
    have hbs := HX.out.below (hR.1.mono hszw)
    obtain ⟨s0, s1, s2, s3⟩ := hbs.cells
    obtain ⟨x0, x1, x2, x3⟩ := hkp.cells
    obtain ⟨y0, y1, y2, y3⟩ := hkq.cells
    obtain ⟨f0, f1, f2, f3⟩ := hkq.free
    have hqs : w.heap.size ≠ q := by omega
    have HW := Lib.hid (And.intro hbw (And.intro hbs (And.intro hkp hkq)))
    have hq1 : w.heap.size ≤ q := by omega
    have hp1 : w.heap.size ≤ p := by omega
    clear hV hR hbw hbs hkp hkq hp hq h4 h5
    obtain ⟨mu, hmu⟩ : ∃ mu, IntKind.u64.wrap more = mu := ⟨_, rfl⟩
    have hmu0 : 0 ≤ mu ∧ mu ≤ 18446744073709551615 := by rw [← hmu, IntKind.wrap_u64]; omega
    obtain ⟨er, her⟩ : ∃ er, mu % 512 = er := ⟨_, rfl⟩
    have her0 : 0 ≤ er ∧ er < 512 := by omega
    obtain ⟨mu0, mu1⟩ := hmu0
    obtain ⟨er0, er1⟩ := her0
    obtain ⟨m2, hm2⟩ : ∃ m2, bits .or .i64 m er = m2 := ⟨_, rfl⟩
    have HM := Lib.hid (And.intro hmu (And.intro her hm2))
    have H2 := Lib.hid (And.intro (HW.out.1.setCell (p := ⟨q, 1, none⟩) hq1 (.int .i64 m2)) (And.intro (show Box (wx.setCell ⟨q, 1, none⟩ (.int .i64 m2)) p 32 k m o g from Blk.far HW.out.2.2.1 (p := ⟨q, 1, none⟩) hne (.int .i64 m2)) (show Box (wx.setCell ⟨q, 1, none⟩ (.int .i64 m2)) q 32 k m2 o g from Blk.set_ HW.out.2.2.2 1 (.int .i64 m2))))
    go_wp2_with fail
    generalize wx.setCell ⟨q, 1, none⟩ (.int .i64 m2) = w2 at H2 ⊢
    clear s0 s1 s2 s3 x0 x1 x2 x3 y0 y1 y2 y3 f0 f1 f2 f3 hmu her hm2
    by_cases hc : chk k m o g = 0
    · have HC := Lib.hid hc
      clear hc
      with_reducible refine (check_ok _ HC.out).mono ?_
      rintro e w3 ⟨rfl, h3⟩
      have H3 := Lib.hid (And.intro (mthen H2.out.1 h3) (And.intro (H2.out.2.1.below h3) (H2.out.2.2.below h3)))
      clear h3
      by_cases c0 : who < 0
      · skip
        go_wp2_with fail
        with_reducible refine (mknown_walk _ (HZ.out.1.below H3.out.1)).mono ?_
        rintro e w4 ⟨rfl, h4⟩
        have H4 := Lib.hid (mthen H3.out.1 h4)
        clear h4
        go_wp2_with fail
        go_ret
        exact ⟨rfl, H4.out⟩
      by_cases c1 : 65535 < who
      · skip
        go_wp2_with fail
        with_reducible refine (mknown_walk _ (HZ.out.1.below H3.out.1)).mono ?_
        rintro e w4 ⟨rfl, h4⟩
        have H4 := Lib.hid (mthen H3.out.1 h4)
        clear h4
        go_wp2_with fail
        go_ret
        exact ⟨rfl, H4.out⟩
      by_cases c2 : group < 0
      · skip
        go_wp2_with fail
        with_reducible refine (mknown_walk _ (HZ.out.1.below H3.out.1)).mono ?_
        rintro e w4 ⟨rfl, h4⟩
        have H4 := Lib.hid (mthen H3.out.1 h4)
        clear h4
        go_wp2_with fail
        go_ret
        exact ⟨rfl, H4.out⟩
      by_cases c3 : 65535 < group
      · skip
        go_wp2_with fail
        with_reducible refine (mknown_walk _ (HZ.out.1.below H3.out.1)).mono ?_
        rintro e w4 ⟨rfl, h4⟩
        have H4 := Lib.hid (mthen H3.out.1 h4)
        clear h4
        go_wp2_with fail
        go_ret
        exact ⟨rfl, H4.out⟩
      have w0 : 0 ≤ who := by omega
      have w1 : who ≤ 65535 := by omega
      have g0 : 0 ≤ group := by omega
      have g1 : group ≤ 65535 := by omega
      obtain ⟨ma, hma⟩ : ∃ ma, IntKind.u64.wrap a = ma := ⟨_, rfl⟩
      have hma0 : 0 ≤ ma ∧ ma ≤ 18446744073709551615 := by rw [← hma, IntKind.wrap_u64]; omega
      obtain ⟨mb, hmb⟩ : ∃ mb, IntKind.u64.wrap b = mb := ⟨_, rfl⟩
      have hmb0 : 0 ≤ mb ∧ mb ≤ 18446744073709551615 := by rw [← hmb, IntKind.wrap_u64]; omega
      obtain ⟨a', ha⟩ : ∃ a', ma % 8 = a' := ⟨_, rfl⟩
      obtain ⟨b', hb⟩ : ∃ b', mb % 8 = b' := ⟨_, rfl⟩
      have a0 : 0 ≤ a' := by omega
      have a1 : a' ≤ 7 := by omega
      have b0 : 0 ≤ b' := by omega
      have b1 : b' ≤ 7 := by omega
      obtain ⟨ma0, ma1⟩ := hma0
      obtain ⟨mb0, mb1⟩ := hmb0
      go_wp2_with fail
      clear hma hmb ha hb ma0 ma1 mb0 mb1
      obtain ⟨one, hone⟩ : ∃ one, canB k m o g who group [a'] = one := ⟨_, rfl⟩
      obtain ⟨two, htwo⟩ : ∃ two, canB k m o g who group [b'] = two := ⟨_, rfl⟩
      have HO := Lib.hid (And.intro hone htwo)
      clear hone htwo
      obtain ⟨x0, x1, x2, x3⟩ := H3.out.2.1.cells
      have X := Lib.hid H3.out.2.1.cells
      go_region_held3 (fun w' => w'.cell? ⟨p, 0, none⟩ = some (.int .i64 k) ∧ w'.cell? ⟨p, 1, none⟩ = some (.int .i64 m) ∧ w'.cell? ⟨p, 2, none⟩ = some (.int .i64 o) ∧ w'.cell? ⟨p, 3, none⟩ = some (.int .i64 g))
        (first | exact Z.out | exact cells_on Y.out (mnew _ _) | exact Y.out | exact cells_on X.out (mnewd _ _) | exact cells_on X.out (mthen (mnew _ _) (mnewd _ _)) | exact cells_on X.out (mdrew _) | exact cells_on X.out (mnew _ _) | exact X.out)
        (first
          | (go_at_call 15; ((with_reducible refine (can_of _ k m o g who group _ _ _ [b'] (NIn.one w4 3 b' (by omega) (by omega)) two HO.out.2).mono ?_); rintro e w5 ⟨rfl, h5⟩; have Z := Lib.hid (cells_on Y.out (mthen (mnew w4 (.cells #[.int .i64 b'] 3)) h5)); have HV5 := Lib.hid (mthen HV4.out (mthen (mnew w4 (.cells #[.int .i64 b'] 3)) h5)); clear h5))
          | (go_at_call 15; ((with_reducible refine (can_of _ k m o g who group _ _ _ [b'] HB4.out two HO.out.2).mono ?_); rintro e w5 ⟨rfl, h5⟩; have Z := Lib.hid (cells_on Y.out (h5)); have HV5 := Lib.hid (mthen HV4.out (h5)); clear h5))
          | (go_at_call 15; ((with_reducible refine (can_of _ k m o g who group _ _ _ [a'] ((NIn.one w3 3 a' (by omega) (by omega)).below (mdrew (w3.alloc (.cells #[.int .i64 a'] 3)))) one HO.out.1).mono ?_); rintro e w4 ⟨rfl, h4⟩; have HV4 := Lib.hid (mthen (mnewd w3 (.cells #[.int .i64 a'] 3)) h4); have Y := Lib.hid (cells_on X.out HV4.out); clear h4))
          | (go_at_call 15; ((with_reducible refine (can_of _ k m o g who group _ _ _ [a'] (((NIn.one w3 3 a' (by omega) (by omega)).below (mnew (w3.alloc (.cells #[.int .i64 a'] 3)) (.cells #[.int .i64 b'] 3))).below (mdrew ((w3.alloc (.cells #[.int .i64 a'] 3)).alloc (.cells #[.int .i64 b'] 3)))) one HO.out.1).mono ?_); rintro e w4 ⟨rfl, h4⟩; have HB4 : Hid (NIn w4 (some ⟨w3.heap.size + 1, 0, none⟩) 1 1 [b']) := Lib.hid (((NIn.one1 w3 (.cells #[.int .i64 a'] 3) 3 b' (by omega) (by omega)).below (mdrew ((w3.alloc (.cells #[.int .i64 a'] 3)).alloc (.cells #[.int .i64 b'] 3)))).below h4); have HV4 := Lib.hid (mthen (mthen (mnew w3 (.cells #[.int .i64 a'] 3)) (mnewd (w3.alloc (.cells #[.int .i64 a'] 3)) (.cells #[.int .i64 b'] 3))) h4); have Y := Lib.hid (cells_on X.out HV4.out); clear h4))
          | (go_at_call 15; ((with_reducible refine (can_of _ k m o g who group _ _ _ [a'] ((NIn.one1 w3 (.cells #[.int .i64 b'] 3) 3 a' (by omega) (by omega)).below (mdrew ((w3.alloc (.cells #[.int .i64 b'] 3)).alloc (.cells #[.int .i64 a'] 3)))) one HO.out.1).mono ?_); rintro e w4 ⟨rfl, h4⟩; have HB4 : Hid (NIn w4 (some ⟨w3.heap.size, 0, none⟩) 1 1 [b']) := Lib.hid ((((NIn.one w3 3 b' (by omega) (by omega)).below (mnew (w3.alloc (.cells #[.int .i64 b'] 3)) (.cells #[.int .i64 a'] 3))).below (mdrew ((w3.alloc (.cells #[.int .i64 b'] 3)).alloc (.cells #[.int .i64 a'] 3)))).below h4); have HV4 := Lib.hid (mthen (mthen (mnew w3 (.cells #[.int .i64 b'] 3)) (mnewd (w3.alloc (.cells #[.int .i64 b'] 3)) (.cells #[.int .i64 a'] 3))) h4); have Y := Lib.hid (cells_on X.out HV4.out); clear h4)))
      all_goals
        have H5 := Lib.hid (And.intro (mthen H3.out.1 HV5.out) (And.intro (H3.out.2.1.below HV5.out) (H3.out.2.2.below HV5.out)))
        have hor := or_bd a0 a1 b0 b1
        have HA : Hid ((one = true → canB k m2 o g who group [a'] = true) ∧ canB k m o g 0 group [a', b'] = true ∧ canB k m o g who group [a', b'] = (one && two) ∧ canB k m o g who group [bits .or .i64 a' b'] = (one && two)) := Lib.hid ⟨fun h => by
            rw [← HM.out.2.2]
            exact grow_more HC.out w0 w1 g0 g1 er0 er1 a0 a1 (HO.out.1.trans h), grow_all HC.out g0 g1 a0 a1 b0 b1, by rw [grow_two, HO.out.1, HO.out.2], by rw [grow_or a0 a1 b0 b1, HO.out.1, HO.out.2]⟩
        obtain ⟨ab, hab⟩ : ∃ ab, bits .or .i64 a' b' = ab := ⟨_, rfl⟩
        rw [hab] at HA hor
        obtain ⟨ab0, ab1⟩ := hor
        clear x0 x1 x2 x3
        cases one with
        | true =>
          cases two with
          | true =>
            have HG : Hid (canB k m2 o g who group [a'] = true ∧ canB k m o g 0 group [a', b'] = true ∧ canB k m o g who group [a', b'] = true ∧ canB k m o g who group [ab] = true) := Lib.hid ⟨HA.out.1 rfl, HA.out.2⟩
            go_wp2_with fail
            with_reducible refine (mknown_walk _ (HZ.out.1.below H5.out.1)).mono ?_
            rintro e w6 ⟨rfl, h6⟩
            have H6 := Lib.hid (And.intro (mthen H5.out.1 h6) (And.intro (H5.out.2.1.below h6) (H5.out.2.2.below h6)))
            clear h6
            obtain ⟨x0, x1, x2, x3⟩ := H6.out.2.1.cells
            obtain ⟨y0, y1, y2, y3⟩ := H6.out.2.2.cells
            go_wp2_with fail
            with_reducible refine (can_of _ k m2 o g who group _ _ _ [a'] (NIn.one w6 _ a' (by omega) (by omega)) true HG.out.1).mono ?_
            rintro e w7 ⟨rfl, h7⟩
            have H7 := Lib.hid (And.intro (mthen H6.out.1 (mthen (mnew _ _) h7)) (And.intro ((H6.out.2.1.below (mnew _ _)).below h7) ((H6.out.2.2.below (mnew _ _)).below h7)))
            clear h7 x0 x1 x2 x3 y0 y1 y2 y3
            obtain ⟨x0, x1, x2, x3⟩ := H7.out.2.1.cells
            obtain ⟨y0, y1, y2, y3⟩ := H7.out.2.2.cells
            go_wp2_with fail
            with_reducible refine (can_of _ k m o g 0 group _ _ _ [a', b'] (NIn.two w7 _ a' b' (by omega) (by omega) (by omega) (by omega)) true HG.out.2.1).mono ?_
            rintro e w8 ⟨rfl, h8⟩
            have H8 := Lib.hid (And.intro (mthen H7.out.1 (mthen (mnew _ _) h8)) (And.intro ((H7.out.2.1.below (mnew _ _)).below h8) ((H7.out.2.2.below (mnew _ _)).below h8)))
            clear h8 x0 x1 x2 x3 y0 y1 y2 y3
            obtain ⟨x0, x1, x2, x3⟩ := H8.out.2.1.cells
            obtain ⟨y0, y1, y2, y3⟩ := H8.out.2.2.cells
            go_wp2_with fail
            with_reducible refine (can_of _ k m o g who group _ _ _ [a', b'] (NIn.two w8 _ a' b' (by omega) (by omega) (by omega) (by omega)) _ HG.out.2.2.1).mono ?_
            rintro e w9 ⟨rfl, h9⟩
            have H9 := Lib.hid (And.intro (mthen H8.out.1 (mthen (mnew _ _) h9)) (And.intro ((H8.out.2.1.below (mnew _ _)).below h9) ((H8.out.2.2.below (mnew _ _)).below h9)))
            clear h9 x0 x1 x2 x3 y0 y1 y2 y3
            obtain ⟨x0, x1, x2, x3⟩ := H9.out.2.1.cells
            obtain ⟨y0, y1, y2, y3⟩ := H9.out.2.2.cells
            go_wp2_with fail
            with_reducible refine (can_of _ k m o g who group _ _ _ [ab] (NIn.one w9 _ ab (by omega) (by omega)) _ HG.out.2.2.2).mono ?_
            rintro e w10 ⟨rfl, h10⟩
            have H10 := Lib.hid (And.intro (mthen H9.out.1 (mthen (mnew _ _) h10)) (And.intro ((H9.out.2.1.below (mnew _ _)).below h10) ((H9.out.2.2.below (mnew _ _)).below h10)))
            clear h10 x0 x1 x2 x3 y0 y1 y2 y3
            obtain ⟨x0, x1, x2, x3⟩ := H10.out.2.1.cells
            obtain ⟨y0, y1, y2, y3⟩ := H10.out.2.2.cells
            go_wp2_with fail
            go_ret
            exact ⟨rfl, H10.out.1⟩
          | false =>
            have HG : Hid (canB k m2 o g who group [a'] = true ∧ canB k m o g 0 group [a', b'] = true ∧ canB k m o g who group [a', b'] = false ∧ canB k m o g who group [ab] = false) := Lib.hid ⟨HA.out.1 rfl, HA.out.2⟩
            go_wp2_with fail
            with_reducible refine (mknown_walk _ (HZ.out.1.below H5.out.1)).mono ?_
            rintro e w6 ⟨rfl, h6⟩
            have H6 := Lib.hid (And.intro (mthen H5.out.1 h6) (And.intro (H5.out.2.1.below h6) (H5.out.2.2.below h6)))
            clear h6
            obtain ⟨x0, x1, x2, x3⟩ := H6.out.2.1.cells
            obtain ⟨y0, y1, y2, y3⟩ := H6.out.2.2.cells
            go_wp2_with fail
            with_reducible refine (can_of _ k m2 o g who group _ _ _ [a'] (NIn.one w6 _ a' (by omega) (by omega)) true HG.out.1).mono ?_
            rintro e w7 ⟨rfl, h7⟩
            have H7 := Lib.hid (And.intro (mthen H6.out.1 (mthen (mnew _ _) h7)) (And.intro ((H6.out.2.1.below (mnew _ _)).below h7) ((H6.out.2.2.below (mnew _ _)).below h7)))
            clear h7 x0 x1 x2 x3 y0 y1 y2 y3
            obtain ⟨x0, x1, x2, x3⟩ := H7.out.2.1.cells
            obtain ⟨y0, y1, y2, y3⟩ := H7.out.2.2.cells
            go_wp2_with fail
            with_reducible refine (can_of _ k m o g 0 group _ _ _ [a', b'] (NIn.two w7 _ a' b' (by omega) (by omega) (by omega) (by omega)) true HG.out.2.1).mono ?_
            rintro e w8 ⟨rfl, h8⟩
            have H8 := Lib.hid (And.intro (mthen H7.out.1 (mthen (mnew _ _) h8)) (And.intro ((H7.out.2.1.below (mnew _ _)).below h8) ((H7.out.2.2.below (mnew _ _)).below h8)))
            clear h8 x0 x1 x2 x3 y0 y1 y2 y3
            obtain ⟨x0, x1, x2, x3⟩ := H8.out.2.1.cells
            obtain ⟨y0, y1, y2, y3⟩ := H8.out.2.2.cells
            go_wp2_with fail
            with_reducible refine (can_of _ k m o g who group _ _ _ [a', b'] (NIn.two w8 _ a' b' (by omega) (by omega) (by omega) (by omega)) _ HG.out.2.2.1).mono ?_
            rintro e w9 ⟨rfl, h9⟩
            have H9 := Lib.hid (And.intro (mthen H8.out.1 (mthen (mnew _ _) h9)) (And.intro ((H8.out.2.1.below (mnew _ _)).below h9) ((H8.out.2.2.below (mnew _ _)).below h9)))
            clear h9 x0 x1 x2 x3 y0 y1 y2 y3
            obtain ⟨x0, x1, x2, x3⟩ := H9.out.2.1.cells
            obtain ⟨y0, y1, y2, y3⟩ := H9.out.2.2.cells
            go_wp2_with fail
            with_reducible refine (can_of _ k m o g who group _ _ _ [ab] (NIn.one w9 _ ab (by omega) (by omega)) _ HG.out.2.2.2).mono ?_
            rintro e w10 ⟨rfl, h10⟩
            have H10 := Lib.hid (And.intro (mthen H9.out.1 (mthen (mnew _ _) h10)) (And.intro ((H9.out.2.1.below (mnew _ _)).below h10) ((H9.out.2.2.below (mnew _ _)).below h10)))
            clear h10 x0 x1 x2 x3 y0 y1 y2 y3
            obtain ⟨x0, x1, x2, x3⟩ := H10.out.2.1.cells
            obtain ⟨y0, y1, y2, y3⟩ := H10.out.2.2.cells
            go_wp2_with fail
            go_ret
            exact ⟨rfl, H10.out.1⟩
        | false =>
          cases two with
          | true =>
            have HG : Hid (True ∧ canB k m o g 0 group [a', b'] = true ∧ canB k m o g who group [a', b'] = false ∧ canB k m o g who group [ab] = false) := Lib.hid ⟨trivial, HA.out.2⟩
            go_wp2_with fail
            with_reducible refine (mknown_walk _ (HZ.out.1.below H5.out.1)).mono ?_
            rintro e w6 ⟨rfl, h6⟩
            have H6 := Lib.hid (And.intro (mthen H5.out.1 h6) (And.intro (H5.out.2.1.below h6) (H5.out.2.2.below h6)))
            clear h6
            obtain ⟨x0, x1, x2, x3⟩ := H6.out.2.1.cells
            obtain ⟨y0, y1, y2, y3⟩ := H6.out.2.2.cells
            go_wp2_with fail
            with_reducible refine (can_of _ k m o g 0 group _ _ _ [a', b'] (NIn.two w6 _ a' b' (by omega) (by omega) (by omega) (by omega)) true HG.out.2.1).mono ?_
            rintro e w7 ⟨rfl, h7⟩
            have H7 := Lib.hid (And.intro (mthen H6.out.1 (mthen (mnew _ _) h7)) (And.intro ((H6.out.2.1.below (mnew _ _)).below h7) ((H6.out.2.2.below (mnew _ _)).below h7)))
            clear h7 x0 x1 x2 x3 y0 y1 y2 y3
            obtain ⟨x0, x1, x2, x3⟩ := H7.out.2.1.cells
            obtain ⟨y0, y1, y2, y3⟩ := H7.out.2.2.cells
            go_wp2_with fail
            with_reducible refine (can_of _ k m o g who group _ _ _ [a', b'] (NIn.two w7 _ a' b' (by omega) (by omega) (by omega) (by omega)) _ HG.out.2.2.1).mono ?_
            rintro e w8 ⟨rfl, h8⟩
            have H8 := Lib.hid (And.intro (mthen H7.out.1 (mthen (mnew _ _) h8)) (And.intro ((H7.out.2.1.below (mnew _ _)).below h8) ((H7.out.2.2.below (mnew _ _)).below h8)))
            clear h8 x0 x1 x2 x3 y0 y1 y2 y3
            obtain ⟨x0, x1, x2, x3⟩ := H8.out.2.1.cells
            obtain ⟨y0, y1, y2, y3⟩ := H8.out.2.2.cells
            go_wp2_with fail
            with_reducible refine (can_of _ k m o g who group _ _ _ [ab] (NIn.one w8 _ ab (by omega) (by omega)) _ HG.out.2.2.2).mono ?_
            rintro e w9 ⟨rfl, h9⟩
            have H9 := Lib.hid (And.intro (mthen H8.out.1 (mthen (mnew _ _) h9)) (And.intro ((H8.out.2.1.below (mnew _ _)).below h9) ((H8.out.2.2.below (mnew _ _)).below h9)))
            clear h9 x0 x1 x2 x3 y0 y1 y2 y3
            obtain ⟨x0, x1, x2, x3⟩ := H9.out.2.1.cells
            obtain ⟨y0, y1, y2, y3⟩ := H9.out.2.2.cells
            go_wp2_with fail
            go_ret
            exact ⟨rfl, H9.out.1⟩
          | false =>
            have HG : Hid (True ∧ canB k m o g 0 group [a', b'] = true ∧ canB k m o g who group [a', b'] = false ∧ canB k m o g who group [ab] = false) := Lib.hid ⟨trivial, HA.out.2⟩
            go_wp2_with fail
            with_reducible refine (mknown_walk _ (HZ.out.1.below H5.out.1)).mono ?_
            rintro e w6 ⟨rfl, h6⟩
            have H6 := Lib.hid (And.intro (mthen H5.out.1 h6) (And.intro (H5.out.2.1.below h6) (H5.out.2.2.below h6)))
            clear h6
            obtain ⟨x0, x1, x2, x3⟩ := H6.out.2.1.cells
            obtain ⟨y0, y1, y2, y3⟩ := H6.out.2.2.cells
            go_wp2_with fail
            with_reducible refine (can_of _ k m o g 0 group _ _ _ [a', b'] (NIn.two w6 _ a' b' (by omega) (by omega) (by omega) (by omega)) true HG.out.2.1).mono ?_
            rintro e w7 ⟨rfl, h7⟩
            have H7 := Lib.hid (And.intro (mthen H6.out.1 (mthen (mnew _ _) h7)) (And.intro ((H6.out.2.1.below (mnew _ _)).below h7) ((H6.out.2.2.below (mnew _ _)).below h7)))
            clear h7 x0 x1 x2 x3 y0 y1 y2 y3
            obtain ⟨x0, x1, x2, x3⟩ := H7.out.2.1.cells
            obtain ⟨y0, y1, y2, y3⟩ := H7.out.2.2.cells
            go_wp2_with fail
            with_reducible refine (can_of _ k m o g who group _ _ _ [a', b'] (NIn.two w7 _ a' b' (by omega) (by omega) (by omega) (by omega)) _ HG.out.2.2.1).mono ?_
            rintro e w8 ⟨rfl, h8⟩
            have H8 := Lib.hid (And.intro (mthen H7.out.1 (mthen (mnew _ _) h8)) (And.intro ((H7.out.2.1.below (mnew _ _)).below h8) ((H7.out.2.2.below (mnew _ _)).below h8)))
            clear h8 x0 x1 x2 x3 y0 y1 y2 y3
            obtain ⟨x0, x1, x2, x3⟩ := H8.out.2.1.cells
            obtain ⟨y0, y1, y2, y3⟩ := H8.out.2.2.cells
            go_wp2_with fail
            with_reducible refine (can_of _ k m o g who group _ _ _ [ab] (NIn.one w8 _ ab (by omega) (by omega)) _ HG.out.2.2.2).mono ?_
            rintro e w9 ⟨rfl, h9⟩
            have H9 := Lib.hid (And.intro (mthen H8.out.1 (mthen (mnew _ _) h9)) (And.intro ((H8.out.2.1.below (mnew _ _)).below h9) ((H8.out.2.2.below (mnew _ _)).below h9)))
            clear h9 x0 x1 x2 x3 y0 y1 y2 y3
            obtain ⟨x0, x1, x2, x3⟩ := H9.out.2.1.cells
            obtain ⟨y0, y1, y2, y3⟩ := H9.out.2.2.cells
            go_wp2_with fail
            go_ret
            exact ⟨rfl, H9.out.1⟩
    · have HC := Lib.hid hc
      clear hc
      with_reducible refine (check_bad _ HC.out).mono ?_
      rintro e w3 ⟨z, rfl, hz, h3⟩
      obtain ⟨q1, q2, q3⟩ := eqB_false (show ¬ z = 0 by rw [hz]; exact HC.out)
      have H3 := Lib.hid (And.intro (mthen H2.out.1 h3) (And.intro (H2.out.2.1.below h3) (H2.out.2.2.below h3)))
      clear h3 hz
      go_wp2_with fail
      with_reducible refine (mknown_walk _ (HZ.out.1.below H3.out.1)).mono ?_
      rintro e w4 ⟨rfl, h4⟩
      have H4 := Lib.hid (mthen H3.out.1 h4)
      clear h4
      go_wp2_with fail
      go_ret
      exact ⟨rfl, H4.out⟩
end Go.Proofs.YtobklbangjjocaaDoor
