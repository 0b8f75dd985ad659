/-
  Appending onto nothing without room, and the words for what a drawn region makes: rows, bytes. Conditions: what is appended lies in memory.
-/
import Derived.Test.YtkmkblhmjeeaeaaGreatDoorM20
import Derived.Test.YtkmkblhmjeeaeaaGreatDoorM22
import Derived.Test.YtkmkblhmjeeaeaaGreatDoorM21
import Derived.Deep.AppendSrc
import Derived.Test.YtkmkblhmjeeaeaaGreatDoorM14
section
set_option linter.unusedSimpArgs false
set_option linter.unusedVariables false
set_option maxRecDepth 100000
namespace Go.Proofs.YtkmkblhmjeeaeaaGreatDoor
open Go.RowKit Go.Maps

section
variable {P : Program} {ρ : Operand → Value} {o : Oper} {w : World}
/-- 'append(nothing, x..)', of something, onto a slice without room. -/
theorem x_app_new {s x : Operand} {t e : TypeId} {z : Value} {size bytes : Nat} (ho : o.op = .call { callee := .builtin .append, args := #[s, x], argTypes := #[t, t] }) (ht : P.underlying t = some (.slice e)) (hi : (P.info? e).map (fun i => (i.zero, i.size, i.bytes)) = some (some z, size, bytes))
    {R : Option Addr} (hs : ρ s = .slice R 0 0) {g off m c : Nat} (hx : ρ x = .slice (some ⟨g, off, none⟩) m c) (news : List Value) (hl : news.length = m * size) (hnews : ∀ (j : Nat) u, news[j]? = some u → w.cell? ⟨g, off + j, none⟩ = some u) (h1 : ∀ u ∈ news, u.oneCell' = true) (hm : 0 < m) (hmx : m ≤ 1000000) (hb : bytes ≤ 1000) :
    ∃ cap es, (execOp ρ o).run P w = .ok (.value (.slice (some ⟨w.heap.size, 0, none⟩) m cap)) (w.drew.alloc (.cells (news ++ es).toArray e)) ∧ m ≤ cap ∧ cap ≤ maxLen := by
  obtain ⟨i, i1, i2, i3, i4⟩ := info_parts hi
  subst i3
  have hsrc := Src.ofSlice (P := P) w (tx := t) ht ⟨g, off, none⟩ m c news hl (fun j u hu => by rw [addr_add]; exact hnews j u hu) h1
  have hr := run_append_grow_src (P := P) w t t o.type e i z ht i1 i2 R 0 0 [] (by cases R <;> simp [Builtin.firstCells, loadCells, loadCellsFrom]) (.slice (some ⟨g, off, none⟩) m c) m news hsrc (by omega) (by omega) (by
    rw [Nat.zero_add, nextslicecap_zero hm, i4]
    exact Nat.le_trans (Nat.mul_le_mul hmx hb) (by omega))
  rw [Nat.zero_add] at hr
  refine ⟨grownCap w m 0 e, (Builtin.zeroCells z.cells (grownCap w m 0 e - m)).toList, ?_, grownCap_ge w m 0 e, grownCap_le_maxLen w m 0 e (by unfold maxLen; omega)⟩
  unfold execOp resolve
  rw [ho]
  simp only [invoke, builtin, Sem.run_bind, Sem.run_pure, Result.andThen_ok, List.map_toArray, List.map_cons, List.map_nil, hs, hx, hr]
  have e1 : (([] ++ news).toArray ++ Builtin.zeroCells z.cells (grownCap w m 0 e - m)) = (news ++ (Builtin.zeroCells z.cells (grownCap w m 0 e - m)).toList).toArray := by
    apply Array.ext'
    simp
  rw [e1]
/-- .. of nothing. -/
theorem x_app_none {s x : Operand} {t e : TypeId} {i : TypeInfo} (ho : o.op = .call { callee := .builtin .append, args := #[s, x], argTypes := #[t, t] }) (ht : P.underlying t = some (.slice e)) (hi : P.info? e = some i)
    {R S : Option Addr} {q c : Nat} (hs : ρ s = .slice R 0 q) (hx : ρ x = .slice S 0 c) : (execOp ρ o).run P w = .ok (.value (.slice R 0 q)) w := by
  have hrun := run_append_nothing (P := P) w t t o.type e i ht hi R 0 q (Nat.zero_le _) (.slice S 0 c)
    ⟨.inl ⟨_, ht⟩, fun w' => by cases S <;> simp [Builtin.lenOf], by cases S <;> simp [Builtin.firstCells, loadCells, loadCellsFrom], by cases S <;> simp [Builtin.firstCells, loadCells, loadCellsFrom], by simp, by simp⟩
  unfold execOp resolve
  simp only [ho, invoke, builtin, Sem.run_bind, Sem.run_pure, Result.andThen_ok, List.map_toArray, List.map_cons, List.map_nil, hs, hx, hrun]
end
section
variable {P : Program} {ρ : Operand → Value} {o : Oper} {w : World} {G : Value → World → Prop}
theorem xe_app_new {s x : Operand} {t e : TypeId} {z : Value} {size bytes : Nat} (ho : o.op = .call { callee := .builtin .append, args := #[s, x], argTypes := #[t, t] }) (ht : P.underlying t = some (.slice e)) (hi : (P.info? e).map (fun i => (i.zero, i.size, i.bytes)) = some (some z, size, bytes))
    {R : Option Addr} (hs : ρ s = .slice R 0 0) {g off m c : Nat} (hx : ρ x = .slice (some ⟨g, off, none⟩) m c) (news : List Value) (hl : news.length = m * size) (hnews : ∀ (j : Nat) u, news[j]? = some u → w.cell? ⟨g, off + j, none⟩ = some u) (h1 : ∀ u ∈ news, u.oneCell' = true) (hm : 0 < m) (hmx : m ≤ 1000000) (hb : bytes ≤ 1000)
    (hG : ∀ cap es, m ≤ cap → cap ≤ maxLen → G (.slice (some ⟨w.heap.size, 0, none⟩) m cap) (w.drew.alloc (.cells (news ++ es).toArray e))) : ∃ y w', (execOp ρ o).run P w = .ok (.value y) w' ∧ G y w' := by
  obtain ⟨cap, es, hr, h2, h3⟩ := x_app_new ho ht hi hs hx news hl hnews h1 hm hmx hb
  exact ⟨_, _, hr, hG cap es h2 h3⟩
theorem xe_ex {y : Value} {w' : World} (hr : (execOp ρ o).run P w = .ok (.value y) w') (hG : G y w') : ∃ y w', (execOp ρ o).run P w = .ok (.value y) w' ∧ G y w' := ⟨_, _, hr, hG⟩
end
theorem drew_alloc_below (w : World) (ob : Obj) : Below w.heap.size w (w.drew.alloc ob) := (drew_below w).trans (new_below w.drew ob)
/-- A slice without elements, in a block of one's own. -/
def noV (t : TypeId) (b0 : Nat) : Value → World → Prop := fun u w => ∃ p, u = .slice (some ⟨p, 0, none⟩) 0 0 ∧ b0 ≤ p ∧ Blk w p t []
theorem noV.st (t : TypeId) (b0 : Nat) : StV (noV t b0) := fun _ _ _ ⟨p, h1, h2, h3⟩ hb => ⟨p, h1, h2, h3.below hb h3.lt⟩
/-- A slice of so many elements, whose cells are known. -/
def rowV' (t : TypeId) (b0 m : Nat) (cs : List Value) : Value → World → Prop := fun u w => ∃ g cap es, u = .slice (some ⟨g, 0, none⟩) m cap ∧ b0 ≤ g ∧ m ≤ cap ∧ cap ≤ maxLen ∧ Blk w g t (cs ++ es)
theorem rowV'.st (t : TypeId) (b0 m : Nat) (cs : List Value) : StV (rowV' t b0 m cs) := fun _ _ _ ⟨g, c, es, h1, h2, h3, h4, h5⟩ hb => ⟨g, c, es, h1, h2, h3, h4, h5.below hb h5.lt⟩
/-- Bytes of one's own. -/
def btsV (b0 n : Nat) (data : List B8) : Value → World → Prop := fun u w => ∃ Q c, u = .slice Q n c ∧ Bts (fun q => b0 ≤ q) w (.slice Q n c) data
theorem btsV.st (b0 n : Nat) (data : List B8) : StV (btsV b0 n data) := fun _ _ _ ⟨Q, c, h1, h2⟩ hb => ⟨Q, c, h1, h2.below hb⟩
section
variable {ρ : Operand → Value} {o : Oper} {w : World}
/-- 'append([]byte{}, x..)'. -/
theorem x_app_bts {s x : Operand} (ho : o.op = .call { callee := .builtin .append, args := #[s, x], argTypes := #[40, 40] }) {p b0 : Nat} (hs : ρ s = .slice (some ⟨p, 0, none⟩) 0 0) (hb0 : b0 ≤ p) (hp : Blk w p 5 []) (hbs : b0 ≤ w.heap.size) {S : Option Addr} {n c : Nat} {data : List B8} (hx : ρ x = .slice S n c) (hd : RdB w S n data) (hn : n ≤ 1000000) :
    ∃ Q q w', (execOp ρ o).run Tryz.prog w = .ok (.value (.slice Q n q)) w' ∧ Below w.heap.size w w' ∧ Bts (fun g => b0 ≤ g) w' (.slice Q n q) data := by
  have hl := hd.len
  by_cases h0 : 0 < n
  · obtain ⟨g, off, rfl, hcell⟩ := hd.cells h0
    obtain ⟨cap, es, hr, h1, h2⟩ := x_app_new (P := Tryz.prog) (w := w) ho Tryz.underlying40 (show (Tryz.prog.info? 5).map (fun i => (i.zero, i.size, i.bytes)) = some (some (.int .u8 0), 1, 1) by kernel_rfl) hs hx (Vb data) (by rw [Vb_length, hl, Nat.mul_one]) hcell (Vb_oneCell data) h0 hn (by omega)
    refine ⟨_, _, _, hr, drew_alloc_below _ _, ?_⟩
    have hk := Blk.new w.drew 5 (Vb data ++ es)
    refine Bts.of_blk hk (.inl rfl) hbs ?_ hl h1 h2
    rw [List.drop_zero, List.take_left' (by rw [Vb_length])]
  · obtain rfl : n = 0 := by omega
    obtain rfl := List.eq_nil_of_length_eq_zero hl
    obtain ⟨i0, i1, _⟩ := ibyte_info
    refine ⟨_, _, w, x_app_none (P := Tryz.prog) (w := w) ho Tryz.underlying40 i1 hs hx, Below.refl _ _, ?_⟩
    exact .inr ⟨p, 0, 0, 5, [], rfl, hb0, .inl rfl, hp, by simp [Vb], Nat.zero_le _, by decide⟩
end
theorem xe_app_bts {ρ : Operand → Value} {o : Oper} {w : World} {G : Value → World → Prop} {s x : Operand} (ho : o.op = .call { callee := .builtin .append, args := #[s, x], argTypes := #[40, 40] }) {p b0 : Nat} (hs : ρ s = .slice (some ⟨p, 0, none⟩) 0 0) (hb0 : b0 ≤ p) (hp : Blk w p 5 []) (hbs : b0 ≤ w.heap.size) {S : Option Addr} {n c : Nat} {data : List B8} (hx : ρ x = .slice S n c) (hd : RdB w S n data) (hn : n ≤ 1000000)
    (hG : ∀ Q q w', Below w.heap.size w w' → Bts (fun g => b0 ≤ g) w' (.slice Q n q) data → G (.slice Q n q) w') : ∃ y w', (execOp ρ o).run Tryz.prog w = .ok (.value y) w' ∧ G y w' := by
  obtain ⟨Q, q, w', hr, h2, h3⟩ := x_app_bts ho hs hb0 hp hbs hx hd hn
  exact ⟨_, _, hr, hG Q q w' h2 h3⟩
theorem RdB.of_bts {A : Nat → Prop} {w : World} {P : Option Addr} {n c : Nat} {data : List B8} (h : Bts A w (.slice P n c) data) : RdB w P n data := by
  obtain ⟨h1, h2⟩ := h.cells
  refine ⟨h1, fun hn => ?_⟩
  obtain ⟨g, o, h3, _, _, h4⟩ := h2 hn
  exact ⟨g, o, h3, h4⟩
/-- The document's table, boxed. -/
def docV (A : Nat → Prop) (ts : List (Nv × Bool)) (bl : Int) : Value → World → Prop := fun u w => ∃ p gN gI cN cI eN eI, u = .pointer (some ⟨p, 0, none⟩) ∧ TbO A w p gN gI cN cI eN eI ts bl
theorem docV.st (A : Nat → Prop) (ts : List (Nv × Bool)) (bl : Int) : StV (docV A ts bl) := fun _ _ _ ⟨p, gN, gI, cN, cI, eN, eI, h1, h2⟩ hb => ⟨p, gN, gI, cN, cI, eN, eI, h1, h2.below hb⟩
theorem nvC_cells (x : Nv) : ∀ u ∈ nvC x, u.oneCell' = true := node_cells _ _ _ _ _ _ _
theorem rowN_cells : ∀ (ts : List (Nv × Bool)), ∀ u ∈ rowN ts, u.oneCell' = true
  | [], u, h => by cases h
  | x :: r, u, h => by
    rcases List.mem_append.1 (show u ∈ nvC x.1 ++ rowN r from h) with h | h
    · exact nvC_cells _ u h
    · exact rowN_cells r u h
theorem rowI_cells (ts : List (Nv × Bool)) : ∀ u ∈ rowI ts, u.oneCell' = true := by
  intro u h
  unfold rowI at h
  obtain ⟨x, _, rfl⟩ := List.mem_map.1 h
  rfl
end Go.Proofs.YtkmkblhmjeeaeaaGreatDoor
end

/-
  The document's Apply: what it makes of a table. Conditions: the table and the changes lie in memory; the changes are right; at most 400 nodes.
-/

section
set_option linter.unusedSimpArgs false
set_option linter.unusedVariables false
set_option maxRecDepth 100000
namespace Go.Proofs.YtkmkblhmjeeaeaaGreatDoor
open Go.RowKit Go.Maps

theorem noslice_N (w : World) : (Instr.buildSlice 68 0 #[]).run Tryz.prog w = .ok (.slice (some ⟨w.heap.size, 0, none⟩) 0 0) (w.alloc (.cells #[] 53)) := by kernel_rfl
theorem noslice_I (w : World) : (Instr.buildSlice 69 0 #[]).run Tryz.prog w = .ok (.slice (some ⟨w.heap.size, 0, none⟩) 0 0) (w.alloc (.cells #[] 4)) := by kernel_rfl
theorem noslice_B (w : World) : (Instr.buildSlice 40 0 #[]).run Tryz.prog w = .ok (.slice (some ⟨w.heap.size, 0, none⟩) 0 0) (w.alloc (.cells #[] 5)) := by kernel_rfl
theorem build_tab (w : World) (P Q : Option Addr) (n c m d : Nat) (K : Int) : (Instr.build 71 #[(0, .slice P n c), (1, .slice Q m d), (2, .int .i64 K)]).run Tryz.prog w = .ok (.agg #[.slice P n c, .slice Q m d, .int .i64 K]) w := by kernel_rfl
theorem build_node (w : World) (k m o g : Int) (P : Option Addr) (n c : Nat) : (Instr.build 53 #[(0, stv k m o g), (1, .slice P n c)]).run Tryz.prog w = .ok (nodeV k m o g P n c) w := by kernel_rfl
theorem box_tab (w : World) (a b c : Value) : (Instr.box 71 (.agg #[a, b, c])).run Tryz.prog w = .ok (.pointer (some ⟨w.heap.size, 0, none⟩)) (w.alloc (.cells #[a, b, c] 71)) := by kernel_rfl
theorem rowI_length (ts : List (Nv × Bool)) : (rowI ts).length = ts.length := by unfold rowI; rw [List.length_map]
/-- The table's three parts. -/
def tabV (b0 : Nat) (ts : List (Nv × Bool)) (N : Nat) (K : Int) : Value → World → Prop := fun u w => ∃ g5 c5 e5 g11 c11 e11, u = .agg #[.slice (some ⟨g5, 0, none⟩) N c5, .slice (some ⟨g11, 0, none⟩) N c11, .int .i64 K] ∧ b0 ≤ g5 ∧ b0 ≤ g11 ∧ Blk w g5 53 (rowN ts ++ e5) ∧ Blk w g11 4 (rowI ts ++ e11)
theorem tabV.st (b0 : Nat) (ts : List (Nv × Bool)) (N : Nat) (K : Int) : StV (tabV b0 ts N K) := fun _ _ _ ⟨g5, c5, e5, g11, c11, e11, h1, h2, h3, h4, h5⟩ hb => ⟨g5, c5, e5, g11, c11, e11, h1, h2, h3, h4.below hb h4.lt, h5.below hb h5.lt⟩
/-- A node with bytes of its own. -/
def nodeW (b0 : Nat) (k m o g : Int) (n : Nat) (data : List B8) : Value → World → Prop := fun u w => ∃ Q c, u = nodeV k m o g Q n c ∧ Bts (fun q => b0 ≤ q) w (.slice Q n c) data
theorem nodeW.st (b0 : Nat) (k m o g : Int) (n : Nat) (data : List B8) : StV (nodeW b0 k m o g n data) := fun _ _ _ ⟨Q, c, h1, h2⟩ hb => ⟨Q, c, h1, h2.below hb⟩
theorem good_take {N : Nat} {lc : List Ch} (h : Good7 N lc) (i : Nat) : Good7 N (lc.take i) :=
  ⟨fun c hc => h.no c (List.mem_of_mem_take hc), by rw [List.map_take]; exact List.Pairwise.sublist (List.take_sublist _ _) h.nd, fun c hc => h.ok c (List.mem_of_mem_take hc)⟩
/-- What holds on the way, of so many changes. -/
theorem mid_take {f : Tab} {N K : Nat} {lc : List Ch} (hw : Wf f N K) (hg : Good7 N lc) {i : Nat} {s : List Nat × Tab} (h : bfold (frees (cleared f lc) N K, cleared f lc) (lc.take i) = some s) : Mid N K s :=
  mid_fold (mid_start (cleared_wf hw lc)) (good_take hg i) (fun c hc => cleared_at hg c (List.mem_of_mem_take hc)) h
theorem free_at {f : Tab} {N K : Nat} {lc : List Ch} (hg : Good7 N lc) {i : Nat} {c : Ch} (hc : lc[i]? = some c) {s : List Nat × Tab} (h : bfold (frees (cleared f lc) N K, cleared f lc) (lc.take i) = some s) : s.2 c.no.toNat = none := by
  rw [fold_other (i := c.no.toNat) (fun d hd => ?_) h]
  · exact cleared_at hg c (List.mem_of_getElem? hc)
  · intro e
    obtain ⟨j, hj⟩ := List.getElem?_of_mem hd
    rw [List.getElem?_take] at hj
    split at hj
    · rename_i hji
      have h1 := hg.no d (List.mem_of_getElem? hj)
      have h2 := hg.no c (List.mem_of_getElem? hc)
      have h3 : (lc.map Ch.no)[j]? = some c.no := by rw [List.getElem?_map, hj]; simp; omega
      have h4 : (lc.map Ch.no)[i]? = some c.no := by rw [List.getElem?_map, hc]; rfl
      have h5 := (List.getElem?_eq_some_iff.1 h3).1
      have := (List.getElem?_inj h5 hg.nd).1 (h3.trans h4.symm)
      omega
    · cases hj
theorem nwr_take_succ {lc : List Ch} {i : Nat} {c : Ch} (hc : lc[i]? = some c) : nwr (lc.take (i + 1)) = nwr (lc.take i) + 1 + need c := by
  rw [List.take_add_one, hc, nwr_append]
  simp [nwr]
  omega
theorem nwr_le {N : Nat} : ∀ {lc : List Ch}, Good7 N lc → nwr lc ≤ lc.length * 9
  | [], _ => Nat.le_refl _
  | c :: l, h => by
    have h1 := nwr_le h.tail
    have h2 : need c ≤ 8 := by
      unfold need
      cases hd : c.drop with
      | true => simp
      | false => simp; exact blks_8 (h.ok c List.mem_cons_self hd).2
    rw [nwr, List.length_cons]
    omega
/-- What Apply answers. -/
def RApplyPost (A : Nat → Prop) (w0 : World) (p : Nat) (f : Tab) (N K m : Nat) (lc : List Ch) (e : Ending) (w : World) : Prop := Below w0.heap.size w0 w ∧ match tabBehind f N K lc with
  | none => e = .returned (.tuple #[.pointer (some ⟨p, 0, none⟩), .int .i64 6])
  | some g => if m < nwr lc then e = .returned (.tuple #[.pointer (some ⟨p, 0, none⟩), .int .i64 6]) else
    ∃ p' gN gI cN cI eN eI ts, e = .returned (.tuple #[.pointer (some ⟨p', 0, none⟩), .int .i64 0]) ∧ TbO (fun q => w0.heap.size ≤ q) w p' gN gI cN cI eN eI ts (K : Int) ∧ ts.length = N ∧ (∀ x ∈ ts, x.1.n ≤ 512) ∧ DocIs (fun q => A q ∨ w0.heap.size ≤ q) w ts g
/-- Where the first loop stands. -/
def ClrAt (A : Nat → Prop) (b0 p8 gN8 gI8 cN8 cI8 : Nat) (eN8 eI8 : List Value) (N K : Nat) (f : Tab) (lc : List Ch) (i : Nat) (w : World) : Prop := ∃ ts, TbO (fun q => b0 ≤ q) w p8 gN8 gI8 cN8 cI8 eN8 eI8 ts (K : Int) ∧ ts.length = N ∧ (∀ x ∈ ts, x.1.n ≤ 512) ∧ DocIs A w ts (cleared f (lc.take i))
/-- Where the second loop stands. -/
def PutAt (A : Nat → Prop) (b0 p8 gN8 gI8 cN8 cI8 : Nat) (eN8 eI8 : List Value) (N K : Nat) (f : Tab) (lc : List Ch) (i : Nat) (w : World) : Prop := ∃ ts fr t, bfold (frees (cleared f lc) N K, cleared f lc) (lc.take i) = some (fr, t) ∧ TbO (fun q => b0 ≤ q) w p8 gN8 gI8 cN8 cI8 eN8 eI8 ts (K : Int) ∧ ts.length = N ∧ (∀ x ∈ ts, x.1.n ≤ 512) ∧ DocIs (fun q => A q ∨ b0 ≤ q) w ts t
theorem small_set {ts : List (Nv × Bool)} {i : Nat} {x : Nv} {b : Bool} (h : ∀ x ∈ ts, x.1.n ≤ 512) (hx : x.n ≤ 512) : ∀ y ∈ ts.set i (x, b), y.1.n ≤ 512 := by
  intro y hy
  rcases List.mem_or_eq_of_mem_set hy with hy | rfl
  · exact h y hy
  · exact hx

set_option maxRecDepth 100000 in
set_option maxHeartbeats 8000000 in
theorem rapply_any {A A2 : Nat → Prop} {w : World} {p gN gI cN cI : Nat} {eN eI : List Value} {ts : List (Nv × Bool)} {f : Tab} {N K : Nat} (hT : TbO (fun _ => True) w p gN gI cN cI eN eI ts (K : Int)) (hL : ts.length = N) (hN : 1 ≤ N) (hN4 : N ≤ 400) (hK : K ≤ 4096) (hsm : ∀ x ∈ ts, x.1.n ≤ 512) (hd : DocIs A w ts f) (hw : Wf f N K)
    {P : Option Addr} {len cap : Nat} {l : List Cv} {lc : List Ch} (hl : CvIn w P len l) (hlc : ChsIn A2 w l lc) (hgood : Good7 N lc) (hlen : len ≤ 500) (m : Nat) (hm : m ≤ 100000) :
    Calls Tryz.prog 8 #[.pointer (some ⟨p, 0, none⟩), .slice P len cap, .int .i64 (m : Int)] w fun e w' => RApplyPost A w p f N K m lc e w' := by
  have y0 : w.cell? ⟨p, 0, none⟩ = some (.slice (some ⟨gN, 0, none⟩) N cN) := by have := hT.blk.cell 0; rw [hL] at this; exact this
  have y1 : w.cell? ⟨p, 1, none⟩ = some (.slice (some ⟨gI, 0, none⟩) N cI) := by have := hT.blk.cell 1; rw [hL] at this; exact this
  have y2 : w.cell? ⟨p, 2, none⟩ = some (.int .i64 (K : Int)) := hT.blk.cell 2
  have hrN : ∀ (j : Nat) u, (rowN ts)[j]? = some u → w.cell? ⟨gN, 0 + j, none⟩ = some u := fun j u hu => by
    rw [hT.rN.cell, Nat.zero_add, List.getElem?_append_left (List.getElem?_eq_some_iff.1 hu).1, hu]
  have hrI : ∀ (j : Nat) u, (rowI ts)[j]? = some u → w.cell? ⟨gI, 0 + j, none⟩ = some u := fun j u hu => by
    rw [hT.rI.cell, Nat.zero_add, List.getElem?_append_left (List.getElem?_eq_some_iff.1 hu).1, hu]
  have hll : lc.length = len := by rw [← hlc.1, hl.len]
  have HT := Lib.hid (And.intro hsm (And.intro hd (And.intro hw (And.intro hl (And.intro hlc (And.intro hgood hll))))))
  have HNW := Lib.hid (nwr_le hgood)
  clear hsm hd hw hl hlc hgood hll hT
  go_enter Tryz.func8, Tryz.ntmps8
  go_wp2_with fail
  refine wp_hideQ ?_
  intro QQ hQQ
  refine wp_region_quick [some 13, some 14, some 15, some 16, some 17, some 18, some 19, some 20, some 21, some 22, some 23, some 24, some 25, some 26, some 27, some 28, some 29, some 30, some 8] [noV 53 w.heap.size, isV (.pointer (some ⟨p, 0, none⟩)), isV (.pointer (some ⟨p, 0, none⟩)), isV (.pointer (some ⟨p, 0, none⟩)), isV (.slice (some ⟨gN, 0, none⟩) N cN), rowV' 53 w.heap.size N (rowN ts), noV 4 w.heap.size, isV (.pointer (some ⟨p, 0, none⟩)), isV (.pointer (some ⟨p, 0, none⟩)), isV (.pointer (some ⟨p, 1, none⟩)), isV (.slice (some ⟨gI, 0, none⟩) N cI), rowV' 4 w.heap.size N (rowI ts), isV (.pointer (some ⟨p, 0, none⟩)), isV (.pointer (some ⟨p, 0, none⟩)), isV (.pointer (some ⟨p, 2, none⟩)), isV (.int .i64 (K : Int)), tabV w.heap.size ts N (K : Int), docV (fun q => w.heap.size ≤ q) ts (K : Int), docV (fun q => w.heap.size ≤ q) ts (K : Int)] 19 (by kernel_rfl) rfl rfl rfl (by kernel_rfl) (by simp [isV.st, noV.st, rowV'.st, tabV.st, docV.st]) ?_ ?_
  · intro hq i hi
    match i, hi with
    | 0, _ =>
      refine StepL.val rfl [] (by decide +kernel) ?_
      intro v wx hR hd
      exact ⟨wanted_plain rfl _, xe_ex (x_slice rfl pairs_0 (noslice_N wx)) ⟨hR.trans ((new_below wx _).mono hR.size), new_below wx _, _, rfl, hR.size, Blk.new wx 53 []⟩⟩
    | 1, _ =>
      refine StepL.val rfl [] (by decide +kernel) ?_
      intro v wx hR hd
      exact ⟨wanted_plain rfl _, _, _, x_move rfl (fill_off rfl rfl), hR, Below.refl _ _, rfl⟩
    | 2, _ =>
      refine StepL.val rfl [1] (by decide +kernel) ?_
      intro v wx hR hd
      have h1 : v 1 = _ := hd 1 (by simp)
      exact ⟨wanted_plain rfl _, _, _, x_nil rfl (hq.at_ rfl h1), hR, Below.refl _ _, rfl⟩
    | 3, _ =>
      refine StepL.val rfl [2] (by decide +kernel) ?_
      intro v wx hR hd
      have h2 : v 2 = _ := hd 2 (by simp)
      exact ⟨wanted_plain rfl _, _, _, x_field rfl (hq.at_ rfl h2) (r_field (off := 0) (by kernel_rfl)), hR, Below.refl _ _, rfl⟩
    | 4, _ =>
      refine StepL.val rfl [3] (by decide +kernel) ?_
      intro v wx hR hd
      have h3 : v 3 = _ := hd 3 (by simp)
      exact ⟨wanted_plain rfl _, _, _, x_load rfl (hq.at_ rfl h3) (r_load (by kernel_rfl) (cell_below y0 hR)), hR, Below.refl _ _, rfl⟩
    | 5, _ =>
      refine StepL.val rfl [0, 4] (by decide +kernel) ?_
      intro v wx hR hd
      obtain ⟨q0, h0, hq0, hk0⟩ : noV 53 w.heap.size (v 0) wx := hd 0 (by simp)
      have h4 : v 4 = _ := hd 4 (by simp)
      refine ⟨wanted_plain rfl _, xe_app_new rfl Tryz.underlying68 (show (Tryz.prog.info? 53).map (fun i => (i.zero, i.size, i.bytes)) = some (some (.agg #[.int .i64 0, .int .i64 0, .int .i64 0, .int .i64 0, .slice none 0 0]), 5, 56) by kernel_rfl) (hq.at_ rfl h0) (hq.at_ rfl h4) (rowN ts) (by rw [rowN_length, hL]) (fun j u hu => (cell_below (hrN j u hu) hR)) (rowN_cells ts) (by omega) (by omega) (by omega) ?_⟩
      intro cap es c1 c2
      exact ⟨hR.trans ((drew_alloc_below wx _).mono hR.size), drew_alloc_below wx _, _, cap, es, rfl, hR.size, c1, c2, Blk.new wx.drew 53 _⟩
    | 6, _ =>
      refine StepL.val rfl [] (by decide +kernel) ?_
      intro v wx hR hd
      exact ⟨wanted_plain rfl _, xe_ex (x_slice rfl pairs_0 (noslice_I wx)) ⟨hR.trans ((new_below wx _).mono hR.size), new_below wx _, _, rfl, hR.size, Blk.new wx 4 []⟩⟩
    | 7, _ =>
      refine StepL.val rfl [] (by decide +kernel) ?_
      intro v wx hR hd
      exact ⟨wanted_plain rfl _, _, _, x_move rfl (fill_off rfl rfl), hR, Below.refl _ _, rfl⟩
    | 8, _ =>
      refine StepL.val rfl [7] (by decide +kernel) ?_
      intro v wx hR hd
      have h7 : v 7 = _ := hd 7 (by simp)
      exact ⟨wanted_plain rfl _, _, _, x_nil rfl (hq.at_ rfl h7), hR, Below.refl _ _, rfl⟩
    | 9, _ =>
      refine StepL.val rfl [8] (by decide +kernel) ?_
      intro v wx hR hd
      have h8 : v 8 = _ := hd 8 (by simp)
      exact ⟨wanted_plain rfl _, _, _, x_field rfl (hq.at_ rfl h8) (r_field (off := 1) (by kernel_rfl)), hR, Below.refl _ _, rfl⟩
    | 10, _ =>
      refine StepL.val rfl [9] (by decide +kernel) ?_
      intro v wx hR hd
      have h9 : v 9 = _ := hd 9 (by simp)
      exact ⟨wanted_plain rfl _, _, _, x_load rfl (hq.at_ rfl h9) (r_load (by kernel_rfl) (cell_below y1 hR)), hR, Below.refl _ _, rfl⟩
    | 11, _ =>
      refine StepL.val rfl [6, 10] (by decide +kernel) ?_
      intro v wx hR hd
      obtain ⟨q6, h6, hq6, hk6⟩ : noV 4 w.heap.size (v 6) wx := hd 6 (by simp)
      have h10 : v 10 = _ := hd 10 (by simp)
      refine ⟨wanted_plain rfl _, xe_app_new rfl Tryz.underlying69 (show (Tryz.prog.info? 4).map (fun i => (i.zero, i.size, i.bytes)) = some (some (.bool false), 1, 1) by kernel_rfl) (hq.at_ rfl h6) (hq.at_ rfl h10) (rowI ts) (by rw [rowI_length, hL, Nat.mul_one]) (fun j u hu => (cell_below (hrI j u hu) hR)) (rowI_cells ts) (by omega) (by omega) (by omega) ?_⟩
      intro cap es c1 c2
      exact ⟨hR.trans ((drew_alloc_below wx _).mono hR.size), drew_alloc_below wx _, _, cap, es, rfl, hR.size, c1, c2, Blk.new wx.drew 4 _⟩
    | 12, _ =>
      refine StepL.val rfl [] (by decide +kernel) ?_
      intro v wx hR hd
      exact ⟨wanted_plain rfl _, _, _, x_move rfl (fill_off rfl rfl), hR, Below.refl _ _, rfl⟩
    | 13, _ =>
      refine StepL.val rfl [12] (by decide +kernel) ?_
      intro v wx hR hd
      have h12 : v 12 = _ := hd 12 (by simp)
      exact ⟨wanted_plain rfl _, _, _, x_nil rfl (hq.at_ rfl h12), hR, Below.refl _ _, rfl⟩
    | 14, _ =>
      refine StepL.val rfl [13] (by decide +kernel) ?_
      intro v wx hR hd
      have h13 : v 13 = _ := hd 13 (by simp)
      exact ⟨wanted_plain rfl _, _, _, x_field rfl (hq.at_ rfl h13) (r_field (off := 2) (by kernel_rfl)), hR, Below.refl _ _, rfl⟩
    | 15, _ =>
      refine StepL.val rfl [14] (by decide +kernel) ?_
      intro v wx hR hd
      have h14 : v 14 = _ := hd 14 (by simp)
      exact ⟨wanted_plain rfl _, _, _, x_load rfl (hq.at_ rfl h14) (r_load (by kernel_rfl) (cell_below y2 hR)), hR, Below.refl _ _, rfl⟩
    | 16, _ =>
      refine StepL.val rfl [5, 11, 15] (by decide +kernel) ?_
      intro v wx hR hd
      obtain ⟨g5, c5, e5, h5, hg5, hc5, hm5, hk5⟩ : rowV' 53 w.heap.size N (rowN ts) (v 5) wx := hd 5 (by simp)
      obtain ⟨g11, c11, e11, h11, hg11, hc11, hm11, hk11⟩ : rowV' 4 w.heap.size N (rowI ts) (v 11) wx := hd 11 (by simp)
      have h15 : v 15 = _ := hd 15 (by simp)
      exact ⟨wanted_plain rfl _, xe_ex (x_build rfl (pairs_3 (hq.at_ rfl h5) (hq.at_ rfl h11) (hq.at_ rfl h15)) (build_tab wx _ _ _ _ _ _ _)) ⟨hR, Below.refl _ _, g5, c5, e5, g11, c11, e11, rfl, hg5, hg11, hk5, hk11⟩⟩
    | 17, _ =>
      refine StepL.val rfl [16] (by decide +kernel) ?_
      intro v wx hR hd
      obtain ⟨g5, c5, e5, g11, c11, e11, h16, hg5, hg11, hk5, hk11⟩ : tabV w.heap.size ts N (K : Int) (v 16) wx := hd 16 (by simp)
      have hb := new_below wx (.cells #[.slice (some ⟨g5, 0, none⟩) N c5, .slice (some ⟨g11, 0, none⟩) N c11, .int .i64 (K : Int)] 71)
      exact ⟨wanted_plain rfl _, xe_ex (x_box rfl (hq.at_ rfl h16) (box_tab wx _ _ _)) ⟨hR.trans (hb.mono hR.size), hb, _, g5, g11, c5, c11, e5, e11, rfl, hR.size, hg5, hg11, by rw [hL]; exact Blk.new wx 71 [.slice (some ⟨g5, 0, none⟩) N c5, .slice (some ⟨g11, 0, none⟩) N c11, .int .i64 (K : Int)], hk5.below hb hk5.lt, hk11.below hb hk11.lt⟩⟩
    | 18, _ =>
      refine StepL.val rfl [17] (by decide +kernel) ?_
      intro v wx hR hd
      obtain ⟨p17, gN7, gI7, cN7, cI7, eN7, eI7, h17, hk17⟩ : docV (fun q => w.heap.size ≤ q) ts (K : Int) (v 17) wx := hd 17 (by simp)
      exact ⟨wanted_plain rfl _, xe_ex (x_assign rfl (hq.at_ rfl h17)) ⟨hR, Below.refl _ _, p17, gN7, gI7, cN7, cI7, eN7, eI7, rfl, hk17⟩⟩
    | i + 19, h => omega
  · intro v wx hR hV
    obtain ⟨p8, gN8, gI8, cN8, cI8, eN8, eI8, h18, hk18⟩ : docV (fun q => w.heap.size ≤ q) ts (K : Int) (v 18) wx := hV 18 (by omega)
    have HV := Lib.hid (And.intro hR hk18)
    have hsx := hR.size
    clear hV hR hk18 y0 y1 y2 hrN hrI
    simp only [fillR, Act.put, List.setIfInBounds_toArray, List.set_cons_zero, List.set_cons_succ, h18]
    have HL := Lib.hid hL
    clear hL
    go_wp2_with fail
    go_loopw [9] (fun iv wr => ∃ i : Nat, i ≤ len ∧ iv = .int .i64 i ∧ ClrAt A w.heap.size p8 gN8 gI8 cN8 cI8 eN8 eI8 N K f lc i wr ∧ Below w.heap.size w wr) (fun iv _ => len - (intOf iv).toNat)
    case atStart =>
      refine ⟨0, Nat.zero_le _, rfl, ⟨ts, HV.out.2, HL.out, HT.out.1, ?_⟩, HV.out.1⟩
      have e : cleared f (lc.take 0) = f := by funext j; simp [cleared]
      rw [e]
      exact HT.out.2.1.below HV.out.1
    case round =>
      obtain ⟨i, hi, rfl, ⟨ts', hT', hL', hsm', hd'⟩, hbel⟩ := hrel
      have z0 : wr.cell? ⟨p8, 0, none⟩ = some (.slice (some ⟨gN8, 0, none⟩) N cN8) := by have := hT'.blk.cell 0; rw [hL'] at this; exact this
      have z1 : wr.cell? ⟨p8, 1, none⟩ = some (.slice (some ⟨gI8, 0, none⟩) N cI8) := by have := hT'.blk.cell 1; rw [hL'] at this; exact this
      by_cases hlt : i < len
      · obtain ⟨gl, ol, rfl, hgl, hcl⟩ := (HT.out.2.2.2.1.below hbel).cells (by omega)
        obtain ⟨x, hx⟩ : ∃ x, l[i]? = some x := ⟨_, List.getElem?_eq_getElem (by have := HT.out.2.2.2.1.len; omega)⟩
        obtain ⟨c, hc, hin⟩ := HT.out.2.2.2.2.1.at_ hx
        have hno := HT.out.2.2.2.2.2.1.no c (List.mem_of_getElem? hc)
        have d0 := (hcl i x hx).1
        obtain ⟨k, hk⟩ : ∃ k : Nat, c.no = (k : Int) := ⟨c.no.toNat, by omega⟩
        rw [hin.no, hk] at d0
        have hkN : k < N := by omega
        obtain ⟨⟨y, b⟩, hy⟩ : ∃ y, ts'[k]? = some y := ⟨_, List.getElem?_eq_getElem (by omega)⟩
        have HR := Lib.hid (And.intro hT' (And.intro hL' (And.intro hsm' (And.intro hd' (And.intro hbel (And.intro hx (And.intro hc (And.intro hk hy))))))))
        clear hT' hL' hsm' hd' hbel hx hc hin hno hcl hk hy
        go_wp2_with fail
        refine wp_hideQ ?_
        intro QQ hQQ
        refine wp_region_quickT [some 37, some 38, some 39, some 40, some 41, some 42, some 43, some 44, some 45] [isV (.pointer (some ⟨p8, 0, none⟩)), isV (.pointer (some ⟨p8, 0, none⟩)), isV (.pointer (some ⟨p8, 1, none⟩)), isV (.slice (some ⟨gI8, 0, none⟩) N cI8), isV (.slice (some ⟨gl, ol, none⟩) len cap), isV (.int .i64 (i : Int)), isV (.pointer (some ⟨gl, ol + i * 7, none⟩)), isV (.pointer (some ⟨gl, ol + i * 7, none⟩)), isV (.int .i64 (k : Int))] 9 11 (by kernel_rfl) rfl rfl rfl rfl (by kernel_rfl) (by kernel_rfl) (by simp [isV.st]) ?_ ?_
        · intro hq i hi
          match i, hi with
          | 0, _ =>
            refine StepL.val rfl [] (by decide +kernel) ?_
            intro v wx hR hd
            exact ⟨wanted_plain rfl _, _, _, x_move rfl (fill_off rfl rfl), hR, Below.refl _ _, rfl⟩
          | 1, _ =>
            refine StepL.val rfl [0] (by decide +kernel) ?_
            intro v wx hR hd
            have h0 : v 0 = _ := hd 0 (by simp)
            exact ⟨wanted_plain rfl _, _, _, x_nil rfl (hq.at_ rfl h0), hR, Below.refl _ _, rfl⟩
          | 2, _ =>
            refine StepL.val rfl [1] (by decide +kernel) ?_
            intro v wx hR hd
            have h1 : v 1 = _ := hd 1 (by simp)
            exact ⟨wanted_plain rfl _, _, _, x_field rfl (hq.at_ rfl h1) (r_field (off := 1) (by kernel_rfl)), hR, Below.refl _ _, rfl⟩
          | 3, _ =>
            refine StepL.val rfl [2] (by decide +kernel) ?_
            intro v wx hR hd
            have h2 : v 2 = _ := hd 2 (by simp)
            exact ⟨wanted_plain rfl _, _, _, x_load rfl (hq.at_ rfl h2) (r_load (by kernel_rfl) (cell_below z1 hR)), hR, Below.refl _ _, rfl⟩
          | 4, _ =>
            refine StepL.val rfl [] (by decide +kernel) ?_
            intro v wx hR hd
            exact ⟨wanted_plain rfl _, _, _, x_move rfl (fill_off rfl rfl), hR, Below.refl _ _, rfl⟩
          | 5, _ =>
            refine StepL.val rfl [] (by decide +kernel) ?_
            intro v wx hR hd
            exact ⟨wanted_plain rfl _, _, _, x_move rfl (fill_off rfl rfl), hR, Below.refl _ _, rfl⟩
          | 6, _ =>
            refine StepL.val rfl [4, 5] (by decide +kernel) ?_
            intro v wx hR hd
            have h4 : v 4 = _ := hd 4 (by simp)
            have h5 : v 5 = _ := hd 5 (by simp)
            exact ⟨wanted_plain rfl _, _, _, x_index rfl (hq.at_ rfl h4) (hq.at_ rfl h5) (r_index (e := 73) (size := 7) (by kernel_rfl) (by kernel_rfl) (by omega) (by omega) (by first | omega | simp)), hR, Below.refl _ _, rfl⟩
          | 7, _ =>
            refine StepL.val rfl [6] (by decide +kernel) ?_
            intro v wx hR hd
            have h6 : v 6 = _ := hd 6 (by simp)
            exact ⟨wanted_plain rfl _, _, _, x_field rfl (hq.at_ rfl h6) (r_field (off := 0) (by kernel_rfl)), hR, Below.refl _ _, rfl⟩
          | 8, _ =>
            refine StepL.val rfl [7] (by decide +kernel) ?_
            intro v wx hR hd
            have h7 : v 7 = _ := hd 7 (by simp)
            exact ⟨wanted_plain rfl _, _, _, x_load rfl (hq.at_ rfl h7) (r_load (by kernel_rfl) (cell_below d0 hR)), hR, Below.refl _ _, rfl⟩
          | i + 9, h => omega
        · intro v wx hR hV
          have h3 : v 3 = _ := hV 3 (by omega)
          have h8 : v 8 = _ := hV 8 (by omega)
          have HW := Lib.hid hR
          have hcI := HR.out.1.rI
          have hcl : wx.frozen? ⟨gI8, k, none⟩ = false := (hcI.below hR hcI.lt).frozen k
          obtain ⟨u, hu⟩ : ∃ u, wx.cell? ⟨gI8, k, none⟩ = some u := by
            rw [(hcI.below hR hcI.lt).cell]
            exact ⟨_, List.getElem?_eq_getElem (by rw [List.length_append, rowI_length, HR.out.2.1]; omega)⟩
          clear hV hR hcI
          simp only [fillR, Act.put, List.setIfInBounds_toArray, List.set_cons_zero, List.set_cons_succ, List.drop_succ_cons, List.drop_zero, h3, h8]
          go_wp2_with fail
          go_roundw
          case rel =>
            obtain ⟨hT', hL', hsm', hd', hbel, hx, hc, hk, hy⟩ := HR.out
            refine ⟨i + 1, by omega, by go_num, ⟨_, (hT'.below HW.out).set_is hy false, by rw [List.length_set]; exact hL', small_set hsm' (hsm' _ (List.mem_of_getElem? hy)), ?_⟩, (hbel.trans (HW.out.mono hbel.size)).setCell (by exact hT'.iA) _⟩
            rw [cleared_snoc hc (by omega), show c.no.toNat = k by omega]
            exact ((hd'.below HW.out).drop hy).far_ne (hT'.rI.below HW.out hT'.rI.lt) not_BK_bool _
          case measure => simp [intOf]; omega
      · have hie : i = len := by omega
        have HR := Lib.hid (And.intro hT' (And.intro hL' (And.intro hsm' (And.intro hd' (And.intro hbel hie)))))
        clear hT' hL' hsm' hd' hbel hie z0 z1 hi
        go_wp2_with fail
        generalize wr = w3 at *
        go_loopw [10, 11] (fun nv iv wr => ∃ i : Nat, i ≤ len ∧ iv = .int .i64 i ∧ nv = .int .i64 (nwr (lc.take i) : Nat) ∧ PutAt A w.heap.size p8 gN8 gI8 cN8 cI8 eN8 eI8 N K f lc i wr ∧ Below w.heap.size w wr) (fun _ iv _ => len - (intOf iv).toNat)
        case atStart =>
          obtain ⟨hT', hL', hsm', hd', hbel, hie⟩ := HR.out
          refine ⟨0, Nat.zero_le _, rfl, rfl, ⟨ts', _, _, rfl, hT', hL', hsm', ?_⟩, hbel⟩
          rw [show lc.take i = lc by rw [hie, ← HT.out.2.2.2.2.2.2, List.take_length]] at hd'
          exact hd'.mono (fun g hg _ => .inl hg)
        case round =>
          clear HR
          obtain ⟨i, hi, rfl, rfl, ⟨ts', fr, t, hb, hT', hL', hsm', hd'⟩, hbel⟩ := hrel
          have z0 : wr.cell? ⟨p8, 0, none⟩ = some (.slice (some ⟨gN8, 0, none⟩) N cN8) := by have := hT'.blk.cell 0; rw [hL'] at this; exact this
          have z1 : wr.cell? ⟨p8, 1, none⟩ = some (.slice (some ⟨gI8, 0, none⟩) N cI8) := by have := hT'.blk.cell 1; rw [hL'] at this; exact this
          have hnw : nwr (lc.take i) ≤ 4500 := by
            have h1 := nwr_le (good_take HT.out.2.2.2.2.2.1 i)
            have h2 : (lc.take i).length ≤ len := by rw [List.length_take, HT.out.2.2.2.2.2.2]; omega
            omega
          have hmid := mid_take HT.out.2.2.1 HT.out.2.2.2.2.2.1 hb
          have hsum : fr.length + usedN t N = K := hmid.sum
          have HB := Lib.hid (And.intro hb (And.intro hT' (And.intro hL' (And.intro hsm' (And.intro hd' hbel)))))
          have hsz := hbel.size
          clear hmid
          obtain ⟨q, hq⟩ : ∃ q, nwr (lc.take i) = q := ⟨_, rfl⟩
          rw [hq] at hnw ⊢
          have HQ := Lib.hid hq
          clear hq
          by_cases hlt : i < len
          · obtain ⟨gl, ol, rfl, hgl, hcl⟩ := (HT.out.2.2.2.1.below hbel).cells (by omega)
            obtain ⟨x, hx⟩ : ∃ x, l[i]? = some x := ⟨_, List.getElem?_eq_getElem (by have := HT.out.2.2.2.1.len; omega)⟩
            obtain ⟨c, hc, hin⟩ := HT.out.2.2.2.2.1.at_ hx
            have hno := HT.out.2.2.2.2.2.1.no c (List.mem_of_getElem? hc)
            have hfree := free_at HT.out.2.2.2.2.2.1 hc hb
            have hnx := nwr_take_succ hc
            have hbs := bfold_snoc hc hb
            have hbn := bfold_none hc hb
            obtain ⟨d0, d1, d2, d3, d4, d5, d6⟩ := hcl i x hx
            obtain ⟨xno, xk, xm, xo, xg, xA, xn, xc, xd⟩ := x
            obtain ⟨k, hk⟩ : ∃ k : Nat, c.no = (k : Int) := ⟨c.no.toNat, by omega⟩
            have hxn := hin.no
            have hxd := hin.drop
            simp only at hxn hxd d0 d1 d2 d3 d4 d5 d6
            rw [hxn, hk] at d0
            rw [hxd] at d6
            have hkN : k < N := by omega
            cases hcd : c.drop with
            | true =>
              rw [hcd] at d6
              have hst : bfold (frees (cleared f lc) N K, cleared f lc) (lc.take (i + 1)) = some (fr, t) := by rw [hbs]; unfold bstep; rw [if_pos hcd]
              have hnd : nwr (lc.take (i + 1)) = q + 1 := by rw [hnx, HQ.out]; unfold need; rw [if_pos hcd]
              have HS := Lib.hid (And.intro hst hnd)
              clear hb hT' hL' hsm' hd' hbel hx hc hin hno hcl hk hfree hnx hbs hbn hst hnd hcd hxn hxd z0 z1 hsum d0 d1 d2 d3 d4 d5
              go_wp2_with fail
              go_roundw
              case rel =>
                obtain ⟨hb, hT', hL', hsm', hd', hbel⟩ := HB.out
                exact ⟨i + 1, by omega, by go_num, by rw [HS.out.2]; go_num, ⟨ts', fr, t, HS.out.1, hT', hL', hsm', hd'⟩, hbel⟩
              case measure => simp [intOf]; omega
            | false =>
              rw [hcd] at d6
              have hok := HT.out.2.2.2.2.2.1.ok c (List.mem_of_getElem? hc) hcd
              have hdl : c.data.length = xn := hin.data.cells.1
              have hx5 : xn ≤ 512 := by rw [← hdl]; exact hok.2
              obtain ⟨nb, hnb⟩ : ∃ nb, blks xn = nb := ⟨_, rfl⟩
              have hnb8 : nb ≤ 8 := by rw [← hnb]; exact blks_8 hx5
              obtain ⟨fl, hfl⟩ : ∃ fl, fr.length = fl := ⟨_, rfl⟩
              have HRM := Lib.hid (show Calls Tryz.prog 25 #[.pointer (some ⟨p8, 0, none⟩)] wr fun e w' => e = .returned (.int .i64 (fl : Int)) ∧ wr = w' from by
                have h1 := rroom_any wr p8 ts' K (hT'.to_in (by omega) (fun y hy => by have := hsm' y hy; omega) (by omega))
                rw [usedB_all hd', hL', show ((K : Int) - (usedN t N : Int)) = (fl : Int) by omega] at h1
                exact h1)
              have hflK : fl ≤ 4096 := by omega
              have HNB := Lib.hid hnb
              by_cases hroom : fl < nb
              · have hst : tabBehind f N K lc = none := by
                  have : bfold (frees (cleared f lc) N K, cleared f lc) lc = none := hbn (by
                    unfold bstep
                    rw [if_neg (by rw [hcd]; decide), if_pos (by show fr.length < _; rw [hdl, hnb, hfl]; exact hroom)])
                  unfold tabBehind
                  rw [this]
                  rfl
                have HS := Lib.hid (And.intro hst hbel)
                have hg' : (fl : Int) < (nb : Int) := by omega
                clear hb hT' hL' hsm' hd' hbel hx hc hin hno hcl hk hfree hnx hbs hbn hst hcd hxn hxd z0 z1 hsum d0 d1 d2 d3 d4 hok hdl hnb hfl HB
                go_wp2_with (first
                  | (go_at_call 24; ((with_reducible refine (rblocks_any _ xn (by omega)).mono ?_); rintro e w' ⟨rfl, rfl⟩; rw [HNB.out]))
                  | (go_at_call 25; refine HRM.out.mono ?_; rintro e w' ⟨rfl, rfl⟩)
                  | go_in)
                go_ret2
                refine ⟨HS.out.2, ?_⟩
                rw [HS.out.1]
                exact rfl
              · have hst : bfold (frees (cleared f lc) N K, cleared f lc) (lc.take (i + 1)) = some (fr.drop nb, tset t k (some (c.hd (fr.take nb)))) := by
                  rw [hbs]
                  unfold bstep
                  rw [if_neg (by rw [hcd]; decide), if_neg (by show ¬ fr.length < _; rw [hdl, hnb, hfl]; exact hroom), hdl, hnb, show c.no.toNat = k by omega]
                have hnd : nwr (lc.take (i + 1)) = q + 1 + nb := by rw [hnx, HQ.out]; unfold need; rw [if_neg (by rw [hcd]; decide), hdl, hnb]
                obtain ⟨data, hdt⟩ : ∃ data, c.data = data := ⟨_, rfl⟩
                have hB := hin.data
                rw [hdt] at hB
                have HDT := Lib.hid (RdB.of_bts (hB.below hbel))
                have HS := Lib.hid (And.intro hst (And.intro hnd (And.intro hin.k (And.intro hin.m (And.intro hin.o (And.intro hin.g hdt))))))
                have hg' : ¬ (fl : Int) < (nb : Int) := by omega
                clear hb hT' hL' hsm' hd' hbel hx hc hin hno hcl hk hfree hnx hbs hbn hst hnd hcd hxn hxd hsum hok hdl hnb hfl hB hdt
                go_wp2_with (first
                  | (go_at_call 24; ((with_reducible refine (rblocks_any _ xn (by omega)).mono ?_); rintro e w' ⟨rfl, rfl⟩; rw [HNB.out]))
                  | (go_at_call 25; refine HRM.out.mono ?_; rintro e w' ⟨rfl, rfl⟩)
                  | go_in)
                refine wp_hideQ ?_
                intro QQ hQQ
                refine wp_region_quickT [some 76, some 77, some 78, some 79, some 80, some 81, some 82, some 83, some 84, some 85, some 86, some 87, some 88, some 89, some 90, some 91, some 92, some 93, some 94, some 95, some 96, some 97, some 98, some 99, some 100, some 101, some 102, some 103, some 104, some 105, some 106, some 107, some 108] [isV (.pointer (some ⟨p8, 0, none⟩)), isV (.pointer (some ⟨p8, 0, none⟩)), isV (.pointer (some ⟨p8, 0, none⟩)), isV (.slice (some ⟨gN8, 0, none⟩) N cN8), isV (.slice (some ⟨gl, ol, none⟩) len cap), isV (.int .i64 (i : Int)), isV (.pointer (some ⟨gl, ol + i * 7, none⟩)), isV (.pointer (some ⟨gl, ol + i * 7, none⟩)), isV (.int .i64 (k : Int)), isV (.pointer (some ⟨p8, 0, none⟩)), isV (.pointer (some ⟨p8, 0, none⟩)), isV (.pointer (some ⟨p8, 1, none⟩)), isV (.slice (some ⟨gI8, 0, none⟩) N cI8), isV (.slice (some ⟨gl, ol, none⟩) len cap), isV (.int .i64 (i : Int)), isV (.pointer (some ⟨gl, ol + i * 7, none⟩)), isV (.pointer (some ⟨gl, ol + i * 7, none⟩)), isV (.int .i64 (k : Int)), isV (.slice (some ⟨gl, ol, none⟩) len cap), isV (.int .i64 (i : Int)), isV (.pointer (some ⟨gl, ol + i * 7, none⟩)), isV (.pointer (some ⟨gl, ol + i * 7 + 1, none⟩)), isV (.pointer (some ⟨gl, ol + i * 7 + 1, none⟩)), isV (stv xk xm xo xg), noV 5 wr.heap.size, isV (.slice (some ⟨gl, ol, none⟩) len cap), isV (.int .i64 (i : Int)), isV (.pointer (some ⟨gl, ol + i * 7, none⟩)), isV (.pointer (some ⟨gl, ol + i * 7 + 1, none⟩)), isV (.pointer (some ⟨gl, ol + i * 7 + 5, none⟩)), isV (.slice xA xn xc), btsV wr.heap.size xn data, nodeW wr.heap.size xk xm xo xg xn data] 33 37 (by kernel_rfl) rfl rfl rfl rfl (by kernel_rfl) (by kernel_rfl) (by simp [isV.st, noV.st, btsV.st, nodeW.st]) ?_ ?_
                · intro hq i hi
                  match i, hi with
                  | 0, _ =>
                    refine StepL.val rfl [] (by decide +kernel) ?_
                    intro v wx hR hd
                    exact ⟨wanted_plain rfl _, _, _, x_move rfl (fill_off rfl rfl), hR, Below.refl _ _, rfl⟩
                  | 1, _ =>
                    refine StepL.val rfl [0] (by decide +kernel) ?_
                    intro v wx hR hd
                    have h0 : v 0 = _ := hd 0 (by simp)
                    exact ⟨wanted_plain rfl _, _, _, x_nil rfl (hq.at_ rfl h0), hR, Below.refl _ _, rfl⟩
                  | 2, _ =>
                    refine StepL.val rfl [1] (by decide +kernel) ?_
                    intro v wx hR hd
                    have h1 : v 1 = _ := hd 1 (by simp)
                    exact ⟨wanted_plain rfl _, _, _, x_field rfl (hq.at_ rfl h1) (r_field (off := 0) (by kernel_rfl)), hR, Below.refl _ _, rfl⟩
                  | 3, _ =>
                    refine StepL.val rfl [2] (by decide +kernel) ?_
                    intro v wx hR hd
                    have h2 : v 2 = _ := hd 2 (by simp)
                    exact ⟨wanted_plain rfl _, _, _, x_load rfl (hq.at_ rfl h2) (r_load (by kernel_rfl) (cell_below z0 hR)), hR, Below.refl _ _, rfl⟩
                  | 4, _ =>
                    refine StepL.val rfl [] (by decide +kernel) ?_
                    intro v wx hR hd
                    exact ⟨wanted_plain rfl _, _, _, x_move rfl (fill_off rfl rfl), hR, Below.refl _ _, rfl⟩
                  | 5, _ =>
                    refine StepL.val rfl [] (by decide +kernel) ?_
                    intro v wx hR hd
                    exact ⟨wanted_plain rfl _, _, _, x_move rfl (fill_off rfl rfl), hR, Below.refl _ _, rfl⟩
                  | 6, _ =>
                    refine StepL.val rfl [4, 5] (by decide +kernel) ?_
                    intro v wx hR hd
                    have h4 : v 4 = _ := hd 4 (by simp)
                    have h5 : v 5 = _ := hd 5 (by simp)
                    exact ⟨wanted_plain rfl _, _, _, x_index rfl (hq.at_ rfl h4) (hq.at_ rfl h5) (r_index (e := 73) (size := 7) (by kernel_rfl) (by kernel_rfl) (by omega) (by omega) (by first | omega | simp)), hR, Below.refl _ _, rfl⟩
                  | 7, _ =>
                    refine StepL.val rfl [6] (by decide +kernel) ?_
                    intro v wx hR hd
                    have h6 : v 6 = _ := hd 6 (by simp)
                    exact ⟨wanted_plain rfl _, _, _, x_field rfl (hq.at_ rfl h6) (r_field (off := 0) (by kernel_rfl)), hR, Below.refl _ _, rfl⟩
                  | 8, _ =>
                    refine StepL.val rfl [7] (by decide +kernel) ?_
                    intro v wx hR hd
                    have h7 : v 7 = _ := hd 7 (by simp)
                    exact ⟨wanted_plain rfl _, _, _, x_load rfl (hq.at_ rfl h7) (r_load (by kernel_rfl) (cell_below d0 hR)), hR, Below.refl _ _, rfl⟩
                  | 9, _ =>
                    refine StepL.val rfl [] (by decide +kernel) ?_
                    intro v wx hR hd
                    exact ⟨wanted_plain rfl _, _, _, x_move rfl (fill_off rfl rfl), hR, Below.refl _ _, rfl⟩
                  | 10, _ =>
                    refine StepL.val rfl [9] (by decide +kernel) ?_
                    intro v wx hR hd
                    have h9 : v 9 = _ := hd 9 (by simp)
                    exact ⟨wanted_plain rfl _, _, _, x_nil rfl (hq.at_ rfl h9), hR, Below.refl _ _, rfl⟩
                  | 11, _ =>
                    refine StepL.val rfl [10] (by decide +kernel) ?_
                    intro v wx hR hd
                    have h10 : v 10 = _ := hd 10 (by simp)
                    exact ⟨wanted_plain rfl _, _, _, x_field rfl (hq.at_ rfl h10) (r_field (off := 1) (by kernel_rfl)), hR, Below.refl _ _, rfl⟩
                  | 12, _ =>
                    refine StepL.val rfl [11] (by decide +kernel) ?_
                    intro v wx hR hd
                    have h11 : v 11 = _ := hd 11 (by simp)
                    exact ⟨wanted_plain rfl _, _, _, x_load rfl (hq.at_ rfl h11) (r_load (by kernel_rfl) (cell_below z1 hR)), hR, Below.refl _ _, rfl⟩
                  | 13, _ =>
                    refine StepL.val rfl [] (by decide +kernel) ?_
                    intro v wx hR hd
                    exact ⟨wanted_plain rfl _, _, _, x_move rfl (fill_off rfl rfl), hR, Below.refl _ _, rfl⟩
                  | 14, _ =>
                    refine StepL.val rfl [] (by decide +kernel) ?_
                    intro v wx hR hd
                    exact ⟨wanted_plain rfl _, _, _, x_move rfl (fill_off rfl rfl), hR, Below.refl _ _, rfl⟩
                  | 15, _ =>
                    refine StepL.val rfl [13, 14] (by decide +kernel) ?_
                    intro v wx hR hd
                    have h13 : v 13 = _ := hd 13 (by simp)
                    have h14 : v 14 = _ := hd 14 (by simp)
                    exact ⟨wanted_plain rfl _, _, _, x_index rfl (hq.at_ rfl h13) (hq.at_ rfl h14) (r_index (e := 73) (size := 7) (by kernel_rfl) (by kernel_rfl) (by omega) (by omega) (by first | omega | simp)), hR, Below.refl _ _, rfl⟩
                  | 16, _ =>
                    refine StepL.val rfl [15] (by decide +kernel) ?_
                    intro v wx hR hd
                    have h15 : v 15 = _ := hd 15 (by simp)
                    exact ⟨wanted_plain rfl _, _, _, x_field rfl (hq.at_ rfl h15) (r_field (off := 0) (by kernel_rfl)), hR, Below.refl _ _, rfl⟩
                  | 17, _ =>
                    refine StepL.val rfl [16] (by decide +kernel) ?_
                    intro v wx hR hd
                    have h16 : v 16 = _ := hd 16 (by simp)
                    exact ⟨wanted_plain rfl _, _, _, x_load rfl (hq.at_ rfl h16) (r_load (by kernel_rfl) (cell_below d0 hR)), hR, Below.refl _ _, rfl⟩
                  | 18, _ =>
                    refine StepL.val rfl [] (by decide +kernel) ?_
                    intro v wx hR hd
                    exact ⟨wanted_plain rfl _, _, _, x_move rfl (fill_off rfl rfl), hR, Below.refl _ _, rfl⟩
                  | 19, _ =>
                    refine StepL.val rfl [] (by decide +kernel) ?_
                    intro v wx hR hd
                    exact ⟨wanted_plain rfl _, _, _, x_move rfl (fill_off rfl rfl), hR, Below.refl _ _, rfl⟩
                  | 20, _ =>
                    refine StepL.val rfl [18, 19] (by decide +kernel) ?_
                    intro v wx hR hd
                    have h18 : v 18 = _ := hd 18 (by simp)
                    have h19 : v 19 = _ := hd 19 (by simp)
                    exact ⟨wanted_plain rfl _, _, _, x_index rfl (hq.at_ rfl h18) (hq.at_ rfl h19) (r_index (e := 73) (size := 7) (by kernel_rfl) (by kernel_rfl) (by omega) (by omega) (by first | omega | simp)), hR, Below.refl _ _, rfl⟩
                  | 21, _ =>
                    refine StepL.val rfl [20] (by decide +kernel) ?_
                    intro v wx hR hd
                    have h20 : v 20 = _ := hd 20 (by simp)
                    exact ⟨wanted_plain rfl _, _, _, x_field rfl (hq.at_ rfl h20) (r_field (off := 1) (by kernel_rfl)), hR, Below.refl _ _, rfl⟩
                  | 22, _ =>
                    refine StepL.val rfl [21] (by decide +kernel) ?_
                    intro v wx hR hd
                    have h21 : v 21 = _ := hd 21 (by simp)
                    exact ⟨wanted_plain rfl _, _, _, x_field rfl (hq.at_ rfl h21) (r_field (off := 0) (by kernel_rfl)), hR, Below.refl _ _, rfl⟩
                  | 23, _ =>
                    refine StepL.val rfl [22] (by decide +kernel) ?_
                    intro v wx hR hd
                    have h22 : v 22 = _ := hd 22 (by simp)
                    exact ⟨wanted_plain rfl _, _, _, x_load rfl (hq.at_ rfl h22) (r_loadR (cs := [.int .i64 xk, .int .i64 xm, .int .i64 xo, .int .i64 xg]) (by kernel_rfl) (range_four (cell_below d1 hR) (cell_below d2 hR) (cell_below d3 hR) (cell_below d4 hR))), hR, Below.refl _ _, rfl⟩
                  | 24, _ =>
                    refine StepL.val rfl [] (by decide +kernel) ?_
                    intro v wx hR hd
                    exact ⟨wanted_plain rfl _, xe_ex (x_slice rfl pairs_0 (noslice_B wx)) ⟨hR.trans ((new_below wx _).mono hR.size), new_below wx _, _, rfl, hR.size, Blk.new wx 5 []⟩⟩
                  | 25, _ =>
                    refine StepL.val rfl [] (by decide +kernel) ?_
                    intro v wx hR hd
                    exact ⟨wanted_plain rfl _, _, _, x_move rfl (fill_off rfl rfl), hR, Below.refl _ _, rfl⟩
                  | 26, _ =>
                    refine StepL.val rfl [] (by decide +kernel) ?_
                    intro v wx hR hd
                    exact ⟨wanted_plain rfl _, _, _, x_move rfl (fill_off rfl rfl), hR, Below.refl _ _, rfl⟩
                  | 27, _ =>
                    refine StepL.val rfl [25, 26] (by decide +kernel) ?_
                    intro v wx hR hd
                    have h25 : v 25 = _ := hd 25 (by simp)
                    have h26 : v 26 = _ := hd 26 (by simp)
                    exact ⟨wanted_plain rfl _, _, _, x_index rfl (hq.at_ rfl h25) (hq.at_ rfl h26) (r_index (e := 73) (size := 7) (by kernel_rfl) (by kernel_rfl) (by omega) (by omega) (by first | omega | simp)), hR, Below.refl _ _, rfl⟩
                  | 28, _ =>
                    refine StepL.val rfl [27] (by decide +kernel) ?_
                    intro v wx hR hd
                    have h27 : v 27 = _ := hd 27 (by simp)
                    exact ⟨wanted_plain rfl _, _, _, x_field rfl (hq.at_ rfl h27) (r_field (off := 1) (by kernel_rfl)), hR, Below.refl _ _, rfl⟩
                  | 29, _ =>
                    refine StepL.val rfl [28] (by decide +kernel) ?_
                    intro v wx hR hd
                    have h28 : v 28 = _ := hd 28 (by simp)
                    exact ⟨wanted_plain rfl _, _, _, x_field rfl (hq.at_ rfl h28) (r_field (off := 4) (by kernel_rfl)), hR, Below.refl _ _, rfl⟩
                  | 30, _ =>
                    refine StepL.val rfl [29] (by decide +kernel) ?_
                    intro v wx hR hd
                    have h29 : v 29 = _ := hd 29 (by simp)
                    exact ⟨wanted_plain rfl _, _, _, x_load rfl (hq.at_ rfl h29) (r_load (by kernel_rfl) (cell_below d5 hR)), hR, Below.refl _ _, rfl⟩
                  | 31, _ =>
                    refine StepL.val rfl [24, 30] (by decide +kernel) ?_
                    intro v wx hR hd
                    obtain ⟨q24, h24, hq24, hk24⟩ : noV 5 wr.heap.size (v 24) wx := hd 24 (by simp)
                    have h30 : v 30 = _ := hd 30 (by simp)
                    refine ⟨wanted_plain rfl _, xe_app_bts rfl (hq.at_ rfl h24) hq24 hk24 hR.size (hq.at_ rfl h30) (HDT.out.below hR) (by omega) ?_⟩
                    intro Q q w' hW hB
                    exact ⟨hR.trans (hW.mono hR.size), hW, Q, q, rfl, hB⟩
                  | 32, _ =>
                    refine StepL.val rfl [23, 31] (by decide +kernel) ?_
                    intro v wx hR hd
                    have h23 : v 23 = _ := hd 23 (by simp)
                    obtain ⟨Q31, c31, h31, hb31⟩ : btsV wr.heap.size xn data (v 31) wx := hd 31 (by simp)
                    exact ⟨wanted_plain rfl _, xe_ex (x_build rfl (pairs_2 (hq.at_ rfl h23) (hq.at_ rfl h31)) (build_node wx _ _ _ _ _ _ _)) ⟨hR, Below.refl _ _, Q31, c31, rfl, hb31⟩⟩
                  | i + 33, h => omega
                · intro v wx hR hV
                  have h3 : v 3 = _ := hV 3 (by omega)
                  have h8 : v 8 = _ := hV 8 (by omega)
                  have h12 : v 12 = _ := hV 12 (by omega)
                  have h17 : v 17 = _ := hV 17 (by omega)
                  obtain ⟨Q32, c32, h32, hb32⟩ : nodeW wr.heap.size xk xm xo xg xn data (v 32) wx := hV 32 (by omega)
                  have hTx := HB.out.2.1.below hR
                  have hLx := HB.out.2.2.1
                  have hrl : (rowN ts' ++ eN8).length = N * 5 + eN8.length := by rw [List.length_append, rowN_length, hLx]
                  have HX := Lib.hid (And.intro hTx (And.intro hR (And.intro hb32 hrl)))
                  have hsx := hR.size
                  clear hV hR hTx hLx hb32 hrl
                  simp only [fillR, Act.put, List.setIfInBounds_toArray, List.set_cons_zero, List.set_cons_succ, List.drop_succ_cons, List.drop_zero, h3, h8, h12, h17, h32]
                  go_wp2_with (first
                    | (refine wpList_store_blk rfl 53 (.tmp 109) (.tmp 108) rfl gN8 (k * 5) (nvC ⟨xk, xm, xo, xg, Q32, xn, c32⟩) rfl rfl HX.out.1.rN (by rw [HX.out.2.2.2]; show k * 5 + 5 ≤ _; omega) rnode_size (nvC_cells _) ?_; intro w9 hA9 hO9; have hI9 := HX.out.1.rI.only hO9 (by have := HX.out.1.ne.2.2; simpa using Ne.symm this); have hfz : w9.frozen? ⟨gI8, k, none⟩ = false := hI9.frozen k; obtain ⟨u9, hu9⟩ : ∃ u, w9.cell? ⟨gI8, k, none⟩ = some u := by rw [hI9.cell]; exact ⟨_, List.getElem?_eq_getElem (by rw [List.length_append, rowI_length, HB.out.2.2.1]; omega)⟩)
                    | go_in)
                  go_roundw
                  case rel =>
                    obtain ⟨hb, hT', hL', hsm', hd', hbel⟩ := HB.out
                    obtain ⟨hTx, hWx, hb32, hrl⟩ := HX.out
                    obtain ⟨hst, hnd, hk1, hk2, hk3, hk4, hdt⟩ := HS.out
                    obtain ⟨⟨y, b⟩, hy⟩ : ∃ y, ts'[k]? = some y := ⟨_, List.getElem?_eq_getElem (by omega)⟩
                    have hT9 := hTx.set_node (x := ⟨xk, xm, xo, xg, Q32, xn, c32⟩) (b := b) (by omega) (by rw [hy]; rfl) hO9 hA9
                    have hT10 := hT9.set_is (i := k) (x := ⟨xk, xm, xo, xg, Q32, xn, c32⟩) (b := b) (List.getElem?_set_self (by omega)) true
                    rw [List.set_set] at hT10
                    have hb0 : w.heap.size ≤ gN8 := hTx.nA
                    have hb1 : w.heap.size ≤ gI8 := hTx.iA
                    have hbx : Below w.heap.size w wx := hbel.trans (hWx.mono hbel.size)
                    have hb9 : Below w.heap.size w w9 := hbx.trans (hO9.below hbx.size (by intro j hj; simp at hj; omega))
                    (repeat apply Exists.intro)
                    refine ⟨?_, rfl⟩
                    refine ⟨i + 1, by omega, by go_num, by rw [hnd]; go_num, ⟨_, _, _, hst, hT10, by rw [List.length_set]; exact hL', small_set hsm' hx5, ?_⟩, hb9.setCell (p := ⟨gI8, k, none⟩) hb1 _⟩
                    have hd9 := ((hd'.below hWx).only_ne hO9 hTx.rN not_BK_node).far_ne (o0 := k) hI9 not_BK_bool (.bool true)
                    have hB9 := ((hb32.mono (A' := fun q => A q ∨ w.heap.size ≤ q) (fun g hg _ => .inr (Nat.le_trans hbel.size hg))).only_ne hO9 hTx.rN not_BK_node).far_ne (o0 := k) hI9 not_BK_bool (.bool true)
                    exact hd9.put (x := ⟨xk, xm, xo, xg, Q32, xn, c32⟩) (by omega) ⟨hk1, hk2, hk3, hk4⟩ (by rw [← hdt] at hB9; exact hB9)
                  case measure => simp [intOf]; omega
          · have hie : i = len := by omega
            have hbl : bfold (frees (cleared f lc) N K, cleared f lc) lc = some (fr, t) := by
              have := HB.out.1
              rwa [show lc.take i = lc by rw [hie, ← HT.out.2.2.2.2.2.2, List.take_length]] at this
            have hql : nwr lc = q := by
              have := HQ.out
              rwa [show lc.take i = lc by rw [hie, ← HT.out.2.2.2.2.2.2, List.take_length]] at this
            have hst : tabBehind f N K lc = some t := by unfold tabBehind; rw [hbl]; rfl
            have HS := Lib.hid (And.intro hst hql)
            clear hb hT' hL' hsm' hd' hbel hie hbl hql hst z0 z1 hsum hi
            by_cases hmq : m < q
            · have hmq' : (m : Int) < (q : Int) := by omega
              go_wp2_with fail
              go_ret2
              refine ⟨HB.out.2.2.2.2.2, ?_⟩
              rw [HS.out.1]
              show if m < nwr lc then _ else _
              rw [HS.out.2, if_pos hmq]
              rfl
            · have hmq' : ¬ (m : Int) < (q : Int) := by omega
              go_wp2_with fail
              go_ret2
              refine ⟨HB.out.2.2.2.2.2, ?_⟩
              rw [HS.out.1]
              show if m < nwr lc then _ else _
              rw [HS.out.2, if_neg hmq]
              obtain ⟨hb, hT', hL', hsm', hd', hbel⟩ := HB.out
              exact ⟨_, _, _, _, _, _, _, _, rfl, hT', hL', hsm', hd'⟩
end Go.Proofs.YtkmkblhmjeeaeaaGreatDoor
end
