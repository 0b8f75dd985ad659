/-
  The law's Few: at most twelve names, of at most forty bytes, in memory of the call's own. Condition: the list lies in memory.
-/
import Derived.Test.YtdnaiiagblcohaaGreatDoorM14
import Derived.Test.YtdnaiiagblcohaaGreatDoorM6
import Derived.Deep.RegionHeld3
import Derived.Test.YtdnaiiagblcohaaGreatDoorM7
section
set_option linter.unusedSimpArgs false
set_option linter.unusedVariables false
set_option maxRecDepth 100000
namespace Go.Proofs.YtdnaiiagblcohaaGreatDoor
open Go.RowKit

def fewS (t : ByteArray) : ByteArray := t.extract 0 (min (t.size : Int) 40).toNat
def fewP (p : Pa) : Pa := (p.take 12).map fewS
theorem fewS_size (t : ByteArray) : (fewS t).size ≤ 40 := by
  unfold fewS
  rw [ByteArray.size_extract]
  omega
theorem few_next {p : Pa} {i : Nat} {t : ByteArray} (h : p[i]? = some t) : (p.take (i + 1)).map fewS = (p.take i).map fewS ++ [fewS t] := by
  rw [List.take_add_one, h, Option.toList_some, List.map_append]
  rfl
set_option maxHeartbeats 4000000 in
theorem few_any (w : World) (A : Option Addr) (n c : Nat) (p : Pa) (h : SIn w A n c p) :
    Calls Tryz.prog 39 #[.slice A n c] w fun e w' => ∃ v, e = .returned v ∧ w'.ownsRow w.heap.size 9 1 v (fewP p).length (strV (fewP p)) ∧ Below w.heap.size w w' := by
  have hbig : n ≤ 9223372036854775807 := by have := h.cap; have := h.big; omega
  have hcap := h.cap
  have H := Lib.hid h
  have HL := Lib.hid h.len
  clear h
  go_enter Tryz.func39, Tryz.ntmps39
  go_wp2_with fail
  go_loopw [3, 4] (fun u3 iv wr => ∃ i : Nat, i ≤ n ∧ i ≤ 12 ∧ iv = .int .i64 i ∧ Hid (wr.ownsRow w.heap.size 9 1 u3 i (strV ((p.take i).map fewS))) ∧ Hid (Below w.heap.size w wr)) (fun _ iv _ => 12 - (intOf iv).toNat)
  case atStart => exact ⟨0, by omega, by omega, rfl, Lib.hid (World.ownsRow_nil _ _ _ _), Lib.hid (Below.refl _ _)⟩
  case round =>
    obtain ⟨i, hi, hi12, rfl, HO, HW⟩ := hrel
    by_cases hlt : i < n
    · by_cases hlt12 : i < 12
      · obtain ⟨t, ht⟩ := H.out.get hlt
        obtain ⟨g, o, rfl, hg, hcl⟩ := H.out.cells (by omega)
        have q0 := pcell_below (hcl i t ht) HW.out
        have HG := Lib.hid (own_far HO.out hg)
        have HN := Lib.hid (few_next ht)
        clear hcl ht
        have b0 : (0 : Int) ≤ (i : Int) := by omega
        have b1 : (i : Int) < (n : Int) := by omega
        have b2 : (0 : Int) ≤ min (t.size : Int) 40 := by omega
        have b3 : min (t.size : Int) 40 ≤ (t.size : Int) := by omega
        have q1 := pcell_below q0 (pnew wr (.cells #[.string (fewS t)] 9))
        unfold fewS at q1
        have HB : Hid (w.heap.size ≤ wr.heap.size) := Lib.hid HW.out.size
        have HR : Hid (∀ (j : Nat) u, ([.string (fewS t)] : List Value)[j]? = some u → (wr.alloc (.cells #[.string (fewS t)] 9)).drew.cell? ⟨wr.heap.size, 0 + j, none⟩ = some u) := Lib.hid (fun j u hu => by rw [Nat.zero_add]; exact ((Blk.new wr 9 [.string (fewS t)]).cell j).trans hu)
        go_wp2_with fail
        go_region_held3 (fun w' => w'.cell? ⟨g, o + i, none⟩ = some (.string t)) (first | exact q0 | exact q1 | exact q2)
          (first
            | (refine step_app (v := u3) rfl rfl Tryz.underlying50 str_info rfl (by decide) [.string (fewS t)] rfl (ownsRow_only (S := []) HO.out (Only.of_below ((pnew wr _).drew)) (by simp)) rfl rfl (fun _ => ⟨_, _, rfl, HR.out⟩) (by simp [Value.oneCell']) (by omega) (by omega) (by have := HB.out; simp; omega) ?_; intro v9 w9 k1 k2 k3; have q2 := only_cell k2 (show ((wr.alloc (.cells #[.string (fewS t)] 9)).drew).cell? ⟨g, o + i, none⟩ = some (.string t) from q1) HG.out; have H9 := Lib.hid (And.intro k1 k2); clear k1 k2 k3))
        all_goals (go_wp2_with fail)
        all_goals exact ⟨⟨i + 1, by omega, by omega, by go_num, Lib.hid (by rw [HN.out, show strV ((p.take i).map fewS ++ [fewS t]) = strV ((p.take i).map fewS) ++ [.string (fewS t)] by simp [strV]]; exact H9.out.1), Lib.hid ((HW.out.trans ((pnew wr _).drew.mono HW.out.size)).trans (H9.out.2.below (by have := HB.out; simp; omega) (fun k hk => (HO.out.lt k (by simpa using hk)).1)))⟩, by simp [intOf]; omega⟩
      · obtain rfl : i = 12 := by omega
        have HE : Hid (fewP p = (p.take 12).map fewS ∧ (fewP p).length = 12) := Lib.hid ⟨rfl, by unfold fewP; rw [List.length_map, List.length_take, HL.out]; omega⟩
        go_wp2_with fail
        go_ret
        exact ⟨_, rfl, by rw [HE.out.2, HE.out.1]; exact HO.out, HW.out⟩
    · obtain rfl : i = n := by omega
      have HE : Hid (fewP p = (p.take i).map fewS ∧ (fewP p).length = i) := Lib.hid ⟨by unfold fewP; rw [List.take_of_length_le (by rw [HL.out]; omega), List.take_of_length_le (by rw [HL.out]; omega)], by unfold fewP; rw [List.length_map, List.length_take, HL.out]; omega⟩
      go_wp2_with fail
      go_ret
      exact ⟨_, rfl, by rw [HE.out.2, HE.out.1]; exact HO.out, HW.out⟩
end Go.Proofs.YtdnaiiagblcohaaGreatDoor
end

/-
  What the law hands over: entries cut, in memory of the call's own. Plain definitions and theorems; no condition.
-/

section
set_option linter.unusedSimpArgs false
set_option linter.unusedVariables false
set_option maxRecDepth 100000
namespace Go.Proofs.YtdnaiiagblcohaaGreatDoor
open Go.RowKit

def toE (e : En) : En := { path := fewP e.path, kind := e.kind, mode := e.mode, data := e.data.take 520 }
def toEs (es : List En) : List En := (es.take 41).map toE
/-- The cells of entries, one behind the other. -/
def rowE (xs : List Ev) : List Value := xs.flatMap evC
theorem rowE_length : ∀ (xs : List Ev), (rowE xs).length = xs.length * 4
  | [] => rfl
  | x :: xs => by
    have := rowE_length xs
    unfold rowE at this ⊢
    rw [List.flatMap_cons, List.length_append, this, List.length_cons]
    show 4 + xs.length * 4 = _
    omega
theorem rowE_snoc (xs : List Ev) (x : Ev) : rowE (xs ++ [x]) = rowE xs ++ evC x := by unfold rowE; simp
theorem rowE_get : ∀ (xs : List Ev) (i : Nat) (x : Ev), xs[i]? = some x → ∀ (j : Nat) (v : Value), (evC x)[j]? = some v → (rowE xs)[i * 4 + j]? = some v
  | [], i, x, h, _, _, _ => by simp at h
  | y :: xs, 0, x, h, j, v, hv => by
    simp only [List.getElem?_cons_zero, Option.some.injEq] at h
    subst h
    have := (List.getElem?_eq_some_iff.1 hv).1
    unfold rowE
    rw [List.flatMap_cons, Nat.zero_mul, Nat.zero_add, List.getElem?_append_left this]
    exact hv
  | y :: xs, i + 1, x, h, j, v, hv => by
    have h1 := rowE_get xs i x (by simpa using h) j v hv
    unfold rowE at h1 ⊢
    rw [List.flatMap_cons, List.getElem?_append_right (by show 4 ≤ _; omega)]
    show (List.flatMap evC xs)[(i + 1) * 4 + j - 4]? = some v
    rw [show (i + 1) * 4 + j - 4 = i * 4 + j by omega]
    exact h1
theorem evC_one (x : Ev) : ∀ u ∈ evC x, u.oneCell' = true := by
  intro u hu
  simp [evC] at hu
  rcases hu with rfl | rfl | rfl | rfl <;> rfl
/-- An entry in memory of the call's own. -/
structure OwnE (N : Nat) (w : World) (x : Ev) (e : En) : Prop where
  path : w.ownsRow N 9 1 (.slice x.PA x.pn x.pc) e.path.length (strV e.path)
  kind : e.kind = x.k
  mode : e.mode = x.m
  data : w.ownsRow N 5 1 (.slice x.DA x.dn x.dc) e.data.length (Vb e.data)
  small : SmallE e
theorem OwnE.only {N : Nat} {w w' : World} {x : Ev} {e : En} {S : List Nat} (h : OwnE N w x e) (ho : Only S w w') (h1 : ∀ k, (Value.slice x.PA x.pn x.pc).ownBlock = some k → k ∉ S) (h2 : ∀ k, (Value.slice x.DA x.dn x.dc).ownBlock = some k → k ∉ S) : OwnE N w' x e :=
  ⟨ownsRow_only h.path ho h1, h.kind, h.mode, ownsRow_only h.data ho h2, h.small⟩
theorem OwnE.below {N : Nat} {w w' : World} {x : Ev} {e : En} (h : OwnE N w x e) (hb : Below w.heap.size w w') : OwnE N w' x e := h.only (S := []) (Only.of_below hb) (by simp) (by simp)
theorem din_own {N : Nat} {w : World} {A : Option Addr} {n c m : Nat} {d : List B8} (h : w.ownsRow N 5 1 (.slice A n c) m (Vb d)) : DIn w A n c d := by
  have hl : d.length = m := by
    have := h.1
    rw [Vb_length] at this
    omega
  rcases h.2 with ⟨e, h0⟩ | ⟨g, cap, cur, e, hg, hb, h1, h2, h3, h4⟩
  · cases e
    exact ⟨by omega, Nat.le_refl _, by omega, fun _ => rfl, fun hp => absurd hp (by omega)⟩
  · cases e
    refine ⟨hl, h1, by unfold maxLen at h2; omega, (fun ha => by cases ha), fun hp => ⟨g, 0, rfl, (Array.getElem?_eq_some_iff.1 hb).1, fun j u hu => ?_⟩⟩
    have hk : Blk w g 5 cur.toList := by simpa [Blk] using hb
    rw [hk.cell, Nat.zero_add]
    rw [← h4, List.getElem?_take] at hu
    split at hu
    · exact hu
    · cases hu
theorem sin_own {N : Nat} {w : World} {A : Option Addr} {n c m : Nat} {p : Pa} (h : w.ownsRow N 9 1 (.slice A n c) m (strV p)) : SIn w A n c p := by
  obtain ⟨A', c', e, h1, _⟩ := SIn.of_own h rfl
  have : n = m := by
    rcases h.2 with ⟨e, h0⟩ | ⟨g, cap, cur, e, _⟩
    · cases e; exact h0.symm
    · cases e; rfl
  subst this
  cases e
  exact h1
theorem OwnE.ok {N : Nat} {w : World} {x : Ev} {e : En} (h : OwnE N w x e) : EvOk w x e := ⟨sin_own h.path, h.kind, h.mode, din_own h.data, h.small⟩
/-- Entries in rows of the call's own. -/
theorem ein_own {N T : Nat} {w : World} {v : Value} {xs : List Ev} {es : List En} (h : w.ownsRow N T 4 v xs.length (rowE xs)) (hl : xs.length = es.length) (hok : ∀ (i : Nat) x e, xs[i]? = some x → es[i]? = some e → OwnE N w x e) :
    ∃ A c, v = .slice A es.length c ∧ EIn w A es.length c xs es := by
  have hE : ∀ (i : Nat) x e, xs[i]? = some x → es[i]? = some e → EvOk w x e := fun i x e h1 h2 => (hok i x e h1 h2).ok
  rcases h.2 with ⟨rfl, h0⟩ | ⟨g, cap, cur, rfl, hg, hb, h1, h2, h3, h4⟩
  · exact ⟨none, 0, by rw [← hl, h0], ⟨hl, rfl, by omega, by omega, fun _ => rfl, fun hp => absurd hp (by omega), hE⟩⟩
  · refine ⟨_, _, by rw [hl], ⟨hl, rfl, by omega, by unfold maxLen at h2; omega, (fun ha => by cases ha), fun hp => ⟨g, 0, rfl, (Array.getElem?_eq_some_iff.1 hb).1, fun i x hx j u hu => ?_⟩, hE⟩⟩
    have hk : Blk w g T cur.toList := by simpa [Blk] using hb
    rw [hk.cell, Nat.zero_add]
    have := rowE_get xs i x hx j u hu
    rw [← h4, List.getElem?_take] at this
    split at this
    · exact this
    · cases this
theorem few_small (p : Pa) : (fewP p).length ≤ 12 ∧ (joinP (fewP p)).size ≤ 500 := by
  have h1 : (fewP p).length ≤ 12 := by unfold fewP; rw [List.length_map, List.length_take]; omega
  refine ⟨h1, ?_⟩
  have e : (joinP (fewP p)).size = (Lib.join ((fewP p).map (·.data.toList)) [47]).length := by
    show (Lib.join ((fewP p).map (·.data.toList)) [47]).toArray.size = _
    simp
  rw [e]
  have hs : ∀ x ∈ fewP p, x.size ≤ 40 := by
    intro x hx
    unfold fewP at hx
    obtain ⟨t, _, rfl⟩ := List.mem_map.1 hx
    exact fewS_size t
  generalize fewP p = q at h1 hs
  have hk : ∀ (r : Pa), (∀ x ∈ r, x.size ≤ 40) → (Lib.joinTail [47] (r.map (·.data.toList))).length ≤ r.length * 41 := by
    intro r
    induction r with
    | nil => intro _; simp [Lib.joinTail]
    | cons x r ih =>
      intro hr
      have h2 := ih (fun y hy => hr y (List.mem_cons_of_mem _ hy))
      have h3 : x.data.toList.length ≤ 40 := by rw [Array.length_toList]; exact hr x List.mem_cons_self
      unfold Lib.joinTail at h2 ⊢
      simp only [List.map_cons, List.flatten_cons, List.length_append, List.length_cons, List.length_nil] at h2 ⊢
      omega
  cases q with
  | nil => simp [Lib.join_nil]
  | cons x r =>
    rw [List.map_cons, Lib.join_cons, List.length_append]
    have h2 := hk r (fun y hy => hs y (List.mem_cons_of_mem _ hy))
    have h3 : x.data.toList.length ≤ 40 := by rw [Array.length_toList]; exact hs x List.mem_cons_self
    simp only [List.length_cons] at h1
    omega
theorem toE_small (e : En) : SmallE (toE e) := by
  have h := few_small e.path
  refine ⟨by show (fewP e.path).length ≤ _; omega, by show (joinP (fewP e.path)).size ≤ _; omega, ?_⟩
  show (e.data.take 520).length ≤ _
  rw [List.length_take]
  omega
theorem toEs_next {es : List En} {i : Nat} {e : En} (h : es[i]? = some e) : (es.take (i + 1)).map toE = (es.take i).map toE ++ [toE e] := by
  rw [List.take_add_one, h, Option.toList_some, List.map_append]
  rfl
end Go.Proofs.YtdnaiiagblcohaaGreatDoor
end

/-
  The law's To: at most 41 entries, cut, in memory of the call's own, and the document's beside them. Condition: the entries lie in memory.
-/

section
set_option linter.unusedSimpArgs false
set_option linter.unusedVariables false
set_option maxRecDepth 100000
namespace Go.Proofs.YtdnaiiagblcohaaGreatDoor
open Go.RowKit

theorem not_own {v : Value} {S : Value} (h : ∀ g, v.ownBlock = some g → S.ownBlock ≠ some g) : ∀ k, v.ownBlock = some k → k ∉ S.ownBlock.toList := by
  intro k hk hm
  exact h k hk (by simpa using hm)
theorem OwnE.row {N M T s n : Nat} {w w' : World} {x : Ev} {e : En} {v : Value} {xs : List Value} (h : OwnE N w x e) (hr : w.ownsRow M T s v n xs) (ho : Only v.ownBlock.toList w w') (h1 : 9 ≠ T) (h2 : 5 ≠ T) : OwnE N w' x e :=
  h.only ho (not_own (own_own_ne h.path hr h1)) (not_own (own_own_ne h.data hr h2))
/-- Where To stands behind i entries. -/
structure ToAt (N : Nat) (w : World) (u4 u5 : Value) (es : List En) (i : Nat) (co cd : List Ev) : Prop where
  l1 : co.length = i
  l2 : cd.length = i
  r1 : w.ownsRow N 52 4 u4 i (rowE co)
  r2 : w.ownsRow N 90 4 u5 i (rowE cd)
  o1 : ∀ (j : Nat) x e, co[j]? = some x → ((es.take i).map toE)[j]? = some e → OwnE N w x e
  o2 : ∀ (j : Nat) x e, cd[j]? = some x → ((es.take i).map toE)[j]? = some e → OwnE N w x e
theorem ToAt.below {N : Nat} {w w' : World} {u4 u5 : Value} {es : List En} {i : Nat} {co cd : List Ev} (h : ToAt N w u4 u5 es i co cd) (hb : Below w.heap.size w w') : ToAt N w' u4 u5 es i co cd :=
  ⟨h.l1, h.l2, ownsRow_only (S := []) h.r1 (Only.of_below hb) (by simp), ownsRow_only (S := []) h.r2 (Only.of_below hb) (by simp), fun j x e h1 h2 => (h.o1 j x e h1 h2).below hb, fun j x e h1 h2 => (h.o2 j x e h1 h2).below hb⟩
theorem to_out {N i : Nat} {w : World} {u4 u5 : Value} {es ts : List En} {co cd : List Ev} (h : ToAt N w u4 u5 es i co cd) (ht : (es.take i).map toE = ts) (hi : i ≤ es.length) :
    ∃ A1 c1 A2 c2, u4 = .slice A1 ts.length c1 ∧ u5 = .slice A2 ts.length c2 ∧ EIn w A1 ts.length c1 co ts ∧ EIn w A2 ts.length c2 cd ts := by
  subst ht
  have hl : ((es.take i).map toE).length = i := by rw [List.length_map, List.length_take]; omega
  have r1 := h.r1
  have r2 := h.r2
  rw [← h.l1] at r1
  rw [← h.l2] at r2
  obtain ⟨A1, c1, e1, h1⟩ := ein_own r1 (by rw [h.l1, hl]) h.o1
  obtain ⟨A2, c2, e2, h2⟩ := ein_own r2 (by rw [h.l2, hl]) h.o2
  exact ⟨A1, c1, A2, c2, e1, e2, h1, h2⟩
theorem ev_info : (Tryz.prog.info? 52).map (fun i => (i.zero, i.size, i.bytes)) = some (some (.agg #[.slice none 0 0, .int .i64 0, .int .i64 0, .slice none 0 0]), 4, 64) := by kernel_rfl
theorem rev_info12 : (Tryz.prog.info? 90).map (fun i => (i.zero, i.size, i.bytes)) = some (some (.agg #[.slice none 0 0, .int .i64 0, .int .i64 0, .slice none 0 0]), 4, 64) := by kernel_rfl
theorem byt_info : (Tryz.prog.info? 5).map (fun i => (i.zero, i.size, i.bytes)) = some (some (.int .u8 0), 1, 1) := by kernel_rfl
theorem build_ev (W : World) (A : Option Addr) (n c : Nat) (k m : Int) (D : Option Addr) (dn dc : Nat) : (Instr.build 52 #[(0, .slice A n c), (1, .int .i64 k), (2, .int .i64 m), (3, .slice D dn dc)]).run Tryz.prog W = .ok (evV ⟨A, n, c, k, m, D, dn, dc⟩) W := by kernel_rfl
theorem build_rev (W : World) (A : Option Addr) (n c : Nat) (k m : Int) (D : Option Addr) (dn dc : Nat) : (Instr.build 90 #[(0, .slice A n c), (1, .int .i64 k), (2, .int .i64 m), (3, .slice D dn dc)]).run Tryz.prog W = .ok (evV ⟨A, n, c, k, m, D, dn, dc⟩) W := by kernel_rfl
theorem slice_ev (W : World) (x : Ev) : (Instr.buildSlice 23 1 #[(0, evV x)]).run Tryz.prog W = .ok (.slice (some ⟨W.heap.size, 0, none⟩) 1 1) (W.alloc (.cells (evC x).toArray 52)) := by kernel_rfl
theorem slice_rev12 (W : World) (x : Ev) : (Instr.buildSlice 22 1 #[(0, evV x)]).run Tryz.prog W = .ok (.slice (some ⟨W.heap.size, 0, none⟩) 1 1) (W.alloc (.cells (evC x).toArray 90)) := by kernel_rfl
theorem slice0_b (W : World) : (Instr.buildSlice 26 0 #[]).run Tryz.prog W = .ok (.slice (some ⟨W.heap.size, 0, none⟩) 0 0) (W.alloc (.cells #[] 5)) := by kernel_rfl
theorem slice0_s (W : World) : (Instr.buildSlice 50 0 #[]).run Tryz.prog W = .ok (.slice (some ⟨W.heap.size, 0, none⟩) 0 0) (W.alloc (.cells #[] 9)) := by kernel_rfl
/-- A new row of one. -/
def rowOneE (t : TypeId) (b0 : Nat) (cs : List Value) : Value → World → Prop := fun u w => ∃ p, u = .slice (some ⟨p, 0, none⟩) 1 1 ∧ b0 ≤ p ∧ Blk w p t cs
theorem rowOneE.st (t : TypeId) (b0 : Nat) (cs : List Value) : StV (rowOneE t b0 cs) := fun _ _ _ ⟨p, h1, h2, h3⟩ hb => ⟨p, h1, h2, h3.below hb h3.lt⟩
def evNV (N : Nat) (e : En) : Value → World → Prop := fun u w => ∃ x : Ev, u = evV x ∧ OwnE N w x e
theorem evNV.st (N : Nat) (e : En) : StV (evNV N e) := fun _ _ _ ⟨x, h1, h2⟩ hb => ⟨x, h1, h2.below hb⟩
def rowNV (t N : Nat) (e : En) : Value → World → Prop := fun u w => ∃ p, ∃ x : Ev, u = .slice (some ⟨p, 0, none⟩) 1 1 ∧ N ≤ p ∧ Blk w p t (evC x) ∧ OwnE N w x e
theorem rowNV.st (t N : Nat) (e : En) : StV (rowNV t N e) := fun _ _ _ ⟨p, x, h1, h2, h3, h4⟩ hb => ⟨p, x, h1, h2, h3.below hb h3.lt, h4.below hb⟩
theorem own_mk {N dn : Nat} {w : World} {A D : Option Addr} {pc dc : Nat} {k m : Int} {e : En} {dt : List B8} (hp : w.ownsRow N 9 1 (.slice A (fewP e.path).length pc) (fewP e.path).length (strV (fewP e.path))) (hk : (toE e).kind = k) (hm : (toE e).mode = m) (hd : w.ownsRow N 5 1 (.slice D dn dc) dt.length (Vb dt)) (he : dt = e.data.take 520) : OwnE N w ⟨A, (fewP e.path).length, pc, k, m, D, dn, dc⟩ (toE e) := by
  subst he
  exact ⟨hp, hk, hm, hd, toE_small e⟩
theorem OwnE.base {N M : Nat} {w : World} {x : Ev} {e : En} (h : OwnE M w x e) (hN : N ≤ M) : OwnE N w x e := ⟨own_base h.path hN, h.kind, h.mode, own_base h.data hN, h.small⟩
theorem own_snoc {N i : Nat} {w : World} {es : List En} {co : List Ev} {x : Ev} {e : En} (hl : co.length = i) (he : es[i]? = some e) (h : ∀ (j : Nat) y f, co[j]? = some y → ((es.take i).map toE)[j]? = some f → OwnE N w y f) (hx : OwnE N w x (toE e)) :
    ∀ (j : Nat) y f, (co ++ [x])[j]? = some y → ((es.take (i + 1)).map toE)[j]? = some f → OwnE N w y f := by
  intro j y f hy hf
  rw [toEs_next he] at hf
  have hi : ((es.take i).map toE).length = i := by
    have := (List.getElem?_eq_some_iff.1 he).1
    rw [List.length_map, List.length_take]
    omega
  rcases Nat.lt_or_ge j i with hj | hj
  · rw [List.getElem?_append_left (by omega)] at hy hf
    exact h j y f hy hf
  · rw [List.getElem?_append_right (by omega), hl] at hy
    rw [List.getElem?_append_right (by omega), hi] at hf
    have h0 : j - i = 0 := by
      have := (List.getElem?_eq_some_iff.1 hy).1
      simp at this
      omega
    rw [h0] at hy hf
    simp only [List.getElem?_cons_zero, Option.some.injEq] at hy hf
    subst hy hf
    exact hx
theorem sin_rows {w : World} {A : Option Addr} {n c : Nat} {p : Pa} (h : SIn w A n c p) (h0 : 0 < n) : ∃ g off, A = some ⟨g, off, none⟩ ∧ ∀ (j : Nat) u, (strV p)[j]? = some u → w.cell? ⟨g, off + j, none⟩ = some u := by
  obtain ⟨g, o, hA, _, hc⟩ := h.cells h0
  exact ⟨g, o, hA, fun j u hu => by obtain ⟨t, h1, rfl⟩ := strV_get hu; exact hc j t h1⟩
theorem din_rows {w : World} {A : Option Addr} {n c : Nat} {d : List B8} (h : DIn w A n c d) (h0 : 0 < n) : ∃ g off, A = some ⟨g, off, none⟩ ∧ ∀ (j : Nat) u, (Vb d)[j]? = some u → w.cell? ⟨g, off + j, none⟩ = some u := by
  obtain ⟨g, o, hA, _, hc⟩ := h.cells h0
  exact ⟨g, o, hA, hc⟩
set_option maxHeartbeats 8000000 in
theorem to12_any (w : World) (A : Option Addr) (n c : Nat) (xs : List Ev) (es : List En) (h : ERd w A n c xs es) :
    Calls Tryz.prog 9 #[.slice A n c] w fun e w' => ∃ A1 c1 A2 c2 X Y, e = .returned (.tuple #[.slice A1 (toEs es).length c1, .slice A2 (toEs es).length c2]) ∧ EIn w' A1 (toEs es).length c1 X (toEs es) ∧ EIn w' A2 (toEs es).length c2 Y (toEs es) ∧ Below w.heap.size w w' := by
  have hbig : n ≤ 9223372036854775807 := by have := h.cap; have := h.big; omega
  have hcap := h.cap
  have H := Lib.hid h
  have HL := Lib.hid h.elen
  clear h
  go_enter Tryz.func9, Tryz.ntmps9
  go_wp2_with fail
  go_loopw [4, 5, 6] (fun u4 u5 iv wr => ∃ (i : Nat) (co cd : List Ev), i ≤ n ∧ i ≤ 41 ∧ iv = .int .i64 i ∧ Hid (ToAt w.heap.size wr u4 u5 es i co cd) ∧ Hid (Below w.heap.size w wr)) (fun _ _ iv _ => 41 - (intOf iv).toNat)
  case atStart => exact ⟨0, [], [], by omega, by omega, rfl, Lib.hid ⟨rfl, rfl, World.ownsRow_nil _ _ _ _, World.ownsRow_nil _ _ _ _, fun j x e h => by simp at h, fun j x e h => by simp at h⟩, Lib.hid (Below.refl _ _)⟩
  case round =>
    obtain ⟨i, co, cd, hi, hi41, rfl, HO, HW⟩ := hrel
    by_cases hlt : i < n
    · by_cases hlt41 : i < 41
      · obtain ⟨g, o, x, e, rfl, hg, hx, he, hok, hcl⟩ := H.out.row hlt
        have HC := Lib.hid hcl
        have q0 : wr.cell? ⟨g, o + i * 4, none⟩ = some (.slice x.PA x.pn x.pc) := pcell_below (hcl 0 _ rfl) HW.out
        have HK := Lib.hid (And.intro (hok.below HW.out) (And.intro he hg))
        clear hx he hok hcl
        have b0 : (0 : Int) ≤ (i : Int) := by omega
        have b1 : (i : Int) < (n : Int) := by omega
        go_wp2_with fail
        refine (few_any wr x.PA x.pn x.pc e.path HK.out.1.path).mono ?_
        rintro en w1 ⟨v7, rfl, h7, hW1⟩
        obtain ⟨P7, c7, rfl⟩ := own_slice h7
        have q3 : w1.cell? ⟨g, o + i * 4 + 3, none⟩ = some (.slice x.DA x.dn x.dc) := pcell_below (pcell_below (HC.out 3 _ rfl) HW.out) hW1
        have H1 := Lib.hid (And.intro (own_base h7 HW.out.size) (And.intro (HO.out.below hW1) (And.intro (HW.out.trans (hW1.mono HW.out.size)) (HK.out.1.data.below hW1))))
        clear h7 hW1 q0
        have hdc := H1.out.2.2.2.cap
        have hdb := H1.out.2.2.2.big
        have d0 : (0 : Int) ≤ min (x.dn : Int) 520 := by omega
        have d1 : min (x.dn : Int) 520 ≤ (x.dc : Int) := by omega
        have d2 : min (x.dn : Int) 520 ≤ (x.dn : Int) := by omega
        have HD := Lib.hid (H1.out.2.2.2.take (k := (min (x.dn : Int) 520).toNat) (c' := x.dc) (by omega) (by omega) (Nat.le_refl _))
        obtain ⟨dt, hdt⟩ : ∃ d, d = e.data.take 520 := ⟨_, rfl⟩
        have HDt : Hid (dt = e.data.take 520 ∧ dt.length ≤ 520) := Lib.hid ⟨hdt, by rw [hdt, List.length_take]; omega⟩
        have HT : Hid (e.data.take (min (x.dn : Int) 520).toNat = dt ∧ dt.length = (min (x.dn : Int) 520).toNat) := Lib.hid (by
          rw [hdt]
          have hl := H1.out.2.2.2.len
          have e1 : e.data.take (min (x.dn : Int) 520).toNat = e.data.take 520 := by
            rcases Nat.lt_or_ge 520 x.dn with h | h
            · rw [show (min (x.dn : Int) 520).toNat = 520 by omega]
            · rw [List.take_of_length_le (by omega), List.take_of_length_le (by omega)]
          exact ⟨e1, by rw [← e1, List.length_take]; omega⟩)
        clear hdt
        go_wp2_with fail
        refine wp_hideQ ?_
        intro QQ hQQ
        refine wp_region_quickT [some 25, some 26, some 27, some 28, some 29, some 30, some 31, some 32, some 33, some 34, some 35, some 36, some 37, some 38] [noV 5 w1.heap.size, isV (.slice (some ⟨g, o, none⟩) n c), isV (.int .i64 (i : Int)), isV (.pointer (some ⟨g, o + i * 4, none⟩)), isV (.pointer (some ⟨g, o + i * 4 + 3, none⟩)), isV (.slice x.DA x.dn x.dc), isV (.slice (some ⟨g, o, none⟩) n c), isV (.int .i64 (i : Int)), isV (.pointer (some ⟨g, o + i * 4, none⟩)), isV (.pointer (some ⟨g, o + i * 4 + 3, none⟩)), isV (.slice x.DA x.dn x.dc), isV (.int .i64 (x.dn : Int)), isV (.int .i64 (min (x.dn : Int) 520)), isV (.slice x.DA (min (x.dn : Int) 520).toNat x.dc)] 14 16 (by kernel_rfl) rfl rfl rfl rfl (by kernel_rfl) (by kernel_rfl) (by simp [isV.st, noV.st]) ?_ ?_
        · intro hq rz hz
          match rz, hz with
          | 0, _ =>
            refine StepL.val rfl [] (by decide +kernel) ?_
            intro v wx hR hd
            have hb := pnew wx (.cells #[] 5)
            exact ⟨wanted_plain rfl _, xe_ex (x_slice rfl pairs_0 (slice0_b wx)) ⟨hR.trans (hb.mono hR.size), hb, _, rfl, hR.size, Blk.new wx 5 []⟩⟩
          | 1, _ =>
            refine StepL.val rfl [] (by decide +kernel) ?_
            intro v wx hR hd
            exact ⟨wanted_plain rfl _, _, _, x_move rfl (fill_off rfl rfl), hR, Below.refl _ _, rfl⟩
          | 2, _ =>
            refine StepL.val rfl [] (by decide +kernel) ?_
            intro v wx hR hd
            exact ⟨wanted_plain rfl _, _, _, x_move rfl (fill_off rfl rfl), hR, Below.refl _ _, rfl⟩
          | 3, _ =>
            refine StepL.val rfl [1, 2] (by decide +kernel) ?_
            intro v wx hR hd
            have h1 : v 1 = _ := hd 1 (by simp)
            have h2 : v 2 = _ := hd 2 (by simp)
            exact ⟨wanted_plain rfl _, _, _, x_index rfl (hq.at_ rfl h1) (hq.at_ rfl h2) (r_index (e := 90) (size := 4) (by kernel_rfl) (by kernel_rfl) (by omega) (by omega) (by first | omega | simp)), hR, Below.refl _ _, rfl⟩
          | 4, _ =>
            refine StepL.val rfl [3] (by decide +kernel) ?_
            intro v wx hR hd
            have h3 : v 3 = _ := hd 3 (by simp)
            exact ⟨wanted_plain rfl _, _, _, x_field rfl (hq.at_ rfl h3) (r_field (off := 3) (by kernel_rfl)), hR, Below.refl _ _, rfl⟩
          | 5, _ =>
            refine StepL.val rfl [4] (by decide +kernel) ?_
            intro v wx hR hd
            have h4 : v 4 = _ := hd 4 (by simp)
            exact ⟨wanted_plain rfl _, _, _, x_load rfl (hq.at_ rfl h4) (r_load (by kernel_rfl) (pcell_below q3 hR)), hR, Below.refl _ _, rfl⟩
          | 6, _ =>
            refine StepL.val rfl [] (by decide +kernel) ?_
            intro v wx hR hd
            exact ⟨wanted_plain rfl _, _, _, x_move rfl (fill_off rfl rfl), hR, Below.refl _ _, rfl⟩
          | 7, _ =>
            refine StepL.val rfl [] (by decide +kernel) ?_
            intro v wx hR hd
            exact ⟨wanted_plain rfl _, _, _, x_move rfl (fill_off rfl rfl), hR, Below.refl _ _, rfl⟩
          | 8, _ =>
            refine StepL.val rfl [6, 7] (by decide +kernel) ?_
            intro v wx hR hd
            have h6 : v 6 = _ := hd 6 (by simp)
            have h7 : v 7 = _ := hd 7 (by simp)
            exact ⟨wanted_plain rfl _, _, _, x_index rfl (hq.at_ rfl h6) (hq.at_ rfl h7) (r_index (e := 90) (size := 4) (by kernel_rfl) (by kernel_rfl) (by omega) (by omega) (by first | omega | simp)), hR, Below.refl _ _, rfl⟩
          | 9, _ =>
            refine StepL.val rfl [8] (by decide +kernel) ?_
            intro v wx hR hd
            have h8 : v 8 = _ := hd 8 (by simp)
            exact ⟨wanted_plain rfl _, _, _, x_field rfl (hq.at_ rfl h8) (r_field (off := 3) (by kernel_rfl)), hR, Below.refl _ _, rfl⟩
          | 10, _ =>
            refine StepL.val rfl [9] (by decide +kernel) ?_
            intro v wx hR hd
            have h9 : v 9 = _ := hd 9 (by simp)
            exact ⟨wanted_plain rfl _, _, _, x_load rfl (hq.at_ rfl h9) (r_load (by kernel_rfl) (pcell_below q3 hR)), hR, Below.refl _ _, rfl⟩
          | 11, _ =>
            refine StepL.val rfl [10] (by decide +kernel) ?_
            intro v wx hR hd
            have h10 : v 10 = _ := hd 10 (by simp)
            exact ⟨wanted_plain rfl _, _, _, x_len rfl rfl rfl rfl (by kernel_rfl) (hq.at_ rfl h10), hR, Below.refl _ _, rfl⟩
          | 12, _ =>
            refine StepL.val rfl [11] (by decide +kernel) ?_
            intro v wx hR hd
            have h11 : v 11 = _ := hd 11 (by simp)
            exact ⟨wanted_plain rfl _, _, _, x_min2 rfl (hq.at_ rfl h11) rfl, hR, Below.refl _ _, rfl⟩
          | 13, _ =>
            refine StepL.val rfl [5, 12] (by decide +kernel) ?_
            intro v wx hR hd
            have h5 : v 5 = _ := hd 5 (by simp)
            have h12 : v 12 = _ := hd 12 (by simp)
            exact ⟨wanted_plain rfl _, _, _, x_sub_h rfl (by kernel_rfl) (hq.at_ rfl h5) (hq.at_ rfl h12) d0 d1, hR, Below.refl _ _, rfl⟩
          | rz + 14, h => omega
        · intro v wx hR hV
          obtain ⟨p0, h0, hp0, hk0⟩ : noV 5 w1.heap.size (v 0) wx := hV 0 (by omega)
          have h13 : v 13 = _ := hV 13 (by omega)
          simp only [fillR, Act.put, List.setIfInBounds_toArray, List.set_cons_zero, List.set_cons_succ, List.drop_succ_cons, List.drop_zero, h0, h13]
          refine wpList_app (v := .slice (some ⟨p0, 0, none⟩) 0 0) (base := w.heap.size) rfl rfl Tryz.underlying26 byt_info rfl (by decide) (Vb dt) rfl (own_made hk0 (Nat.le_trans H1.out.2.2.1.size hp0)) rfl (by rw [Vb_length, HT.out.2, Nat.mul_one]) (fun h0 => by rw [← HT.out.1]; exact din_rows (HD.out.below hR) h0) (Vb_oneCell _) (by omega) (by decide) (Nat.le_trans H1.out.2.2.1.size hR.size) ?_
          intro v8 w2 k1 k2 k3
          rw [Nat.zero_add, List.nil_append, ← HT.out.2] at k1
          obtain ⟨P8, c8, rfl⟩ := own_slice k1
          have hb12 : Below w1.heap.size w1 w2 := hR.trans (k2.below hR.size (by intro k hk; simp [Value.ownBlock] at hk; omega))
          have q1 : w2.cell? ⟨g, o + i * 4 + 1, none⟩ = some (.int .i64 x.k) := pcell_below (pcell_below (HC.out 1 _ rfl) H1.out.2.2.1) hb12
          have q2 : w2.cell? ⟨g, o + i * 4 + 2, none⟩ = some (.int .i64 x.m) := pcell_below (pcell_below (HC.out 2 _ rfl) H1.out.2.2.1) hb12
          have hN2 : w.heap.size ≤ w2.heap.size := Nat.le_trans H1.out.2.2.1.size hb12.size
          have H2 := Lib.hid (And.intro (ownsRow_only (S := []) H1.out.1 (Only.of_below hb12) (by simp)) (And.intro (H1.out.2.1.below hb12) (And.intro (H1.out.2.2.1.trans (hb12.mono H1.out.2.2.1.size)) (And.intro k1 hN2))))
          have HKM : Hid ((toE e).kind = x.k ∧ (toE e).mode = x.m) := Lib.hid ⟨HK.out.1.kind, HK.out.1.mode⟩
          clear k1 k2 k3 hb12 hN2 hR hV h13 h0 hp0 hk0 q3
          go_wp2_with fail
          refine wp_hideQ ?_
          intro QR hQR
          refine wp_region_quickT [some 40, some 41, some 42, some 43, some 44, some 45, some 46, some 47, some 48, some 49, some 50, some 51, some 52, some 53, some 54] [isV (u4), isV (.slice P7 (fewP e.path).length c7), isV (.slice (some ⟨g, o, none⟩) n c), isV (.int .i64 (i : Int)), isV (.pointer (some ⟨g, o + i * 4, none⟩)), isV (.pointer (some ⟨g, o + i * 4 + 1, none⟩)), isV (.int .i64 x.k), isV (.slice (some ⟨g, o, none⟩) n c), isV (.int .i64 (i : Int)), isV (.pointer (some ⟨g, o + i * 4, none⟩)), isV (.pointer (some ⟨g, o + i * 4 + 2, none⟩)), isV (.int .i64 x.m), isV (.slice P8 dt.length c8), isV (evV (⟨P7, (fewP e.path).length, c7, x.k, x.m, P8, dt.length, c8⟩ : Ev)), rowOneE 52 w2.heap.size (evC (⟨P7, (fewP e.path).length, c7, x.k, x.m, P8, dt.length, c8⟩ : Ev))] 15 17 (by kernel_rfl) rfl rfl rfl rfl (by kernel_rfl) (by kernel_rfl) (by simp [isV.st, rowOneE.st]) ?_ ?_
          · intro hq rz hz
            match rz, hz with
            | 0, _ =>
              refine StepL.val rfl [] (by decide +kernel) ?_
              intro v wx hR hd
              exact ⟨wanted_plain rfl _, _, _, x_move rfl (fill_off rfl rfl), hR, Below.refl _ _, rfl⟩
            | 1, _ =>
              refine StepL.val rfl [] (by decide +kernel) ?_
              intro v wx hR hd
              exact ⟨wanted_plain rfl _, _, _, x_move rfl (fill_off rfl rfl), hR, Below.refl _ _, rfl⟩
            | 2, _ =>
              refine StepL.val rfl [] (by decide +kernel) ?_
              intro v wx hR hd
              exact ⟨wanted_plain rfl _, _, _, x_move rfl (fill_off rfl rfl), hR, Below.refl _ _, rfl⟩
            | 3, _ =>
              refine StepL.val rfl [] (by decide +kernel) ?_
              intro v wx hR hd
              exact ⟨wanted_plain rfl _, _, _, x_move rfl (fill_off rfl rfl), hR, Below.refl _ _, rfl⟩
            | 4, _ =>
              refine StepL.val rfl [2, 3] (by decide +kernel) ?_
              intro v wx hR hd
              have h2 : v 2 = _ := hd 2 (by simp)
              have h3 : v 3 = _ := hd 3 (by simp)
              exact ⟨wanted_plain rfl _, _, _, x_index rfl (hq.at_ rfl h2) (hq.at_ rfl h3) (r_index (e := 90) (size := 4) (by kernel_rfl) (by kernel_rfl) (by omega) (by omega) (by first | omega | simp)), hR, Below.refl _ _, rfl⟩
            | 5, _ =>
              refine StepL.val rfl [4] (by decide +kernel) ?_
              intro v wx hR hd
              have h4 : v 4 = _ := hd 4 (by simp)
              exact ⟨wanted_plain rfl _, _, _, x_field rfl (hq.at_ rfl h4) (r_field (off := 1) (by kernel_rfl)), hR, Below.refl _ _, rfl⟩
            | 6, _ =>
              refine StepL.val rfl [5] (by decide +kernel) ?_
              intro v wx hR hd
              have h5 : v 5 = _ := hd 5 (by simp)
              exact ⟨wanted_plain rfl _, _, _, x_load rfl (hq.at_ rfl h5) (r_load (by kernel_rfl) (pcell_below q1 hR)), hR, Below.refl _ _, rfl⟩
            | 7, _ =>
              refine StepL.val rfl [] (by decide +kernel) ?_
              intro v wx hR hd
              exact ⟨wanted_plain rfl _, _, _, x_move rfl (fill_off rfl rfl), hR, Below.refl _ _, rfl⟩
            | 8, _ =>
              refine StepL.val rfl [] (by decide +kernel) ?_
              intro v wx hR hd
              exact ⟨wanted_plain rfl _, _, _, x_move rfl (fill_off rfl rfl), hR, Below.refl _ _, rfl⟩
            | 9, _ =>
              refine StepL.val rfl [7, 8] (by decide +kernel) ?_
              intro v wx hR hd
              have h7 : v 7 = _ := hd 7 (by simp)
              have h8 : v 8 = _ := hd 8 (by simp)
              exact ⟨wanted_plain rfl _, _, _, x_index rfl (hq.at_ rfl h7) (hq.at_ rfl h8) (r_index (e := 90) (size := 4) (by kernel_rfl) (by kernel_rfl) (by omega) (by omega) (by first | omega | simp)), hR, Below.refl _ _, rfl⟩
            | 10, _ =>
              refine StepL.val rfl [9] (by decide +kernel) ?_
              intro v wx hR hd
              have h9 : v 9 = _ := hd 9 (by simp)
              exact ⟨wanted_plain rfl _, _, _, x_field rfl (hq.at_ rfl h9) (r_field (off := 2) (by kernel_rfl)), hR, Below.refl _ _, rfl⟩
            | 11, _ =>
              refine StepL.val rfl [10] (by decide +kernel) ?_
              intro v wx hR hd
              have h10 : v 10 = _ := hd 10 (by simp)
              exact ⟨wanted_plain rfl _, _, _, x_load rfl (hq.at_ rfl h10) (r_load (by kernel_rfl) (pcell_below q2 hR)), hR, Below.refl _ _, rfl⟩
            | 12, _ =>
              refine StepL.val rfl [] (by decide +kernel) ?_
              intro v wx hR hd
              exact ⟨wanted_plain rfl _, _, _, x_move rfl (fill_off rfl rfl), hR, Below.refl _ _, rfl⟩
            | 13, _ =>
              refine StepL.val rfl [1, 6, 11, 12] (by decide +kernel) ?_
              intro v wx hR hd
              have h1 : v 1 = _ := hd 1 (by simp)
              have h6 : v 6 = _ := hd 6 (by simp)
              have h11 : v 11 = _ := hd 11 (by simp)
              have h12 : v 12 = _ := hd 12 (by simp)
              exact ⟨wanted_plain rfl _, xe_ex (x_build rfl (pairs_4 (hq.at_ rfl h1) (hq.at_ rfl h6) (hq.at_ rfl h11) (hq.at_ rfl h12)) (build_ev wx _ _ _ _ _ _ _ _)) ⟨hR, Below.refl _ _, rfl⟩⟩
            | 14, _ =>
              refine StepL.val rfl [13] (by decide +kernel) ?_
              intro v wx hR hd
              have h13 : v 13 = _ := hd 13 (by simp)
              have hb := pnew wx (.cells (evC (⟨P7, (fewP e.path).length, c7, x.k, x.m, P8, dt.length, c8⟩ : Ev)).toArray 52)
              exact ⟨wanted_plain rfl _, xe_ex (x_slice rfl (pairs_1 (hq.at_ rfl h13)) (slice_ev wx _)) ⟨hR.trans (hb.mono hR.size), hb, _, rfl, hR.size, Blk.new wx 52 (evC _)⟩⟩
            | rz + 15, h => omega
          · intro v wx hR hV
            obtain ⟨p14, h14, hp14, hk14⟩ : rowOneE 52 w2.heap.size (evC (⟨P7, (fewP e.path).length, c7, x.k, x.m, P8, dt.length, c8⟩ : Ev)) (v 14) wx := hV 14 (by omega)
            have h00 : v 0 = _ := hV 0 (by omega)
            simp only [fillR, Act.put, List.setIfInBounds_toArray, List.set_cons_zero, List.set_cons_succ, List.drop_succ_cons, List.drop_zero, h14, h00]
            refine wpList_app (v := u4) (base := w.heap.size) (n := i) rfl rfl Tryz.underlying23 ev_info rfl (by decide) (evC (⟨P7, (fewP e.path).length, c7, x.k, x.m, P8, dt.length, c8⟩ : Ev)) rfl ((H2.out.2.1.below hR).r1) rfl rfl (fun _ => ⟨_, _, rfl, fun j u hu => by rw [Nat.zero_add]; exact (hk14.cell j).trans hu⟩) (evC_one _) (by omega) (by decide) (Nat.le_trans H2.out.2.2.2.2 hR.size) ?_
            intro v4 w3 k1 k2 k3
            have hN3 : Below w.heap.size w w3 := (H2.out.2.2.1.trans (hR.mono H2.out.2.2.2.2)).trans (k2.below (Nat.le_trans H2.out.2.2.2.2 hR.size) (fun k hk => (H2.out.2.1.r1.lt k (by simpa using hk)).1))
            have q1' : w3.cell? ⟨g, o + i * 4 + 1, none⟩ = some (.int .i64 x.k) := (hN3.cell (p := ⟨g, _, none⟩) HK.out.2.2).trans (HC.out 1 _ rfl)
            have q2' : w3.cell? ⟨g, o + i * 4 + 2, none⟩ = some (.int .i64 x.m) := (hN3.cell (p := ⟨g, _, none⟩) HK.out.2.2).trans (HC.out 2 _ rfl)
            have hp3 := ownsRow_only (ownsRow_only (S := []) H2.out.1 (Only.of_below hR) (by simp)) k2 (not_own (own_own_ne (ownsRow_only (S := []) H2.out.1 (Only.of_below hR) (by simp)) (H2.out.2.1.below hR).r1 (by decide)))
            have hd3 := ownsRow_only (ownsRow_only (S := []) H2.out.2.2.2.1 (Only.of_below hR) (by simp)) k2 (not_own (own_own_ne (ownsRow_only (S := []) H2.out.2.2.2.1 (Only.of_below hR) (by simp)) (H2.out.2.1.below hR).r1 (by decide)))
            have h5 := ownsRow_only (H2.out.2.1.below hR).r2 k2 (not_own (own_own_ne (H2.out.2.1.below hR).r2 (H2.out.2.1.below hR).r1 (by decide)))
            have H3 := Lib.hid (And.intro k1 (And.intro h5 (And.intro (fun (j : Nat) y (f : En) (h1 : co[j]? = some y) h2 => ((H2.out.2.1.below hR).o1 j y f h1 h2).row (H2.out.2.1.below hR).r1 k2 (by decide) (by decide)) (And.intro (fun (j : Nat) y (f : En) (h1 : cd[j]? = some y) h2 => ((H2.out.2.1.below hR).o2 j y f h1 h2).row (H2.out.2.1.below hR).r1 k2 (by decide) (by decide)) (And.intro hp3 (And.intro hd3 hN3))))))
            have HS := Lib.hid (And.intro (sin_own hp3) (din_own hd3))
            clear k1 k2 k3 hN3 hp3 hd3 h5 hR hV h14 h00 hp14 hk14 q1 q2
            have q1 := q1'
            have q2 := q2'
            clear q1' q2'
            go_wp2_with fail
            refine wp_hideQ ?_
            intro QT hQT
            refine wp_region_quickT [some 56, some 57, some 58, some 59, some 60, some 61, some 62, some 63, some 64, some 65, some 66, some 67, some 68, some 69, some 70, some 71, some 72, some 73, some 74] [isV (u5), noV 9 w3.heap.size, isV (.slice P7 (fewP e.path).length c7), ownSV w3.heap.size 9 1 (fewP e.path).length (strV (fewP e.path)), isV (.slice (some ⟨g, o, none⟩) n c), isV (.int .i64 (i : Int)), isV (.pointer (some ⟨g, o + i * 4, none⟩)), isV (.pointer (some ⟨g, o + i * 4 + 1, none⟩)), isV (.int .i64 x.k), isV (.slice (some ⟨g, o, none⟩) n c), isV (.int .i64 (i : Int)), isV (.pointer (some ⟨g, o + i * 4, none⟩)), isV (.pointer (some ⟨g, o + i * 4 + 2, none⟩)), isV (.int .i64 x.m), noV 5 w3.heap.size, isV (.slice P8 dt.length c8), ownSV w3.heap.size 5 1 dt.length (Vb dt), evNV w3.heap.size (toE e), rowNV 90 w3.heap.size (toE e)] 19 21 (by kernel_rfl) rfl rfl rfl rfl (by kernel_rfl) (by kernel_rfl) (by simp [isV.st, noV.st, ownSV.st, evNV.st, rowNV.st]) ?_ ?_
            · intro hq rz hz
              match rz, hz with
              | 0, _ =>
                refine StepL.val rfl [] (by decide +kernel) ?_
                intro v wx hR hd
                exact ⟨wanted_plain rfl _, _, _, x_move rfl (fill_off rfl rfl), hR, Below.refl _ _, rfl⟩
              | 1, _ =>
                refine StepL.val rfl [] (by decide +kernel) ?_
                intro v wx hR hd
                have hb := pnew wx (.cells #[] 9)
                exact ⟨wanted_plain rfl _, xe_ex (x_slice rfl pairs_0 (slice0_s wx)) ⟨hR.trans (hb.mono hR.size), hb, _, rfl, hR.size, Blk.new wx 9 []⟩⟩
              | 2, _ =>
                refine StepL.val rfl [] (by decide +kernel) ?_
                intro v wx hR hd
                exact ⟨wanted_plain rfl _, _, _, x_move rfl (fill_off rfl rfl), hR, Below.refl _ _, rfl⟩
              | 3, _ =>
                refine StepL.val rfl [1, 2] (by decide +kernel) ?_
                intro v wx hR hd
                obtain ⟨p1, h1, hp1, hkp1⟩ : noV 9 w3.heap.size (v 1) wx := hd 1 (by simp)
                have h2 : v 2 = _ := hd 2 (by simp)
                exact ⟨wanted_plain rfl _, xe_app_zeroG (N := w3.heap.size) rfl Tryz.underlying50 str_info rfl (by decide) (hq.at_ rfl h1) hp1 hkp1 (hq.at_ rfl h2) (strV (fewP e.path)) (by rw [strV_length, Nat.mul_one]) (fun h0 => sin_rows (HS.out.1.below hR) h0) (strV_one _) (by have := (few_small e.path).1; omega) (by decide) hR.size (fun R' c' w' k1 k2 => ⟨hR.trans (k2.mono hR.size), k2, _, _, rfl, k1⟩)⟩
              | 4, _ =>
                refine StepL.val rfl [] (by decide +kernel) ?_
                intro v wx hR hd
                exact ⟨wanted_plain rfl _, _, _, x_move rfl (fill_off rfl rfl), hR, Below.refl _ _, rfl⟩
              | 5, _ =>
                refine StepL.val rfl [] (by decide +kernel) ?_
                intro v wx hR hd
                exact ⟨wanted_plain rfl _, _, _, x_move rfl (fill_off rfl rfl), hR, Below.refl _ _, rfl⟩
              | 6, _ =>
                refine StepL.val rfl [4, 5] (by decide +kernel) ?_
                intro v wx hR hd
                have h4 : v 4 = _ := hd 4 (by simp)
                have h5 : v 5 = _ := hd 5 (by simp)
                exact ⟨wanted_plain rfl _, _, _, x_index rfl (hq.at_ rfl h4) (hq.at_ rfl h5) (r_index (e := 90) (size := 4) (by kernel_rfl) (by kernel_rfl) (by omega) (by omega) (by first | omega | simp)), hR, Below.refl _ _, rfl⟩
              | 7, _ =>
                refine StepL.val rfl [6] (by decide +kernel) ?_
                intro v wx hR hd
                have h6 : v 6 = _ := hd 6 (by simp)
                exact ⟨wanted_plain rfl _, _, _, x_field rfl (hq.at_ rfl h6) (r_field (off := 1) (by kernel_rfl)), hR, Below.refl _ _, rfl⟩
              | 8, _ =>
                refine StepL.val rfl [7] (by decide +kernel) ?_
                intro v wx hR hd
                have h7 : v 7 = _ := hd 7 (by simp)
                exact ⟨wanted_plain rfl _, _, _, x_load rfl (hq.at_ rfl h7) (r_load (by kernel_rfl) (pcell_below q1 hR)), hR, Below.refl _ _, rfl⟩
              | 9, _ =>
                refine StepL.val rfl [] (by decide +kernel) ?_
                intro v wx hR hd
                exact ⟨wanted_plain rfl _, _, _, x_move rfl (fill_off rfl rfl), hR, Below.refl _ _, rfl⟩
              | 10, _ =>
                refine StepL.val rfl [] (by decide +kernel) ?_
                intro v wx hR hd
                exact ⟨wanted_plain rfl _, _, _, x_move rfl (fill_off rfl rfl), hR, Below.refl _ _, rfl⟩
              | 11, _ =>
                refine StepL.val rfl [9, 10] (by decide +kernel) ?_
                intro v wx hR hd
                have h9 : v 9 = _ := hd 9 (by simp)
                have h10 : v 10 = _ := hd 10 (by simp)
                exact ⟨wanted_plain rfl _, _, _, x_index rfl (hq.at_ rfl h9) (hq.at_ rfl h10) (r_index (e := 90) (size := 4) (by kernel_rfl) (by kernel_rfl) (by omega) (by omega) (by first | omega | simp)), hR, Below.refl _ _, rfl⟩
              | 12, _ =>
                refine StepL.val rfl [11] (by decide +kernel) ?_
                intro v wx hR hd
                have h11 : v 11 = _ := hd 11 (by simp)
                exact ⟨wanted_plain rfl _, _, _, x_field rfl (hq.at_ rfl h11) (r_field (off := 2) (by kernel_rfl)), hR, Below.refl _ _, rfl⟩
              | 13, _ =>
                refine StepL.val rfl [12] (by decide +kernel) ?_
                intro v wx hR hd
                have h12 : v 12 = _ := hd 12 (by simp)
                exact ⟨wanted_plain rfl _, _, _, x_load rfl (hq.at_ rfl h12) (r_load (by kernel_rfl) (pcell_below q2 hR)), hR, Below.refl _ _, rfl⟩
              | 14, _ =>
                refine StepL.val rfl [] (by decide +kernel) ?_
                intro v wx hR hd
                have hb := pnew wx (.cells #[] 5)
                exact ⟨wanted_plain rfl _, xe_ex (x_slice rfl pairs_0 (slice0_b wx)) ⟨hR.trans (hb.mono hR.size), hb, _, rfl, hR.size, Blk.new wx 5 []⟩⟩
              | 15, _ =>
                refine StepL.val rfl [] (by decide +kernel) ?_
                intro v wx hR hd
                exact ⟨wanted_plain rfl _, _, _, x_move rfl (fill_off rfl rfl), hR, Below.refl _ _, rfl⟩
              | 16, _ =>
                refine StepL.val rfl [14, 15] (by decide +kernel) ?_
                intro v wx hR hd
                obtain ⟨p14, h14, hp14, hkp14⟩ : noV 5 w3.heap.size (v 14) wx := hd 14 (by simp)
                have h15 : v 15 = _ := hd 15 (by simp)
                exact ⟨wanted_plain rfl _, xe_app_zeroG (N := w3.heap.size) rfl Tryz.underlying26 byt_info rfl (by decide) (hq.at_ rfl h14) hp14 hkp14 (hq.at_ rfl h15) (Vb dt) (by rw [Vb_length, Nat.mul_one]) (fun h0 => din_rows (HS.out.2.below hR) h0) (Vb_oneCell _) (by have := HDt.out.2; omega) (by decide) hR.size (fun R' c' w' k1 k2 => ⟨hR.trans (k2.mono hR.size), k2, _, _, rfl, k1⟩)⟩
              | 17, _ =>
                refine StepL.val rfl [3, 8, 13, 16] (by decide +kernel) ?_
                intro v wx hR hd
                obtain ⟨P3, c3, h3, ho3⟩ : ownSV w3.heap.size 9 1 (fewP e.path).length (strV (fewP e.path)) (v 3) wx := hd 3 (by simp)
                have h8 : v 8 = _ := hd 8 (by simp)
                have h13 : v 13 = _ := hd 13 (by simp)
                obtain ⟨P16, c16, h16, ho16⟩ : ownSV w3.heap.size 5 1 dt.length (Vb dt) (v 16) wx := hd 16 (by simp)
                exact ⟨wanted_plain rfl _, xe_ex (x_build rfl (pairs_4 (hq.at_ rfl h3) (hq.at_ rfl h8) (hq.at_ rfl h13) (hq.at_ rfl h16)) (build_rev wx _ _ _ _ _ _ _ _)) ⟨hR, Below.refl _ _, _, rfl, own_mk ho3 HKM.out.1 HKM.out.2 ho16 HDt.out.1⟩⟩
              | 18, _ =>
                refine StepL.val rfl [17] (by decide +kernel) ?_
                intro v wx hR hd
                obtain ⟨x2, h17, ho17⟩ : evNV w3.heap.size (toE e) (v 17) wx := hd 17 (by simp)
                have hb := pnew wx (.cells (evC x2).toArray 90)
                exact ⟨wanted_plain rfl _, xe_ex (x_slice rfl (pairs_1 (hq.at_ rfl h17)) (slice_rev12 wx x2)) ⟨hR.trans (hb.mono hR.size), hb, _, _, rfl, hR.size, Blk.new wx 90 (evC x2), ho17.below hb⟩⟩
              | rz + 19, h => omega
            · intro v wx hR hV
              obtain ⟨p18, x18, h18, hp18, hk18, ho18⟩ : rowNV 90 w3.heap.size (toE e) (v 18) wx := hV 18 (by omega)
              have h00 : v 0 = _ := hV 0 (by omega)
              simp only [fillR, Act.put, List.setIfInBounds_toArray, List.set_cons_zero, List.set_cons_succ, List.drop_succ_cons, List.drop_zero, h18, h00]
              refine wpList_app (v := u5) (base := w.heap.size) (n := i) rfl rfl Tryz.underlying22 rev_info12 rfl (by decide) (evC x18) rfl (ownsRow_only (S := []) H3.out.2.1 (Only.of_below hR) (by simp)) rfl rfl (fun _ => ⟨_, _, rfl, fun j u hu => by rw [Nat.zero_add]; exact (hk18.cell j).trans hu⟩) (evC_one _) (by omega) (by decide) (Nat.le_trans H3.out.2.2.2.2.2.2.size hR.size) ?_
              intro v5 w4 k1 k2 k3
              have r1x := ownsRow_only (S := []) H3.out.1 (Only.of_below hR) (by simp)
              have r2x := ownsRow_only (S := []) H3.out.2.1 (Only.of_below hR) (by simp)
              have x1x := (own_mk (e := e) H3.out.2.2.2.2.1 HKM.out.1 HKM.out.2 H3.out.2.2.2.2.2.1 HDt.out.1).below hR
              have HF := Lib.hid (show ToAt w.heap.size w4 v4 v5 es (i + 1) (co ++ [(⟨P7, (fewP e.path).length, c7, x.k, x.m, P8, dt.length, c8⟩ : Ev)]) (cd ++ [x18]) ∧ Below w.heap.size w w4 from
                ⟨⟨by rw [List.length_append, HO.out.l1]; rfl, by rw [List.length_append, HO.out.l2]; rfl, by rw [rowE_snoc]; exact ownsRow_only r1x k2 (not_own (own_own_ne r1x r2x (by decide))), by rw [rowE_snoc]; exact k1,
                  own_snoc HO.out.l1 HK.out.2.1 (fun j y f h1 h2 => ((H3.out.2.2.1 j y f h1 h2).below hR).row r2x k2 (by decide) (by decide)) (x1x.row r2x k2 (by decide) (by decide)),
                  own_snoc HO.out.l2 HK.out.2.1 (fun j y f h1 h2 => ((H3.out.2.2.2.1 j y f h1 h2).below hR).row r2x k2 (by decide) (by decide)) ((ho18.base (N := w.heap.size) H3.out.2.2.2.2.2.2.size).row r2x k2 (by decide) (by decide))⟩,
                 (H3.out.2.2.2.2.2.2.trans (hR.mono H3.out.2.2.2.2.2.2.size)).trans (k2.below (Nat.le_trans H3.out.2.2.2.2.2.2.size hR.size) (fun k hk => (r2x.lt k (by simpa using hk)).1))⟩)
              clear k1 k2 k3 r1x r2x x1x hR hV h18 h00 hp18 hk18 ho18 q1 q2
              go_wp2_with fail
              exact ⟨⟨i + 1, _, _, by omega, by omega, by go_num, Lib.hid HF.out.1, Lib.hid HF.out.2⟩, by simp [intOf]; omega⟩
      · obtain rfl : i = 41 := by omega
        have HE : Hid ((es.take 41).map toE = toEs es) := Lib.hid rfl
        have HF := Lib.hid (to_out HO.out HE.out (by rw [HL.out]; exact hi))
        clear HO
        obtain ⟨A1, c1, A2, c2, rfl, rfl, e1, e2⟩ := HF.out
        have HG := Lib.hid (And.intro e1 e2)
        clear HF e1 e2
        go_wp2_with fail
        go_ret2
        exact ⟨A1, c1, A2, c2, co, cd, rfl, HG.out.1, HG.out.2, HW.out⟩
    · obtain rfl : i = n := by omega
      have HE : Hid ((es.take i).map toE = toEs es) := Lib.hid (by unfold toEs; rw [List.take_of_length_le (by rw [HL.out]; omega), List.take_of_length_le (by rw [HL.out]; omega)])
      have HF := Lib.hid (to_out HO.out HE.out (by rw [HL.out]; exact hi))
      clear HO
      obtain ⟨A1, c1, A2, c2, rfl, rfl, e1, e2⟩ := HF.out
      have HG := Lib.hid (And.intro e1 e2)
      clear HF e1 e2
      go_wp2_with fail
      go_ret2
      exact ⟨A1, c1, A2, c2, co, cd, rfl, HG.out.1, HG.out.2, HW.out⟩
end Go.Proofs.YtdnaiiagblcohaaGreatDoor
end

/-
  The checks of an entry, one by one. Conditions: the variables that paths' calls read hold what they must; the entries lie in memory.
-/

section
set_option linter.unusedSimpArgs false
set_option linter.unusedVariables false
set_option maxRecDepth 100000
namespace Go.Proofs.YtdnaiiagblcohaaGreatDoor
open Go.RowKit

theorem kindless_any (w : World) (x : Ev) (AH : Option Addr) (an ac : Nat) (SA : Option Addr) (sn sc : Nat) :
    Calls Tryz.prog 113 #[cdV x AH an ac SA sn sc] w fun e w' => e = .returned (.bool (kindlessE x.k)) ∧ Below w.heap.size w w' := by
  have HB := Lib.hid (pnew w (.cells (cdC x AH an ac SA sn sc).toArray 93))
  obtain ⟨PA, pn, pc, k, m, DA, dn, dc⟩ := x
  by_cases h0 : k = 0
  · subst h0
    go_enter Tryz.func113, Tryz.ntmps113
    go_wp2_with fail
    go_ret
    exact ⟨rfl, HB.out⟩
  · by_cases h1 : k = 1
    · subst h1
      go_enter Tryz.func113, Tryz.ntmps113
      go_wp2_with fail
      go_ret
      exact ⟨rfl, HB.out⟩
    · by_cases h2 : k = 2
      · subst h2
        go_enter Tryz.func113, Tryz.ntmps113
        go_wp2_with fail
        go_ret
        exact ⟨rfl, HB.out⟩
      · have HF : Hid (kindlessE k = true) := Lib.hid (by unfold kindlessE; simp [h0, h1, h2])
        go_enter Tryz.func113, Tryz.ntmps113
        go_wp2_with fail
        go_ret
        exact ⟨pret_bool (by rw [HF.out]; simp only [Bool.and_eq_true, bne_iff_ne, ne_eq]; exact ⟨⟨h0, h1⟩, h2⟩), HB.out⟩
theorem risky_any (w : World) (x : Ev) (AH : Option Addr) (an ac : Nat) (SA : Option Addr) (sn sc : Nat) :
    Calls Tryz.prog 114 #[cdV x AH an ac SA sn sc] w fun e w' => e = .returned (.bool (riskyE x.k x.m)) ∧ Below w.heap.size w w' := by
  have HB := Lib.hid (pnew w (.cells (cdC x AH an ac SA sn sc).toArray 93))
  obtain ⟨PA, pn, pc, k, m, DA, dn, dc⟩ := x
  go_enter Tryz.func114, Tryz.ntmps114
  go_wp2_with fail
  refine (safe_any _ k m 0 0).mono ?_
  rintro e w1 ⟨rfl, h1⟩
  have H1 := Lib.hid (HB.out.trans (h1.mono HB.out.size))
  clear h1
  go_wp2_with fail
  go_ret
  exact ⟨pret_bool rfl, H1.out⟩
theorem filled_any (w : World) (x : Ev) (AH : Option Addr) (an ac : Nat) (SA : Option Addr) (sn sc : Nat) (d : List B8) (hd : DIn w x.DA x.dn x.dc d) :
    Calls Tryz.prog 115 #[cdV x AH an ac SA sn sc] w fun e w' => e = .returned (.bool (filledE x.k d)) ∧ Below w.heap.size w w' := by
  have HB := Lib.hid (pnew w (.cells (cdC x AH an ac SA sn sc).toArray 93))
  have HF : Hid (filledE x.k d = (decide (x.k = 1) && decide (0 < x.dn))) := Lib.hid (by unfold filledE; rw [hd.len])
  clear hd
  obtain ⟨PA, pn, pc, k, m, DA, dn, dc⟩ := x
  by_cases h1 : k = 1
  · subst h1
    go_enter Tryz.func115, Tryz.ntmps115
    go_wp2_with fail
    go_ret
    exact ⟨pret_bool (by rw [HF.out]; simp), HB.out⟩
  · have HG : Hid (filledE k d = false) := Lib.hid (by rw [HF.out]; simp [h1])
    go_enter Tryz.func115, Tryz.ntmps115
    go_wp2_with fail
    go_ret
    exact ⟨pret_bool (by rw [HG.out]), HB.out⟩
theorem long_any (w : World) (x : Ev) (AH : Option Addr) (an ac : Nat) (SA : Option Addr) (sn sc : Nat) (d : List B8) (hd : DIn w x.DA x.dn x.dc d) :
    Calls Tryz.prog 116 #[cdV x AH an ac SA sn sc] w fun e w' => e = .returned (.bool (longE d)) ∧ Below w.heap.size w w' := by
  have HB := Lib.hid (pnew w (.cells (cdC x AH an ac SA sn sc).toArray 93))
  have HF : Hid (longE d = decide (512 < x.dn)) := Lib.hid (by unfold longE; rw [hd.len])
  clear hd
  obtain ⟨PA, pn, pc, k, m, DA, dn, dc⟩ := x
  go_enter Tryz.func116, Tryz.ntmps116
  go_wp2_with fail
  go_ret
  exact ⟨pret_bool (by rw [HF.out]; exact (Bool.eq_iff_iff.2 (by simp; omega))), HB.out⟩
theorem home_any (w : World) (hS : PSigns w) (x : Ev) (AH : Option Addr) (an ac : Nat) (SA : Option Addr) (sn sc : Nat) (p : Pa) (hp : SIn w x.PA x.pn x.pc p) :
    Calls Tryz.prog 151 #[cdV x AH an ac SA sn sc] w fun e w' => ∃ A' c', e = .returned (.slice A' (homeP p).length c') ∧ SIn w' A' (homeP p).length c' (homeP p) ∧ Below w.heap.size w w' := by
  have hb := pnew w (.cells (cdC x AH an ac SA sn sc).toArray 93)
  have HB := Lib.hid (And.intro hb (And.intro (hS.to hb) (hp.below hb)))
  clear hp hS hb
  obtain ⟨PA, pn, pc, k, m, DA, dn, dc⟩ := x
  go_enter Tryz.func151, Tryz.ntmps151
  go_wp2_with fail
  refine (psplit_any _ HB.out.2.1 PA pn pc p HB.out.2.2).mono ?_
  rintro e w1 ⟨A', c', s, z, rfl, h1, h2, h3⟩
  have H1 := Lib.hid (And.intro h1 (HB.out.1.trans (h3.mono HB.out.1.size)))
  clear h1 h2 h3
  go_wp2_with fail
  go_ret
  exact ⟨A', c', rfl, H1.out.1, H1.out.2⟩
end Go.Proofs.YtdnaiiagblcohaaGreatDoor
end
