/-
  Build's parts: an empty list; what the loops keep; what a push leaves; a region of the function's text. Plain definitions and theorems; conditions: those in each.
-/
import Derived.Test.YtodpojbgkeecnaaDoorCPush
import Derived.Deep.AppendLies
import Derived.Test.YtodpojbgkeecnaaDoorCAt
import Derived.Deep.DeepCutAuto
import Derived.Deep.CutBlock
set_option linter.unusedSimpArgs false
set_option linter.unusedVariables false
namespace Go.Proofs.YtodpojbgkeecnaaDoor
open Go.RowKit

theorem own_nil (w : World) : Calls Tryd.prog 31 #[.agg #[.int .i64 2, .int .i64 0, .slice none 0 0, .slice none 0 0]] w fun e w' => e = .returned (.agg #[.int .i64 2, .int .i64 0, .slice none 0 0, .slice none 0 0]) ∧ Below w.heap.size w w' := by
  obtain ⟨i0, hi, hz0, hz1, hz2⟩ := info_parts binfo
  have HI := Lib.hid hi
  clear hi hz0 hz1 hz2
  go_enter Tryd.func31, Tryd.ntmps31
  go_wp2_with (at_builtin; refine wpList_append_own_none rfl (.const (Value.slice none 0 0)) (.tmp 7) 23 rfl (w.heap.size + 2) 5 i0 1 Tryd.underlying23 HI.out (.slice none 0 0) 0 [] rfl (World.ownsRow_nil _ _ _ _) rfl ?_)
  refine wp_loop_rounds 1 ?_
  rw [rounds_succ]
  go_wp2_with fail
  refine bodyPost_ret (v := .agg #[.int .i64 2, .int .i64 0, .slice none 0 0, .slice none 0 0]) (by simp [results, Tryd.results31, go_sem]) rfl ⟨rfl, ?_⟩
  exact two_boxes w _ _ _ _ _ _ _ _

theorem of_nil (w : World) : Calls Tryd.prog 18 #[.slice none 0 0] w fun e w' => e = .returned (.agg #[.int .i64 2, .int .i64 0, .slice none 0 0, .slice none 0 0]) ∧ Below w.heap.size w w' := by
  go_enter Tryd.func18, Tryd.ntmps18
  go_wp2_with fail
  refine (own_nil _).mono ?_
  rintro e w2 ⟨rfl, hb2⟩
  rw [World.size_alloc] at hb2
  have hd : Blk w2 w.heap.size 26 [.int .i64 0, .int .i64 0, .slice none 0 0, .slice none 0 0] := (Blk.new w 26 [.int .i64 0, .int .i64 0, .slice none 0 0, .slice none 0 0]).below hb2 (Nat.lt_succ_self _)
  have g0 := hd.cell 0
  have g1 := hd.cell 1
  have g2 := hd.cell 2
  have g3 := hd.cell 3
  simp only [List.getElem?_cons_succ, List.getElem?_cons_zero] at g0 g1 g2 g3
  have k0 := hd.frozen 0
  have k1 := hd.frozen 1
  have k2 := hd.frozen 2
  have k3 := hd.frozen 3
  have H2 := Lib.hid hb2
  clear hb2 hd
  go_wp2_with fail
  refine bodyPost_ret (v := .agg #[.int .i64 2, .int .i64 0, .slice none 0 0, .slice none 0 0]) (by simp [results, Tryd.results18, go_sem, g0, g1, g2, g3]) rfl ⟨rfl, ?_⟩
  exact (((((((Below.refl _ w).alloc (Nat.le_refl _) _).trans (H2.out.mono (by omega))).setCell (Nat.le_refl _) _).setCell (Nat.le_refl _) _).setCell (Nat.le_refl _) _).setCell (Nat.le_refl _) _)

/-- Tokens in memory. -/
structure KIn (w : World) (A : Option Addr) (n c : Nat) (ts : List Tok) : Prop where
  len : ts.length = n
  cap : n ≤ c
  big : n ≤ 9223372036854775807
  fits : ∀ t ∈ ts, t.fits ∧ -9223372036854775808 ≤ t.kind ∧ t.kind ≤ 9223372036854775807
  cells : 0 < n → ∃ g o, A = some ⟨g, o, none⟩ ∧ g < w.heap.size ∧ ∀ (i : Nat) (t : Tok), ts[i]? = some t → ∃ Ab nb cb, w.cell? ⟨g, o + i * 3, none⟩ = some (.int .i64 t.kind) ∧ w.cell? ⟨g, o + i * 3 + 1, none⟩ = some (.int .i64 t.n) ∧ w.cell? ⟨g, o + i * 3 + 2, none⟩ = some (.slice Ab nb cb) ∧ BIn w (fun _ => True) Ab nb cb t.b

theorem own_shape {w : World} {B : Nat} {e : TypeId} {size n : Nat} {v : Value} {xs : List Value} (h : w.ownsRow B e size v n xs) : ∃ A c, v = .slice A n c ∧ True := by
  rcases h.2 with ⟨rfl, rfl⟩ | ⟨g, cap, cur, rfl, _⟩
  · exact ⟨none, 0, rfl, trivial⟩
  · exact ⟨_, _, rfl, trivial⟩
theorem okOf_get {k : Nat} : ∀ {ls : List (List T)} {l : List T}, okOf k ls → l ∈ ls → l.length ≤ k
  | a :: r, l, ⟨⟨_, h2⟩, h3⟩, hm => by
    rcases List.mem_cons.1 hm with rfl | hm
    · exact h2
    · exact okOf_get h3 hm
theorem okOf_last {k : Nat} {ini : List Fr} {v : Value} {l : List T} {xs : List Value} {ls : List (List T)} (h : (ini ++ [(⟨v, l, xs⟩ : Fr)]).map Fr.l = ls) (hok : okOf k ls) : l.length ≤ k := by
  subst h
  exact okOf_get hok (by simp)
theorem Stack.drew {w : World} {B : Nat} {v : Value} {fs : List Fr} (h : Stack w B v fs) : Stack w.drew B v fs := h.keep fun _ _ => rfl
theorem Stack.alloc {w : World} {B : Nat} {v : Value} {fs : List Fr} (h : Stack w B v fs) (o : Obj) : Stack (w.alloc o) B v fs := h.below (below_new w o)

theorem push_le {W : World} {a : Option Nat} {gg : Nat} (h : a = some gg ∨ gg = W.heap.size) : a = some gg ∨ W.heap.size ≤ gg := h.imp id fun e => by omega
theorem zero_news {w2 X w3 : World} (h : Below X.heap.size X w3) (hX : Blk X w2.heap.size 26 zeroV) : ∀ j u, zeroV[j]? = some u → w3.cell? ((⟨w2.heap.size, 0, none⟩ : Addr).add j) = some u := by
  intro j u hu
  rw [add_off, Nat.zero_add]
  exact ((hX.below h hX.lt).cell j).trans hu
theorem later_cell {w : World} {a : Addr} {u : Value} (o : Obj) (h : w.cell? a = some u) : (w.alloc o).cell? a = some u := by
  rw [World.cell?_alloc_lt w _ _ (World.block_lt_of_cell? w _ h)]
  exact h
theorem below_next {a X Y : World} (h : Below a.heap.size a X) (h3 : Below X.heap.size X Y) : Below a.heap.size a Y := h.trans (h3.mono h.size)
/-- Where Build's first loop stands. -/
def BRel (w0 : World) (ts : List Tok) (v right deep i : Value) (wr : World) : Prop := ∃ (k : Nat) (fs : List Fr), k ≤ ts.length ∧ k ≤ 60 ∧ i = .int .i64 k ∧ right = .bool (builtN ts k).right ∧ deep = .int .i64 ((builtN ts k).deep : Nat) ∧ fs.map Fr.l = (builtN ts k).ls ∧ Stack wr (w0.heap.size + 1) v fs ∧
  Blk wr w0.heap.size 26 [.int .i64 0, .int .i64 0, .slice none 0 0, .slice none 0 0] ∧ Below w0.heap.size w0 wr

theorem build_start {w w1 : World} {ts : List Tok} (hb : Below (w.heap.size + 1) (w.alloc (.cells #[.int .i64 0, .int .i64 0, .slice none 0 0, .slice none 0 0] 26)) w1) :
    BRel w ts (.slice (some ⟨w1.heap.size, 0, none⟩) 1 1) (.bool true) (.int .i64 1) (.int .i64 0) (w1.alloc (.cells #[.int .i64 2, .int .i64 0, .slice none 0 0, .slice none 0 0] 26)) := by
  have hs := hb.size
  simp only [World.size_alloc] at hs
  have hz := (Blk.new w 26 [.int .i64 0, .int .i64 0, .slice none 0 0, .slice none 0 0]).below hb (Nat.lt_succ_self _)
  refine ⟨0, [⟨.slice none 0 0, [], []⟩], Nat.zero_le _, Nat.zero_le _, rfl, by simp [builtN, BS.start], by simp [builtN, BS.start], by simp [builtN, BS.start], ⟨?_, ?_, ?_, ?_⟩, hz.alloc _, ((below_new w _).trans (hb.mono (Nat.le_succ _))).alloc (by omega) _⟩
  · refine ⟨rfl, .inr ⟨w1.heap.size, 1, _, rfl, by omega, heap_alloc_new w1 _, Nat.le_refl _, by unfold maxLen; omega, rfl, rfl⟩⟩
  · intro f hf
    simp only [List.mem_singleton] at hf
    subst hf
    exact ⟨World.ownsRow_nil _ _ _ _, Row.nil⟩
  · intro f hf
    simp only [List.mem_singleton] at hf
    subst hf
    exact .inl rfl
  · exact List.pairwise_singleton _ _

/-- A token's bytes, at most a hundred, in new memory, behind the token's box. -/
def BytesOut (wr : World) (o : Obj) (b : List UInt8) (v : Value) (wx : World) : Prop := ∃ A c, v = .slice A b.length c ∧ BIn wx (fun g => wr.heap.size < g) A b.length c b ∧ Below (wr.heap.size + 1) (wr.alloc o) wx
theorem tok_made (wr : World) (o : Obj) : ((wr.alloc o).alloc (.cells #[] 5)).ownsRow (wr.heap.size + 1) 5 1 (.slice (some ⟨wr.heap.size + 1, 0, none⟩) 0 0) 0 [] := by
  have := World.ownsRow_made (base := wr.heap.size + 1) (e := 5) (size := 1) (wr.alloc o) #[] 0 (by simp) (Nat.zero_le _) rfl
  rw [World.size_alloc] at this
  exact this
theorem tok_bytes {wr w2 : World} {o : Obj} {v2 : Value} {m : Nat} {b : List UInt8} (ho : w2.ownsRow (wr.heap.size + 1) 5 1 v2 m (Lib.byteCells b)) (hm : b.length = m) (hg : ((wr.alloc o).alloc (.cells #[] 5)).grownBy w2 (Value.ownBlock (.slice (some ⟨wr.heap.size + 1, 0, none⟩) 0 0))) : BytesOut wr o b v2 w2 := by
  subst hm
  obtain ⟨A, c, rfl, hb⟩ := own_bin ho
  refine ⟨A, c, rfl, hb.keep fun g hg _ => ⟨rfl, hg⟩, ((Below.refl _ _).alloc (by simp) _).grown hg (by simp) ?_⟩
  intro k hk
  simp [Value.ownBlock] at hk
  omega

theorem tok_box {wr w2 : World} {c0 c1 c2 : Value} (h : Below (wr.heap.size + 1) (wr.alloc (.cells #[c0, c1, c2] 51)) w2) : w2.cell? ⟨wr.heap.size, 0, none⟩ = some c0 ∧ w2.cell? ⟨wr.heap.size, 1, none⟩ = some c1 ∧ w2.cell? ⟨wr.heap.size, 2, none⟩ = some c2 :=
  have hb := (Blk.new wr 51 [c0, c1, c2]).below h (Nat.lt_succ_self _)
  ⟨hb.cell 0, hb.cell 1, hb.cell 2⟩

/-- One more value in the innermost list. -/
def Pushed (w : World) (gs cs : Nat) (ini : List Fr) (l : List T) (wx : World) : Prop := ∃ v4 xs', Stack wx (w.heap.size + 1) (.slice (some ⟨gs, 0, none⟩) (ini.length + 1) cs) (ini ++ [⟨v4, l, xs'⟩]) ∧ Blk wx w.heap.size 26 zeroV ∧ Below w.heap.size w wx
section
variable {w wr W w4 : World} {gs cs gg cap : Nat} {ini : List Fr} {f : Fr} {t : T} {c0 c1 c2 c3 : Value}
theorem pushed_aux {X : World} (hz : Blk wr w.heap.size 26 zeroV) (hbel : Below w.heap.size w wr) (hW : Below wr.heap.size wr W) (hX : Below (w.heap.size + 1) W X) : Blk X w.heap.size 26 zeroV ∧ Below w.heap.size w X :=
  ⟨(hz.below hW hz.lt).below hX (Nat.lt_succ_self _), (hbel.trans (hW.mono hbel.size)).trans (hX.mono (Nat.le_succ _))⟩
theorem pushed_one (hz : Blk wr w.heap.size 26 zeroV) (hbel : Below w.heap.size w wr) (hW : Below wr.heap.size wr W) {z0 z1 z2 z3 : Value} (hst : Stack W (w.heap.size + 1) (.slice (some ⟨gs, 0, none⟩) (ini.length + 1) cs) (ini ++ [f])) (hin : In W (fun g => w.heap.size + 1 ≤ g ∧ ¬ Live (.slice (some ⟨gs, 0, none⟩) (ini.length + 1) cs) (ini ++ [f]) g) t (.agg #[c0, c1, c2, c3]))
    (ho4 : w4.ownsRow (w.heap.size + 1) 26 4 (.slice (some ⟨gg, 0, none⟩) (f.l.length + 1) cap) (f.l.length + 1) (f.xs ++ [z0, z1, z2, z3])) (hg4 : W.grownBy w4 f.v.ownBlock) (hat : f.v.ownBlock = some gg ∨ W.heap.size ≤ gg) :
    Pushed w gs cs ini (f.l ++ [t]) ((putAt w4 gg (f.l.length * 4) c0 c1 c2 c3).setCell ⟨gs, ini.length * 4 + 3, none⟩ (.slice (some ⟨gg, 0, none⟩) (f.l.length + 1) cap)) := by
  have hB : w.heap.size + 1 ≤ W.heap.size := by have := (hst.row.lt gs rfl); omega
  obtain ⟨h1, h2⟩ := push_one hst hB hin ho4 hg4 hat
  obtain ⟨h3, h4⟩ := pushed_aux hz hbel hW h2
  exact ⟨_, _, h1, h3, h4⟩
theorem pushed_two (hz : Blk wr w.heap.size 26 zeroV) (hbel : Below w.heap.size w wr) (hW : Below wr.heap.size wr W) {z0 z1 z2 z3 : Value} (hst : Stack W (w.heap.size + 1) (.slice (some ⟨gs, 0, none⟩) (ini.length + 1) cs) (ini ++ [f])) (hin : In W (fun g => w.heap.size + 1 ≤ g ∧ ¬ Live (.slice (some ⟨gs, 0, none⟩) (ini.length + 1) cs) (ini ++ [f]) g) t (.agg #[c0, c1, c2, c3]))
    (ho4 : w4.ownsRow (w.heap.size + 1) 26 4 (.slice (some ⟨gg, 0, none⟩) (f.l.length + 1) cap) (f.l.length + 1) (f.xs ++ [z0, z1, z2, z3])) (hg4 : W.grownBy w4 f.v.ownBlock) (hat : f.v.ownBlock = some gg ∨ W.heap.size ≤ gg) :
    Pushed w gs cs ini (f.l ++ [t]) (putAt (w4.setCell ⟨gs, ini.length * 4 + 3, none⟩ (.slice (some ⟨gg, 0, none⟩) (f.l.length + 1) cap)) gg (f.l.length * 4) c0 c1 c2 c3) := by
  have hB : w.heap.size + 1 ≤ W.heap.size := by have := (hst.row.lt gs rfl); omega
  obtain ⟨h1, h2⟩ := push_two hst hB hin ho4 hg4 hat
  obtain ⟨h3, h4⟩ := pushed_aux hz hbel hW h2
  exact ⟨_, _, h1, h3, h4⟩
theorem pushed_whole (hz : Blk wr w.heap.size 26 zeroV) (hbel : Below w.heap.size w wr) (hW : Below wr.heap.size wr W) (hst : Stack W (w.heap.size + 1) (.slice (some ⟨gs, 0, none⟩) (ini.length + 1) cs) (ini ++ [f])) (hin : In W (fun g => w.heap.size + 1 ≤ g ∧ ¬ Live (.slice (some ⟨gs, 0, none⟩) (ini.length + 1) cs) (ini ++ [f]) g) t (.agg #[c0, c1, c2, c3]))
    (ho4 : w4.ownsRow (w.heap.size + 1) 26 4 (.slice (some ⟨gg, 0, none⟩) (f.l.length + 1) cap) (f.l.length + 1) (f.xs ++ [c0, c1, c2, c3])) (hg4 : W.grownBy w4 f.v.ownBlock) (hat : f.v.ownBlock = some gg ∨ W.heap.size ≤ gg) :
    Pushed w gs cs ini (f.l ++ [t]) (w4.setCell ⟨gs, ini.length * 4 + 3, none⟩ (.slice (some ⟨gg, 0, none⟩) (f.l.length + 1) cap)) := by
  have hB : w.heap.size + 1 ≤ W.heap.size := by have := (hst.row.lt gs rfl); omega
  obtain ⟨h1, h2⟩ := push_whole hst hB hin ho4 hg4 hat
  obtain ⟨h3, h4⟩ := pushed_aux hz hbel hW h2
  exact ⟨_, _, h1, h3, h4⟩
/-- What a call makes is written by no one else. -/
theorem in_fresh {X Y : World} {B : Nat} {v : Value} {fs : List Fr} {u : Value} (hst : Stack X B v fs) (hB : B ≤ X.heap.size) (h : In Y (fun g => X.heap.size ≤ g) t u) : In Y (fun g => B ≤ g ∧ ¬ Live v fs g) t u :=
  h.mono fun g hg _ => ⟨by omega, by
    rintro (e | ⟨f, hf, e⟩)
    · have := (hst.row.lt g e).2; omega
    · have := ((hst.each f hf).1.lt g e).2; omega⟩
end


/-- The same three, the world written out store by store. -/
def PushedAll (w W w4 : World) (gs cs gg cap : Nat) (ini : List Fr) (f : Fr) (t : T) (ys : List Value) : Prop := ∃ wr : World, Blk wr w.heap.size 26 zeroV ∧ Below w.heap.size w wr ∧ Below wr.heap.size wr W ∧ Stack W (w.heap.size + 1) (.slice (some ⟨gs, 0, none⟩) (ini.length + 1) cs) (ini ++ [f]) ∧ w4.ownsRow (w.heap.size + 1) 26 4 (.slice (some ⟨gg, 0, none⟩) (f.l.length + 1) cap) (f.l.length + 1) (f.xs ++ ys) ∧ W.grownBy w4 f.v.ownBlock ∧ (f.v.ownBlock = some gg ∨ W.heap.size ≤ gg)
section
variable {w W w4 wx : World} {gs cs gg cap : Nat} {ini : List Fr} {f : Fr} {t : T} {c0 c1 c2 c3 : Value}
theorem pushed_one' (h : PushedAll w W w4 gs cs gg cap ini f t zeroV) (hin : In W (fun g => w.heap.size + 1 ≤ g ∧ ¬ Live (.slice (some ⟨gs, 0, none⟩) (ini.length + 1) cs) (ini ++ [f]) g) t (.agg #[c0, c1, c2, c3]))
    (hwx : wx = ((((w4.setCell ⟨gg, f.l.length * 4, none⟩ c0).setCell ⟨gg, f.l.length * 4 + 1, none⟩ c1).setCell ⟨gg, f.l.length * 4 + 2, none⟩ c2).setCell ⟨gg, f.l.length * 4 + 3, none⟩ c3).setCell ⟨gs, ini.length * 4 + 3, none⟩ (.slice (some ⟨gg, 0, none⟩) (f.l.length + 1) cap)) : Pushed w gs cs ini (f.l ++ [t]) wx := by
  obtain ⟨wr, hz, hbel, hW, hst, ho4, hg4, hat⟩ := h
  rw [hwx]
  exact pushed_one hz hbel hW hst hin ho4 hg4 hat
theorem pushed_two' (h : PushedAll w W w4 gs cs gg cap ini f t zeroV) (hin : In W (fun g => w.heap.size + 1 ≤ g ∧ ¬ Live (.slice (some ⟨gs, 0, none⟩) (ini.length + 1) cs) (ini ++ [f]) g) t (.agg #[c0, c1, c2, c3]))
    (hwx : wx = ((((w4.setCell ⟨gs, ini.length * 4 + 3, none⟩ (.slice (some ⟨gg, 0, none⟩) (f.l.length + 1) cap)).setCell ⟨gg, f.l.length * 4, none⟩ c0).setCell ⟨gg, f.l.length * 4 + 1, none⟩ c1).setCell ⟨gg, f.l.length * 4 + 2, none⟩ c2).setCell ⟨gg, f.l.length * 4 + 3, none⟩ c3) : Pushed w gs cs ini (f.l ++ [t]) wx := by
  obtain ⟨wr, hz, hbel, hW, hst, ho4, hg4, hat⟩ := h
  rw [hwx]
  exact pushed_two hz hbel hW hst hin ho4 hg4 hat
theorem pushed_whole' (h : PushedAll w W w4 gs cs gg cap ini f t [c0, c1, c2, c3]) (hin : In W (fun g => w.heap.size + 1 ≤ g ∧ ¬ Live (.slice (some ⟨gs, 0, none⟩) (ini.length + 1) cs) (ini ++ [f]) g) t (.agg #[c0, c1, c2, c3]))
    (hwx : wx = w4.setCell ⟨gs, ini.length * 4 + 3, none⟩ (.slice (some ⟨gg, 0, none⟩) (f.l.length + 1) cap)) : Pushed w gs cs ini (f.l ++ [t]) wx := by
  obtain ⟨wr, hz, hbel, hW, hst, ho4, hg4, hat⟩ := h
  rw [hwx]
  exact pushed_whole hz hbel hW hst hin ho4 hg4 hat
end

/-- A region of a function's text, by its number. -/
def regionIn (n : Nat) : Code → Option Code
  | .region k ops d => if k = n then some (.region k ops d) else none
  | .seq a b => match regionIn n a with
    | some c => some c
    | none => regionIn n b
  | .cond _ a b => match regionIn n a with
    | some c => some c
    | none => regionIn n b
  | .block _ c => regionIn n c
  | .loop c => regionIn n c
  | .scope c => regionIn n c
  | _ => none
noncomputable def regionAt (n : Nat) : Code := ((Tryd.f6.body.bind (regionIn n)).getD .skip)
theorem wp_of_then {P : Program} {c : Code} {Q : Exit → Act → World → Prop} {a : Act} {w : World} (h : c.wp P (Exit.then (fun a w => Q .normal a w) (fun _ _ _ => False)) a w) : c.wp P Q a w :=
  wp_mono h (fun e _ _ q => by cases e <;> first | exact q | exact False.elim q)

end Go.Proofs.YtodpojbgkeecnaaDoor
