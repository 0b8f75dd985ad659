/-
  The memory words of this seat: a block known whole, a frame that lets a set of blocks turn, bytes as cells. Plain theorems on worlds; no condition.
-/
import Derived.WalkKit
import Derived.WalkSpells
import Derived.WalkLawsBesides
import Derived.Deep.Draws
import Derived.Lib.Hide
import Derived.Lib.Split
import Derived.Lib.Join
import Derived.Lib.SplitLaws
import Derived.Laws.BitsAllLaws
import Derived.WalkSmall
import Derived.Lib.Bytes
section
set_option maxRecDepth 100000
set_option linter.unusedSimpArgs false
set_option linter.unusedVariables false
namespace Go.Proofs.YtlpljedacohngaaGreatDoor
open Go.RowKit

/-- Block g is just the cells cs of element type t, none frozen. -/
def Blk (w : World) (g : Nat) (t : TypeId) (cs : List Value) : Prop := w.heap[g]? = some (.cells cs.toArray t (0, 0))

/-- What was there has turned in the blocks of S alone. -/
structure Only (S : List Nat) (w w' : World) : Prop where
  os : w'.os = w.os
  tape : w'.tape = w.tape
  output : w'.output = w.output
  size : w.heap.size ≤ w'.heap.size
  block : ∀ k, k < w.heap.size → k ∉ S → w'.heap[k]? = w.heap[k]?

section
variable {w w' : World} {g : Nat} {t : TypeId} {cs : List Value} {S T : List Nat}
theorem Blk.lt (h : Blk w g t cs) : g < w.heap.size := by
  rcases Nat.lt_or_ge g w.heap.size with hlt | hge
  · exact hlt
  · unfold Blk at h; rw [Array.getElem?_eq_none hge] at h; cases h
theorem Blk.cell (h : Blk w g t cs) (i : Nat) : w.cell? ⟨g, i, none⟩ = cs[i]? := by
  have := cell_of_row w g i _ t (0, 0) h
  simpa using this
theorem Blk.frozen (h : Blk w g t cs) (i : Nat) : w.frozen? ⟨g, i, none⟩ = false := by
  unfold Blk at h
  simp [World.frozen?, h]
theorem Blk.new (w : World) (t : TypeId) (cs : List Value) : Blk (w.alloc (.cells cs.toArray t)) w.heap.size t cs := heap_alloc_new w _
theorem Blk.drew (h : Blk w g t cs) : Blk w.drew g t cs := h
theorem Blk.drewN (h : Blk w g t cs) (n : Nat) : Blk (w.drewN n) g t cs := h
theorem Blk.alloc (h : Blk w g t cs) (o : Obj) : Blk (w.alloc o) g t cs := (Below.heap_alloc w o g h.lt).trans h
theorem Blk.set_ (h : Blk w g t cs) (i : Nat) (u : Value) : Blk (w.setCell ⟨g, i, none⟩ u) g t (cs.set i u) := by
  unfold Blk at h ⊢
  simp [World.setCell, Array.getElem?_modify, h]
theorem Blk.far (h : Blk w g t cs) {p : Addr} (hp : g ≠ p.block) (u : Value) : Blk (w.setCell p u) g t cs := (Below.heap_setCell w p u g hp).trans h
theorem Blk.only (h : Blk w g t cs) (hb : Only S w w') (hg : g ∉ S) : Blk w' g t cs := (hb.block g h.lt hg).trans h
theorem Blk.below {B : Nat} (h : Blk w g t cs) (hb : Below B w w') (hg : g < B) : Blk w' g t cs := (hb.block g hg).trans h
theorem Blk.grown {row : Option Nat} (h : Blk w g t cs) (hb : w.grownBy w' row) (hg : some g ≠ row) : Blk w' g t cs := (hb.block g h.lt hg).trans h
theorem Blk.same {cs' : List Value} {t' : TypeId} (h : Blk w g t cs) (h' : Blk w g t' cs') : t = t' ∧ cs = cs' := by
  unfold Blk at h h'
  rw [h] at h'
  injection h' with h'
  injection h' with hc ht
  exact ⟨ht, by simpa using hc⟩
theorem Blk.ne_ {g' : Nat} {t' : TypeId} {cs' : List Value} (h : Blk w g t cs) (h' : Blk w g' t' cs') (hne : t ≠ t') : g ≠ g' := by
  rintro rfl
  exact hne (h.same h').1
theorem own_blk_ne {base : Nat} {e : TypeId} {size n : Nat} {v : Value} {xs : List Value} (h : w.ownsRow base e size v n xs) (hg : Blk w g t cs) (hne : e ≠ t) : v.ownBlock ≠ some g := by
  rcases h.2 with ⟨rfl, _⟩ | ⟨g', cap, cur, rfl, _, hh, _⟩
  · simp [Value.ownBlock]
  · intro he
    have : g' = g := by simpa [Value.ownBlock] using he
    subst this
    unfold Blk at hg
    rw [hg] at hh
    injection hh with hh
    injection hh with _ ht
    exact hne ht.symm

theorem Only.refl (S : List Nat) (w : World) : Only S w w := ⟨rfl, rfl, rfl, Nat.le_refl _, fun _ _ _ => rfl⟩
theorem Only.trans {a b c : World} (h : Only S a b) (k : Only S b c) : Only S a c :=
  ⟨k.os.trans h.os, k.tape.trans h.tape, k.output.trans h.output, Nat.le_trans h.size k.size, fun i hi hs => (k.block i (Nat.lt_of_lt_of_le hi h.size) hs).trans (h.block i hi hs)⟩
theorem Only.mono (h : Only S w w') (hst : ∀ k, k ∈ S → k < w.heap.size → k ∈ T) : Only T w w' :=
  ⟨h.os, h.tape, h.output, h.size, fun i hi ht => h.block i hi fun hs => ht (hst i hs hi)⟩
theorem Only.drew {a : World} (h : Only S a w) : Only S a w.drew := ⟨h.os, h.tape, h.output, h.size, h.block⟩
theorem Only.drewN {a : World} (h : Only S a w) (n : Nat) : Only S a (w.drewN n) := ⟨h.os, h.tape, h.output, h.size, h.block⟩
theorem Only.alloc {a : World} (h : Only S a w) (o : Obj) : Only S a (w.alloc o) :=
  ⟨h.os, h.tape, h.output, Nat.le_trans h.size (by simp), fun i hi hs => (Below.heap_alloc w o i (Nat.lt_of_lt_of_le hi h.size)).trans (h.block i hi hs)⟩
theorem Only.setCell {a : World} (h : Only S a w) {p : Addr} (hp : p.block ∈ S ∨ a.heap.size ≤ p.block) (u : Value) : Only S a (w.setCell p u) :=
  ⟨h.os, h.tape, h.output, by simpa [World.setCell] using h.size, fun i hi hs => (Below.heap_setCell w p u i (by
    rintro rfl
    rcases hp with hp | hp
    · exact hs hp
    · omega)).trans (h.block i hi hs)⟩
theorem Only.setRow {a : World} (h : Only S a w) {g : Nat} (hp : g ∈ S ∨ a.heap.size ≤ g) (cur : Array Value) : Only S a (w.setRow g cur) :=
  ⟨h.os, h.tape, h.output, by simpa [World.setRow] using h.size, fun i hi hs => (setRow_other w g i cur (by
    rintro rfl
    rcases hp with hp | hp
    · exact hs hp
    · omega)).trans (h.block i hi hs)⟩
theorem Only.grown {a : World} {row : Option Nat} (h : Only S a w) (hg : w.grownBy w' row) (hr : ∀ k, row = some k → k ∈ S ∨ a.heap.size ≤ k) : Only S a w' :=
  ⟨hg.os.trans h.os, hg.tape.trans h.tape, hg.output.trans h.output, Nat.le_trans h.size hg.size, fun i hi hs => (hg.block i (Nat.lt_of_lt_of_le hi h.size) (fun e => by
    rcases hr i e.symm with hr | hr
    · exact hs hr
    · omega)).trans (h.block i hi hs)⟩
theorem Only.of_below (h : Below w.heap.size w w') : Only S w w' := ⟨h.os, h.tape, h.output, h.size, fun i hi _ => h.block i hi⟩
theorem Only.below {B : Nat} (h : Only S w w') (hB : B ≤ w.heap.size) (hS : ∀ k, k ∈ S → B ≤ k) : Below B w w' :=
  ⟨h.os, h.tape, h.output, h.size, fun k hk => h.block k (by omega) fun hs => by have := hS k hs; omega⟩
theorem ownsRow_only {base : Nat} {e : TypeId} {size n : Nat} {v : Value} {xs : List Value} (h : w.ownsRow base e size v n xs) (hb : Only S w w') (hS : ∀ k, v.ownBlock = some k → k ∉ S) : w'.ownsRow base e size v n xs := by
  refine ⟨h.1, ?_⟩
  rcases h.2 with hn | ⟨g, cap, cur, rfl, hbg, hgg, rest⟩
  · exact .inl hn
  · refine .inr ⟨g, cap, cur, rfl, hbg, ?_, rest⟩
    rw [hb.block g (Array.getElem?_eq_some_iff.1 hgg).1 (hS g rfl)]
    exact hgg
end

/-- Bytes as cells. -/
def U (xs : List Int) : List Value := xs.map (Value.int .u8)
theorem U_length (xs : List Int) : (U xs).length = xs.length := by simp [U]
theorem U_get (xs : List Int) (i : Nat) : (U xs)[i]? = xs[i]?.map (Value.int .u8) := by simp [U]
theorem U_append (xs ys : List Int) : U (xs ++ ys) = U xs ++ U ys := by simp [U]
theorem U_take (xs : List Int) (n : Nat) : (U xs).take n = U (xs.take n) := by simp [U]
theorem U_drop (xs : List Int) (n : Nat) : (U xs).drop n = U (xs.drop n) := by simp [U]
theorem U_oneCell (xs : List Int) : ∀ u ∈ U xs, u.oneCell' = true := by
  intro u hu
  simp only [U, List.mem_map] at hu
  obtain ⟨x, _, rfl⟩ := hu
  rfl
theorem U_inj {xs ys : List Int} (h : U xs = U ys) : xs = ys := by
  unfold U at h
  exact (List.map_inj_right (by intro a b hab; injection hab)).1 h

end Go.Proofs.YtlpljedacohngaaGreatDoor
end

/-
  Names, as plain answers: which signs a name has, and what a name is. Plain definitions and theorems; no condition.
-/

section
set_option linter.unusedSimpArgs false
set_option linter.unusedVariables false
set_option maxRecDepth 100000
namespace Go.Proofs.YtlpljedacohngaaGreatDoor
open Go.RowKit

theorem pnew (w : World) (o : Obj) : Below w.heap.size w (w.alloc o) := (Below.refl _ _).alloc (Nat.le_refl _) _
theorem pdrew (w : World) : Below w.heap.size w w.drew := ⟨rfl, rfl, rfl, Nat.le_refl _, fun _ _ => rfl⟩
theorem pdrewN (w : World) (n : Nat) : Below w.heap.size w (w.drewN n) := ⟨rfl, rfl, rfl, Nat.le_refl _, fun _ _ => rfl⟩
theorem pthen {w a b : World} (h : Below w.heap.size w a) (k : Below a.heap.size a b) : Below w.heap.size w b := h.trans (k.mono h.size)
theorem pcell_below {w w' : World} {b o : Nat} {u : Value} (h : w.cell? ⟨b, o, none⟩ = some u) (hb : Below w.heap.size w w') : w'.cell? ⟨b, o, none⟩ = some u := (hb.cell (p := ⟨b, o, none⟩) (World.block_lt_of_cell? w _ h)).trans h
theorem pret_bool {a b : Bool} (h : a = b) : Ending.returned (.bool a) = .returned (.bool b) := by rw [h]
theorem pret_num {k : IntKind} {a b : Int} (h : a = b) : Ending.returned (.int k a) = .returned (.int k b) := by rw [h]

/-- The first and the last sign of each row. -/
def sgF (k : Nat) : Int := [97, 48, 46, 45, 95].getD k 0
def sgL (k : Nat) : Int := [122, 57, 46, 45, 95].getD k 0
def inRow (c : Int) (k : Nat) : Bool := decide (sgF k ≤ c) && decide (c ≤ sgL k)
def isSg (c : Int) : Bool := inRow c 0 || inRow c 1 || inRow c 2 || inRow c 3 || inRow c 4
theorem isSg_row {c : Int} {k : Nat} (hk : k < 5) (h : inRow c k = true) : isSg c = true := by
  unfold isSg
  match k, hk with
  | 0, _ | 1, _ | 2, _ | 3, _ | 4, _ => simp [h]
theorem isSg_none {c : Int} (h : ∀ k, k < 5 → inRow c k = false) : isSg c = false := by
  unfold isSg
  simp [h 0, h 1, h 2, h 3, h 4]
/-- The sign at a place of a text. -/
def sgAt (t : ByteArray) (j : Nat) : Int := ((t.data.toList.getD j 0).toNat : Int)
/-- Is a text a name? -/
def pnameB (t : ByteArray) : Bool := !(t.data.toList == []) && decide (t.size ≤ 24) && !(t.data.toList == [46]) && !(t.data.toList == [46, 46]) && t.data.toList.all fun c => isSg (c.toNat : Int)
theorem all_at {t : ByteArray} (h : ∀ j, j < t.size → isSg (sgAt t j) = true) : (t.data.toList.all fun c => isSg (c.toNat : Int)) = true := by
  rw [List.all_eq_true]
  intro c hc
  obtain ⟨j, hj, rfl⟩ := List.mem_iff_getElem.1 hc
  have := h j (by rw [Array.length_toList] at hj; exact hj)
  unfold sgAt at this
  rwa [List.getD_eq_getElem?_getD, List.getElem?_eq_getElem hj] at this
theorem all_not {t : ByteArray} {j : Nat} (hj : j < t.size) (h : isSg (sgAt t j) = false) : (t.data.toList.all fun c => isSg (c.toNat : Int)) = false := by
  rw [List.all_eq_false]
  have hj' : j < t.data.toList.length := by rw [Array.length_toList]; exact hj
  refine ⟨t.data.toList[j], List.getElem_mem hj', ?_⟩
  unfold sgAt at h
  rw [List.getD_eq_getElem?_getD, List.getElem?_eq_getElem hj'] at h
  simpa using h

/-- The variable of the signs holds them. -/
def sgCells : List Value := [.int .u8 97, .int .u8 122, .int .u8 48, .int .u8 57, .int .u8 46, .int .u8 46, .int .u8 45, .int .u8 45, .int .u8 95, .int .u8 95]
def PSigns (w : World) : Prop := ∀ i, i < 10 → w.cell? ⟨1, i, none⟩ = sgCells[i]?
theorem PSigns.pos {w : World} (h : PSigns w) : 1 < w.heap.size := World.block_lt_of_cell? w _ (h 0 (by omega))
theorem PSigns.below {w w' : World} {B : Nat} (h : PSigns w) (hb : Below B w w') (hB : 1 < B) : PSigns w' := fun i hi => (hb.cell (p := ⟨1, i, none⟩) hB).trans (h i hi)
theorem PSigns.to {w w' : World} (h : PSigns w) (hb : Below w.heap.size w w') : PSigns w' := h.below hb h.pos
theorem padd (g o j : Nat) : (⟨g, o, none⟩ : Addr).add j = ⟨g, o + j, none⟩ := by unfold Addr.add; split <;> simp_all
theorem PSigns.cells {w : World} (h : PSigns w) : ∀ j u, sgCells[j]? = some u → w.cell? ⟨1, 0 + j, none⟩ = some u := by
  intro j u hu
  have hj : j < 10 := (List.getElem?_eq_some_iff.1 hu).1
  rw [Nat.zero_add, h j hj, hu]
end Go.Proofs.YtlpljedacohngaaGreatDoor
end

/-
  Paths as plain lists of texts: a path's text, the path of a text, where a link leads. Plain definitions and theorems; no condition.
-/

section
set_option linter.unusedSimpArgs false
set_option linter.unusedVariables false
set_option maxRecDepth 100000
namespace Go.Proofs.YtlpljedacohngaaGreatDoor
open Go.RowKit

abbrev Pa := List ByteArray
def slashB : ByteArray := ⟨#[47]⟩
def rightB (p : Pa) : Bool := decide (p.length ≤ 8) && p.all pnameB
def joinP (p : Pa) : ByteArray := ⟨(Lib.join (p.map (·.data.toList)) [47]).toArray⟩
def textP (p : Pa) : ByteArray := slashB ++ joinP p
def splitP (t : ByteArray) : Pa := Lib.splitB slashB 0 (Lib.countB t slashB) t
def cutP (t : ByteArray) : ByteArray := ⟨(Lib.trimPrefix t.data.toList [47]).toArray⟩
def begP (t : ByteArray) : Bool := Lib.hasPrefix t.data.toList [47]
/-- The path of a text, or the error. -/
def parseB (t : ByteArray) : Pa × Int :=
  if 160 < t.size then ([], 2) else if t.data.toList = [47] then ([], 0) else if begP t && rightB (splitP (cutP t)) then (splitP (cutP t), 0) else ([], 10)
/-- One part of a link, from where it stands. -/
def leadStep (at_ : Pa) (part : ByteArray) : Option Pa :=
  if part.data.toList = [46] then some at_
  else if part.data.toList = [46, 46] ∧ 0 < at_.length then some (at_.take (at_.length - 1))
  else if pnameB part = true ∧ at_.length < 8 then some (at_ ++ [part]) else none
def leadAll : Pa → Pa → Option Pa
  | at_, [] => some at_
  | at_, x :: xs => match leadStep at_ x with
    | some q => leadAll q xs
    | none => none
/-- Where a link leads, or the error. -/
def leadB (from_ : Pa) (link : ByteArray) : Pa × Int :=
  if !rightB from_ then ([], 10) else if 160 < link.size then ([], 2) else
    match leadAll (if begP link then [] else from_) (splitP (cutP link)) with
    | some p => (p, 0)
    | none => ([], 10)

/-- All but the last name. -/
def homeP (p : Pa) : Pa := if p.length = 0 ∨ rightB p = false then [] else p.take (p.length - 1)
theorem name_size {t : ByteArray} (h : pnameB t = true) : 0 < t.size ∧ t.size ≤ 24 := by
  unfold pnameB at h
  simp only [Bool.and_eq_true, decide_eq_true_eq, Bool.not_eq_true'] at h
  refine ⟨?_, h.1.1.1.2⟩
  rcases Nat.eq_zero_or_pos t.size with hz | hz
  · have : t.data.toList = [] := by
      apply List.eq_nil_of_length_eq_zero
      rw [Array.length_toList]
      exact hz
    rw [this] at h
    simp at h
  · exact hz
theorem right_take {p : Pa} (h : rightB p = true) (n : Nat) : rightB (p.take n) = true := by
  unfold rightB at h ⊢
  simp only [Bool.and_eq_true, decide_eq_true_eq, List.all_eq_true] at h ⊢
  exact ⟨by rw [List.length_take]; omega, fun x hx => h.2 x (List.mem_of_mem_take hx)⟩
theorem leadStep_le {at_ q : Pa} {part : ByteArray} (h : leadStep at_ part = some q) (h8 : at_.length ≤ 8) : q.length ≤ 8 := by
  unfold leadStep at h
  split at h
  · cases h; exact h8
  · split at h
    · cases h; rw [List.length_take]; omega
    · split at h
      · rename_i hc
        cases h
        rw [List.length_append]
        simp only [List.length_cons, List.length_nil]
        omega
      · cases h
theorem leadAll_snoc (at_ : Pa) : ∀ (xs : Pa) (x : ByteArray), leadAll at_ (xs ++ [x]) = (match leadAll at_ xs with | some q => leadStep q x | none => none) := by
  intro xs
  induction xs generalizing at_ with
  | nil =>
    intro x
    simp only [List.nil_append, leadAll]
    cases leadStep at_ x <;> rfl
  | cons y ys ih =>
    intro x
    simp only [List.cons_append, leadAll]
    cases h : leadStep at_ y with
    | none => rfl
    | some q => exact ih q x
theorem split_length (t : ByteArray) : (splitP t).length = Lib.countB t slashB + 1 := Lib.splitB_all slashB (by decide) 0 _ t rfl
end Go.Proofs.YtlpljedacohngaaGreatDoor
end

/-
  Modes, plainly: what is wrong with a stat, a mode's text and the mode of a text, who may, what is refused, numbers and cuts. Plain theorems, no condition but those in each.
-/

section
set_option linter.unusedSimpArgs false
set_option linter.unusedVariables false
set_option maxRecDepth 100000
namespace Go.Proofs.YtlpljedacohngaaGreatDoor
open Go.RowKit

/-- What is wrong with a stat. -/
def chk (k m o g : Int) : Int :=
  if k < 0 ∨ 4 < k then 17 else if m < 0 ∨ 4095 < m then 11 else if o < 0 ∨ 65535 < o ∨ g < 0 ∨ 65535 < g then 1 else 0
theorem chk_type {k m o g : Int} (h : k < 0 ∨ 4 < k) : chk k m o g = 17 := by unfold chk; rw [if_pos h]
theorem chk_mode {k m o g : Int} (h0 : 0 ≤ k) (h1 : k ≤ 4) (h : m < 0 ∨ 4095 < m) : chk k m o g = 11 := by unfold chk; rw [if_neg (by omega), if_pos h]
theorem chk_arg {k m o g : Int} (h0 : 0 ≤ k) (h1 : k ≤ 4) (h2 : 0 ≤ m) (h3 : m ≤ 4095) (h : o < 0 ∨ 65535 < o ∨ g < 0 ∨ 65535 < g) : chk k m o g = 1 := by unfold chk; rw [if_neg (by omega), if_neg (by omega), if_pos h]
theorem chk_ok {k m o g : Int} (h0 : 0 ≤ k) (h1 : k ≤ 4) (h2 : 0 ≤ m) (h3 : m ≤ 4095) (h4 : 0 ≤ o) (h5 : o ≤ 65535) (h6 : 0 ≤ g) (h7 : g ≤ 65535) : chk k m o g = 0 := by unfold chk; rw [if_neg (by omega), if_neg (by omega), if_neg (by omega)]
theorem chk_zero {k m o g : Int} (h : chk k m o g = 0) : (0 ≤ k ∧ k ≤ 4) ∧ (0 ≤ m ∧ m ≤ 4095) ∧ (0 ≤ o ∧ o ≤ 65535) ∧ 0 ≤ g ∧ g ≤ 65535 := by
  unfold chk at h
  split at h
  · omega
  · split at h
    · omega
    · split at h <;> omega
theorem chk_bd (k m o g : Int) : 0 ≤ chk k m o g ∧ chk k m o g ≤ 17 := by
  unfold chk
  split
  · omega
  · split
    · omega
    · split <;> omega

/-- A mode's text. -/
def octL (m : Nat) : List UInt8 := [UInt8.ofNat (48 + m / 512), UInt8.ofNat (48 + m / 64 % 8), UInt8.ofNat (48 + m / 8 % 8), UInt8.ofNat (48 + m % 8)]
def modeText (m : Int) : List UInt8 := if 0 ≤ m ∧ m ≤ 4095 then octL m.toNat else []
def parse8 (acc : Nat) : List UInt8 → Option Nat
  | [] => some acc
  | c :: r => if 48 ≤ c.toNat ∧ c.toNat ≤ 55 then parse8 (acc * 8 + (c.toNat - 48)) r else none
/-- The mode of a text. -/
def modeParse (l : List UInt8) : Option Nat := if l.length = 4 then parse8 0 l else none

theorem oct_digit (q : Nat) (h : q < 8) : (UInt8.ofNat (48 + q)).toNat = 48 + q := by simp; omega
theorem of_digit (c : UInt8) (h : 48 ≤ c.toNat) : UInt8.ofNat (48 + (c.toNat - 48)) = c := by
  rw [show 48 + (c.toNat - 48) = c.toNat by omega]
  simp
theorem modeText_len (m : Int) : (modeText m).length ≤ 4 := by unfold modeText; split <;> simp [octL]
theorem parse_oct (m : Nat) (h : m ≤ 4095) : modeParse (octL m) = some m := by
  have d0 := oct_digit (m / 512) (by omega)
  have d1 := oct_digit (m / 64 % 8) (by omega)
  have d2 := oct_digit (m / 8 % 8) (by omega)
  have d3 := oct_digit (m % 8) (by omega)
  unfold modeParse
  rw [if_pos (by simp [octL])]
  simp only [octL, parse8, d0, d1, d2, d3]
  rw [if_pos (by omega), if_pos (by omega), if_pos (by omega), if_pos (by omega)]
  congr 1
  omega
theorem oct_parse {l : List UInt8} {m : Nat} (h : modeParse l = some m) : m ≤ 4095 ∧ octL m = l := by
  unfold modeParse at h
  split at h
  · rename_i hl
    match l, hl with
    | [a, b, c, d], _ =>
      simp only [parse8] at h
      split at h
      · rename_i ha
        split at h
        · rename_i hb
          split at h
          · rename_i hc
            split at h
            · rename_i hd
              injection h with h
              refine ⟨by omega, ?_⟩
              unfold octL
              have e0 : m / 512 = a.toNat - 48 := by omega
              have e1 : m / 64 % 8 = b.toNat - 48 := by omega
              have e2 : m / 8 % 8 = c.toNat - 48 := by omega
              have e3 : m % 8 = d.toNat - 48 := by omega
              rw [e0, e1, e2, e3, of_digit a ha.1, of_digit b hb.1, of_digit c hc.1, of_digit d hd.1]
            · cases h
          · cases h
        · cases h
      · cases h
  · cases h
theorem parse_le {l : List UInt8} {m : Nat} (h : modeParse l = some m) : m ≤ 4095 := (oct_parse h).1
theorem text_parse {l : List UInt8} {m : Nat} (h : modeParse l = some m) : modeText m = l := by
  obtain ⟨h1, h2⟩ := oct_parse h
  unfold modeText
  rw [if_pos (by omega)]
  exact h2
theorem parse_text {m : Int} (h0 : 0 ≤ m) (h1 : m ≤ 4095) : modeParse (modeText m) = some m.toNat := by
  unfold modeText
  rw [if_pos ⟨h0, h1⟩]
  exact parse_oct _ (by omega)

/-! Bits of 64-bit numbers. -/
theorem wrap_back (x : BitVec 64) : IntKind.i64.wrap (x.toNat : Int) = x.toInt := by
  have h := x.isLt
  have e : ((x.toNat : Int) % 2 ^ 64) = x.toNat := by omega
  rw [BitVec.toInt_eq_toNat_cond]
  simp only [IntKind.wrap, IntKind.bits, IntKind.signed, e]
  by_cases h2 : 2 * x.toNat < 2 ^ 64
  · rw [if_pos h2, if_neg (by simp; omega)]
  · rw [if_neg h2, if_pos (by simp; omega)]
    simp
theorem and64 (a b : Int) : bits .and .i64 a b = (BitVec.ofInt 64 a &&& BitVec.ofInt 64 b).toInt := wrap_back _
theorem or64 (a b : Int) : bits .or .i64 a b = (BitVec.ofInt 64 a ||| BitVec.ofInt 64 b).toInt := wrap_back _
theorem andNot64 (a b : Int) : bits .andNot .i64 a b = (BitVec.ofInt 64 a &&& ~~~BitVec.ofInt 64 b).toInt := wrap_back _
theorem ofInt_nat {a : Int} (h0 : 0 ≤ a) (h1 : a ≤ 9223372036854775807) : (BitVec.ofInt 64 a).toNat = a.toNat := by
  obtain ⟨n, rfl⟩ := Int.eq_ofNat_of_zero_le h0
  rw [BitVec.ofInt_natCast, BitVec.toNat_ofNat, Int.toNat_natCast]
  exact Nat.mod_eq_of_lt (by omega)
theorem toInt_small {x : BitVec 64} (h : x.toNat < 9223372036854775808) : x.toInt = (x.toNat : Int) := by
  rw [BitVec.toInt_eq_toNat_cond]
  split
  · rfl
  · omega
theorem ofInt_toInt (x : BitVec 64) : BitVec.ofInt 64 x.toInt = x := by simp
theorem toInt_zero {x : BitVec 64} : x.toInt = 0 ↔ x = 0#64 := by
  constructor
  · intro h
    rw [← ofInt_toInt x, h]
    rfl
  · intro h
    rw [h]
    rfl

theorem ofInt_lit7 (d : Int) (h0 : 0 ≤ d) (h1 : d ≤ 7) : (BitVec.ofInt 64 d).toNat = d.toNat := ofInt_nat h0 (by omega)
theorem andNot_nat (a d : Nat) (ha : a < 9223372036854775808) (hd : d < 9223372036854775808) : bits .andNot .i64 (a : Int) (d : Int) = ((a &&& (18446744073709551615 - d) : Nat) : Int) := by
  rw [andNot64]
  have e : (BitVec.ofInt 64 (a : Int) &&& ~~~BitVec.ofInt 64 (d : Int)).toNat = a &&& (18446744073709551615 - d) := by
    rw [BitVec.toNat_and, BitVec.toNat_not, ofInt_nat (by omega) (by omega), ofInt_nat (by omega) (by omega)]
    simp
  have h := Nat.and_le_left (n := a) (m := 18446744073709551615 - d)
  rw [toInt_small (by rw [e]; omega), e]
theorem or_nat (a d : Nat) (ha : a < 9223372036854775808) (hd : d < 9223372036854775808) : bits .or .i64 (a : Int) (d : Int) = ((a ||| d : Nat) : Int) := by
  rw [or64]
  have e : (BitVec.ofInt 64 (a : Int) ||| BitVec.ofInt 64 (d : Int)).toNat = a ||| d := by
    rw [BitVec.toNat_or, ofInt_nat (by omega) (by omega), ofInt_nat (by omega) (by omega)]
    simp
  have h : a ||| d < 2 ^ 63 := Nat.or_lt_two_pow (by omega) (by omega)
  rw [toInt_small (by rw [e]; omega), e]
/-- The lowest bits, of any number. -/
theorem mask_any (a : Int) (i : Nat) (hi : i < 63) : bits .and .i64 a ((2 ^ i - 1 : Nat) : Int) = a % (2 ^ i : Nat) := by
  have hp : 0 < 2 ^ i := Nat.two_pow_pos i
  have h63 : 2 ^ i ≤ 2 ^ 62 := Nat.pow_le_pow_right (by omega) (by omega)
  rw [and64]
  have e : (BitVec.ofInt 64 a &&& BitVec.ofInt 64 ((2 ^ i - 1 : Nat) : Int)).toNat = (BitVec.ofInt 64 a).toNat % 2 ^ i := by
    rw [BitVec.toNat_and, ofInt_nat (a := ((2 ^ i - 1 : Nat) : Int)) (by omega) (by omega), Int.toNat_natCast, Nat.and_two_pow_sub_one_eq_mod]
  have hlt : (BitVec.ofInt 64 a).toNat % 2 ^ i < 2 ^ i := Nat.mod_lt _ hp
  rw [toInt_small (by rw [e]; omega), e]
  have e2 : (BitVec.ofInt 64 a).toNat = (a % (2 ^ 64 : Nat)).toNat := by simp [BitVec.toNat_ofInt]
  rw [e2]
  have h0 : 0 ≤ a % (2 ^ 64 : Nat) := Int.emod_nonneg _ (by decide)
  rw [Int.natCast_emod, Int.toNat_of_nonneg h0]
  exact Int.emod_emod_of_dvd _ (by exact_mod_cast Nat.pow_dvd_pow 2 (by omega))

/-! Who may. -/
/-- The bits that count for somebody. -/
def gr (m o g who group : Int) : Int := if who = 0 then 7 else if who = o then m / 64 % 8 else if group = g then m / 8 % 8 else m % 8
theorem gr_bd {m o g who group : Int} : 0 ≤ gr m o g who group ∧ gr m o g who group ≤ 7 := by
  unfold gr
  split
  · omega
  · split
    · omega
    · split <;> omega
/-- Has a digit all bits of another one? -/
def hasB (d w : Int) : Bool := !(decide (w / 4 % 2 = 1) && decide (d / 4 % 2 = 0)) && !(decide (w / 2 % 2 = 1) && decide (d / 2 % 2 = 0)) && !(decide (w / 1 % 2 = 1) && decide (d / 1 % 2 = 0))
theorem not_small : ∀ d : Nat, d < 8 → ∀ x : Nat, x < 8 → (bits .andNot .i64 (x : Int) (d : Int) = 0 ↔ hasB d x = true) := by decide +kernel
theorem not_big {x d : Int} (h0 : 0 ≤ d) (h1 : d ≤ 7) (hx0 : -9223372036854775808 ≤ x) (hx1 : x ≤ 9223372036854775807) (h : bits .andNot .i64 x d = 0) : 0 ≤ x ∧ x ≤ 7 := by
  rw [andNot64, toInt_zero] at h
  have e : BitVec.ofInt 64 x = BitVec.ofInt 64 x &&& BitVec.ofInt 64 d := by
    ext i hi
    have := congrArg (fun v => v.getLsbD i) h
    simp only [BitVec.getLsbD_and, BitVec.getLsbD_not, BitVec.getLsbD_zero, hi, decide_true, Bool.true_and] at this
    rw [BitVec.getElem_and]
    simp only [← BitVec.getLsbD_eq_getElem]
    cases ha : (BitVec.ofInt 64 x).getLsbD i <;> cases hb : (BitVec.ofInt 64 d).getLsbD i <;> simp_all
  have hle : (BitVec.ofInt 64 x).toNat ≤ 7 := by
    rw [e, BitVec.toNat_and, ofInt_nat h0 (by omega)]
    exact Nat.le_trans Nat.and_le_right (by omega)
  have e2 : (BitVec.ofInt 64 x).toNat = (x % (2 ^ 64 : Nat)).toNat := by simp [BitVec.toNat_ofInt]
  rw [e2] at hle
  have h3 : (x % ((2 ^ 64 : Nat) : Int)) = x % 18446744073709551616 := rfl
  rw [h3] at hle
  omega
theorem not_iff {x d : Int} (h0 : 0 ≤ d) (h1 : d ≤ 7) (hx0 : -9223372036854775808 ≤ x) (hx1 : x ≤ 9223372036854775807) : bits .andNot .i64 x d = 0 ↔ (0 ≤ x ∧ x ≤ 7) ∧ hasB d x = true := by
  constructor
  · intro h
    have hb := not_big h0 h1 hx0 hx1 h
    refine ⟨hb, ?_⟩
    obtain ⟨d, rfl⟩ := Int.eq_ofNat_of_zero_le h0
    obtain ⟨x, rfl⟩ := Int.eq_ofNat_of_zero_le hb.1
    exact (not_small d (by omega) x (by omega)).1 h
  · rintro ⟨hb, h⟩
    obtain ⟨d, rfl⟩ := Int.eq_ofNat_of_zero_le h0
    obtain ⟨x, rfl⟩ := Int.eq_ofNat_of_zero_le hb.1
    exact (not_small d (by omega) x (by omega)).2 h
theorem has_seven : ∀ x : Nat, x < 8 → hasB 7 x = true := by decide
theorem has_zero : ∀ d : Nat, d < 8 → hasB d 0 = true := by decide

def whoB (n : Int) : Bool := decide (0 ≤ n) && decide (n ≤ 65535)
def canB (k m o g who group : Int) (ws : List Int) : Bool :=
  decide (chk k m o g = 0) && whoB who && whoB group && ws.all fun x => decide (bits .andNot .i64 x (gr m o g who group) = 0)
def refCanB (k m o g who group w : Int) : Bool :=
  decide (chk k m o g = 0) && whoB who && whoB group && decide (0 ≤ w ∧ w ≤ 7) && (decide (who = 0) || hasB (gr m o g who group) w)
theorem ref_can {k m o g who group : Int} {x : Int} (hx0 : -9223372036854775808 ≤ x) (hx1 : x ≤ 9223372036854775807) :
    (decide (0 ≤ x ∧ x ≤ 7) && (decide (who = 0) || hasB (gr m o g who group) x)) = decide (bits .andNot .i64 x (gr m o g who group) = 0) := by
  have hb := @gr_bd m o g who group
  have hi := not_iff (x := x) hb.1 hb.2 hx0 hx1
  rw [Bool.eq_iff_iff]
  simp only [Bool.and_eq_true, Bool.or_eq_true, decide_eq_true_eq]
  rw [hi]
  constructor
  · rintro ⟨h1, h2 | h2⟩
    · refine ⟨h1, ?_⟩
      rw [show gr m o g who group = 7 by unfold gr; rw [if_pos h2]]
      obtain ⟨x, rfl⟩ := Int.eq_ofNat_of_zero_le h1.1
      exact has_seven x (by omega)
    · exact ⟨h1, h2⟩
  · rintro ⟨h1, h2⟩
    exact ⟨h1, .inr h2⟩
theorem all_mem {α : Type} {p q : α → Bool} : ∀ {l : List α}, (∀ x ∈ l, p x = q x) → l.all p = l.all q
  | [], _ => rfl
  | x :: l, h => by
    rw [List.all_cons, List.all_cons, h x List.mem_cons_self, all_mem fun y hy => h y (List.mem_cons_of_mem _ hy)]
theorem can_ref {k m o g who group : Int} {ws : List Int} (hw : ∀ x ∈ ws, -9223372036854775808 ≤ x ∧ x ≤ 9223372036854775807) :
    canB k m o g who group ws = (refCanB k m o g who group 0 && ws.all fun x => refCanB k m o g who group x) := by
  have e0 : refCanB k m o g who group 0 = (decide (chk k m o g = 0) && whoB who && whoB group) := by
    have hb := @gr_bd m o g who group
    unfold refCanB
    have : hasB (gr m o g who group) 0 = true := by
      obtain ⟨d, hd⟩ := Int.eq_ofNat_of_zero_le hb.1
      rw [hd]
      exact has_zero d (by omega)
    rw [this]
    simp
  rw [e0]
  unfold canB
  cases hc : (decide (chk k m o g = 0) && whoB who && whoB group) with
  | false => simp
  | true =>
    rw [Bool.true_and, Bool.true_and]
    refine all_mem fun x hx => ?_
    have := ref_can (k := k) (m := m) (o := o) (g := g) (who := who) (group := group) (hw x hx).1 (hw x hx).2
    unfold refCanB
    rw [hc, Bool.true_and, this]
theorem mode_not_or : ∀ d : Nat, d < 8 → ∀ a : Nat, a < 8 → ∀ b : Nat, b < 8 → (decide (bits .andNot .i64 (bits .or .i64 (a : Int) (b : Int)) (d : Int) = 0) = (decide (bits .andNot .i64 (a : Int) (d : Int) = 0) && decide (bits .andNot .i64 (b : Int) (d : Int) = 0))) := by decide +kernel
theorem seven_all : ∀ a : Nat, a < 8 → bits .andNot .i64 (a : Int) 7 = 0 := by decide +kernel

/-! What is refused, and what is cut. -/
def cutL (m : Int) (ds : List Int) : Int := if 0 ≤ m ∧ m ≤ 4095 then ds.foldl (fun a d => bits .andNot .i64 a d) m else 0
/-- Neither setuid nor setgid; of a file or directory, neither the group nor all others may write. -/
def setB (m : Int) : Bool := decide (m / 512 % 8 > 1)
def wrB (m : Int) : Bool := hasB (m / 8 % 8) 2 || hasB (m / 1 % 8) 2
def refuse (k m o g : Int) : Int := if chk k m o g ≠ 0 then chk k m o g else if 2 < k then 17 else if setB m || (decide (k < 2) && wrB m) then 11 else 0
theorem cut_two : ∀ a : Nat, a < 64 → ∀ b : Nat, b < 64 → (((64 * a + b) &&& (18446744073709551615 - 2048)) &&& (18446744073709551615 - 1024) = 64 * a + b ↔ ¬ ((64 * a + b) / 512 % 8 > 1)) := by decide +kernel
theorem cut_four : ∀ a : Nat, a < 64 → ∀ b : Nat, b < 64 → (((((64 * a + b) &&& (18446744073709551615 - 16)) &&& (18446744073709551615 - 2)) &&& (18446744073709551615 - 2048)) &&& (18446744073709551615 - 1024) = 64 * a + b ↔ ¬ ((64 * a + b) / 512 % 8 > 1) ∧ ¬ ((64 * a + b) / 8 % 8 / 2 % 2 = 1) ∧ ¬ ((64 * a + b) % 8 / 2 % 2 = 1)) := by decide +kernel

theorem cut_step {m : Nat} {d : Nat} (hm : m ≤ 4095) (hd : d < 9223372036854775808) : bits .andNot .i64 (m : Int) (d : Int) = ((m &&& (18446744073709551615 - d) : Nat) : Int) := andNot_nat m d (by omega) hd
theorem cut_le {m d : Nat} (hm : m ≤ 4095) : m &&& d ≤ 4095 := Nat.le_trans Nat.and_le_left hm
theorem split64 {m : Nat} (h : m ≤ 4095) : ∃ a b, a < 64 ∧ b < 64 ∧ m = 64 * a + b := ⟨m / 64, m % 64, by omega, by omega, by omega⟩
/-- Without setuid and setgid. -/
theorem cut_two_int {m : Int} (h0 : 0 ≤ m) (h1 : m ≤ 4095) : cutL m [2048, 1024] = m ↔ setB m = false := by
  obtain ⟨n, rfl⟩ := Int.eq_ofNat_of_zero_le h0
  obtain ⟨a, b, ha, hb, rfl⟩ := split64 (m := n) (by omega)
  have h := cut_two a ha b hb
  unfold cutL
  rw [if_pos ⟨h0, h1⟩]
  simp only [List.foldl]
  rw [show (2048 : Int) = ((2048 : Nat) : Int) from rfl, show (1024 : Int) = ((1024 : Nat) : Int) from rfl]
  rw [cut_step (by omega) (by omega), cut_step (cut_le (by omega)) (by omega)]
  rw [Int.ofNat_inj, h]
  unfold setB
  rw [decide_eq_false_iff_not]
  have e : (((64 * a + b : Nat) : Int) / 512 % 8) = ((64 * a + b) / 512 % 8 : Nat) := by omega
  rw [e]
  omega
theorem wr_nat (n : Nat) : wrB (n : Int) = false ↔ ¬ (n / 8 % 8 / 2 % 2 = 1) ∧ ¬ (n % 8 / 2 % 2 = 1) := by
  have e1 : ∀ d : Nat, hasB (d : Int) 2 = !decide (d / 2 % 2 = 0) := by
    intro d
    unfold hasB
    have : ((d : Int) / 2 % 2 = 0) ↔ d / 2 % 2 = 0 := by omega
    simp [this]
  unfold wrB
  rw [show ((n : Int) / 8 % 8) = ((n / 8 % 8 : Nat) : Int) by omega, show ((n : Int) / 1 % 8) = ((n % 8 : Nat) : Int) by omega, e1, e1]
  simp
theorem cut_four_int {m : Int} (h0 : 0 ≤ m) (h1 : m ≤ 4095) : cutL (cutL m [16, 2]) [2048, 1024] = m ↔ setB m = false ∧ wrB m = false := by
  obtain ⟨n, rfl⟩ := Int.eq_ofNat_of_zero_le h0
  obtain ⟨a, b, ha, hb, rfl⟩ := split64 (m := n) (by omega)
  have h := cut_four a ha b hb
  have e1 : cutL ((64 * a + b : Nat) : Int) [16, 2] = (((64 * a + b) &&& (18446744073709551615 - 16)) &&& (18446744073709551615 - 2) : Nat) := by
    unfold cutL
    rw [if_pos ⟨h0, h1⟩]
    simp only [List.foldl]
    rw [show (16 : Int) = ((16 : Nat) : Int) from rfl, show (2 : Int) = ((2 : Nat) : Int) from rfl]
    rw [cut_step (by omega) (by omega), cut_step (cut_le (by omega)) (by omega)]
  rw [e1]
  have h2 : ((64 * a + b) &&& (18446744073709551615 - 16)) &&& (18446744073709551615 - 2) ≤ 4095 := cut_le (cut_le (by omega))
  generalize hc : ((64 * a + b) &&& (18446744073709551615 - 16)) &&& (18446744073709551615 - 2) = c at h h2 ⊢
  have e2 : cutL ((c : Nat) : Int) [2048, 1024] = ((c &&& (18446744073709551615 - 2048)) &&& (18446744073709551615 - 1024) : Nat) := by
    unfold cutL
    rw [if_pos ⟨by omega, by omega⟩]
    simp only [List.foldl]
    rw [show (2048 : Int) = ((2048 : Nat) : Int) from rfl, show (1024 : Int) = ((1024 : Nat) : Int) from rfl]
    rw [cut_step h2 (by omega), cut_step (cut_le h2) (by omega)]
  rw [e2, Int.ofNat_inj, h, wr_nat]
  unfold setB
  rw [decide_eq_false_iff_not]
  have e : (((64 * a + b : Nat) : Int) / 512 % 8) = ((64 * a + b) / 512 % 8 : Nat) := by omega
  rw [e]
  omega
theorem cutL_bd (m : Int) (ds : List Int) : 0 ≤ cutL m ds ∧ cutL m ds ≤ 4095 := by
  unfold cutL
  split
  · rename_i h
    have : ∀ (ds : List Int) (m : Int), 0 ≤ m ∧ m ≤ 4095 → 0 ≤ ds.foldl (fun a d => bits .andNot .i64 a d) m ∧ ds.foldl (fun a d => bits .andNot .i64 a d) m ≤ 4095 := by
      intro ds
      induction ds with
      | nil => exact fun _ h => h
      | cons d ds ih =>
        intro m hm
        refine ih _ ?_
        show 0 ≤ bits .andNot .i64 m d ∧ bits .andNot .i64 m d ≤ 4095
        rw [andNot64]
        have hle : (BitVec.ofInt 64 m &&& ~~~BitVec.ofInt 64 d).toNat ≤ m.toNat := by
          rw [BitVec.toNat_and, ofInt_nat hm.1 (by omega)]
          exact Nat.and_le_left
        rw [toInt_small (by omega)]
        omega
    exact this ds m h
  · omega
/-- One bit of a number. -/
theorem bit_of (a : Int) (k : Nat) (hk : k < 63) : bits .and .i64 a ((2 ^ k : Nat) : Int) = 0 ↔ (BitVec.ofInt 64 a).getLsbD k = false := by
  have hp : 2 ^ k ≤ 4611686018427387904 := Nat.pow_le_pow_right (i := k) (j := 62) (by omega : 0 < 2) (by omega)
  have e : BitVec.ofInt 64 ((2 ^ k : Nat) : Int) = BitVec.twoPow 64 k := by
    apply BitVec.eq_of_toNat_eq
    have hc : ((2 ^ k : Nat) : Int) ≤ 9223372036854775807 := by
      have : ((2 ^ k : Nat) : Int) ≤ ((4611686018427387904 : Nat) : Int) := Int.ofNat_le.2 hp
      omega
    rw [ofInt_nat (a := ((2 ^ k : Nat) : Int)) (Int.natCast_nonneg _) hc, BitVec.toNat_twoPow, Int.toNat_natCast, Nat.mod_eq_of_lt (by omega)]
  rw [and64, toInt_zero, e, BitVec.and_twoPow]
  cases h : (BitVec.ofInt 64 a).getLsbD k with
  | false => simp
  | true =>
    simp only [if_true, Bool.true_eq_false, iff_false]
    intro h0
    have := congrArg BitVec.toNat h0
    rw [BitVec.toNat_twoPow, Nat.mod_eq_of_lt (by omega)] at this
    have := Nat.two_pow_pos k
    simp at *
theorem fold_bit (k : Nat) (hk : k < 64) : ∀ (ds : List Int) (m : Int), (BitVec.ofInt 64 (ds.foldl (fun a d => bits .andNot .i64 a d) m)).getLsbD k = ((BitVec.ofInt 64 m).getLsbD k && !(ds.any fun d => (BitVec.ofInt 64 d).getLsbD k))
  | [], m => by simp
  | d :: ds, m => by
    rw [List.foldl_cons, fold_bit k hk ds, List.any_cons, andNot64, ofInt_toInt, BitVec.getLsbD_and, BitVec.getLsbD_not]
    cases (BitVec.ofInt 64 m).getLsbD k <;> cases (BitVec.ofInt 64 d).getLsbD k <;> simp [hk]
/-- What the law asks of one bit. -/
def bitB (a : Int) (k : Nat) : Bool := !decide (bits .and .i64 a ((2 ^ k : Nat) : Int) = 0)
theorem bitB_eq (a : Int) (k : Nat) (hk : k < 63) : bitB a k = (BitVec.ofInt 64 a).getLsbD k := by
  unfold bitB
  have := bit_of a k hk
  cases h : (BitVec.ofInt 64 a).getLsbD k <;> simp_all
theorem cut_bit {m : Int} (h0 : 0 ≤ m) (h1 : m ≤ 4095) (ds : List Int) (k : Nat) (hk : k < 63) : bitB (cutL m ds) k = (bitB m k && !(ds.any fun d => bitB d k)) := by
  unfold cutL
  rw [if_pos ⟨h0, h1⟩, bitB_eq _ k hk, bitB_eq _ k hk, fold_bit k (by omega)]
  congr 2
  induction ds with
  | nil => rfl
  | cons d ds ih => rw [List.any_cons, List.any_cons, ih, bitB_eq _ k hk]

/-! Stats as numbers. -/
theorem num_or {a b : Int} (i : Nat) (ha : 0 ≤ a) (h : a * 2 ^ i + b < 9223372036854775808) (hb0 : 0 ≤ b) (hb1 : b < 2 ^ i) : bits .or .i64 (a * 2 ^ i) b = a * 2 ^ i + b := by
  obtain ⟨n, rfl⟩ := Int.eq_ofNat_of_zero_le ha
  obtain ⟨c, rfl⟩ := Int.eq_ofNat_of_zero_le hb0
  have e : ((n : Int) * 2 ^ i) = ((n * 2 ^ i : Nat) : Int) := by simp
  rw [e] at h ⊢
  have hc : c < 2 ^ i := by exact_mod_cast hb1
  rw [or_nat _ _ (by omega) (by omega), nat_join i _ _ (by simp) hc]
  omega
def numS (k m o g : Int) : Int := k * 17592186044416 + m * 4294967296 + o * 65536 + g
theorem num_eq {k m o g : Int} (h : chk k m o g = 0) : bits .or .i64 (bits .or .i64 (bits .or .i64 (k * 17592186044416) (m * 4294967296)) (o * 65536)) g = numS k m o g := by
  obtain ⟨⟨k0, k1⟩, ⟨m0, m1⟩, ⟨o0, o1⟩, g0, g1⟩ := chk_zero h
  have e1 := num_or (a := k) (b := m * 4294967296) 44 (by omega) (by omega) (by omega) (by omega)
  have e2 := num_or (a := k * 4096 + m) (b := o * 65536) 32 (by omega) (by omega) (by omega) (by omega)
  have e3 := num_or (a := (k * 4096 + m) * 65536 + o) (b := g) 16 (by omega) (by omega) (by omega) (by omega)
  rw [show k * 17592186044416 = k * 2 ^ 44 by omega, e1, show k * 2 ^ 44 + m * 4294967296 = (k * 4096 + m) * 2 ^ 32 by omega, e2, show (k * 4096 + m) * 2 ^ 32 + o * 65536 = ((k * 4096 + m) * 65536 + o) * 2 ^ 16 by omega, e3]
  unfold numS
  omega
/-- The parts of a number. -/
def kOf (n : Int) : Int := n / 17592186044416
def mOf (n : Int) : Int := n / 4294967296 % 4096
def oOf (n : Int) : Int := n / 65536 % 65536
def gOf (n : Int) : Int := n % 65536
theorem num_of_parts (n : Int) : numS (kOf n) (mOf n) (oOf n) (gOf n) = n := by unfold numS kOf mOf oOf gOf; omega
theorem parts_of_num {k m o g : Int} (h : chk k m o g = 0) : kOf (numS k m o g) = k ∧ mOf (numS k m o g) = m ∧ oOf (numS k m o g) = o ∧ gOf (numS k m o g) = g := by
  obtain ⟨⟨k0, k1⟩, ⟨m0, m1⟩, ⟨o0, o1⟩, g0, g1⟩ := chk_zero h
  unfold numS kOf mOf oOf gOf
  omega
theorem mask12 (a : Int) : bits .and .i64 a 4095 = a % 4096 := mask_any a 12 (by omega)
theorem mask16 (a : Int) : bits .and .i64 a 65535 = a % 65536 := mask_any a 16 (by omega)
theorem mask3 (a : Int) : bits .and .i64 a 7 = a % 8 := mask_any a 3 (by omega)

/-! More bits. -/
theorem more_le (m e : Nat) (hm : m ≤ 4095) (he : e < 512) : m ||| e ≤ 4095 := by
  have : m ||| e < 2 ^ 12 := Nat.or_lt_two_pow (by omega) (by omega)
  omega
theorem more_at (m e i : Nat) : (m ||| e) / 2 ^ i % 8 = (m / 2 ^ i % 8) ||| (e / 2 ^ i % 8) := by
  rw [← Nat.shiftRight_eq_div_pow, ← Nat.shiftRight_eq_div_pow, ← Nat.shiftRight_eq_div_pow, Nat.shiftRight_or_distrib]
  rw [← nat_mask3, ← nat_mask3, ← nat_mask3, Nat.and_or_distrib_right]
theorem more_can : ∀ d : Nat, d < 8 → ∀ e : Nat, e < 8 → ∀ a : Nat, a < 8 → bits .andNot .i64 (a : Int) (d : Int) = 0 → bits .andNot .i64 (a : Int) ((d ||| e : Nat) : Int) = 0 := by decide +kernel
theorem gr_more {m e o g who group : Int} {a : Int} (hm0 : 0 ≤ m) (hm1 : m ≤ 4095) (he0 : 0 ≤ e) (he1 : e < 512) (ha0 : 0 ≤ a) (ha1 : a ≤ 7)
    (h : bits .andNot .i64 a (gr m o g who group) = 0) : bits .andNot .i64 a (gr (bits .or .i64 m e) o g who group) = 0 := by
  obtain ⟨n, rfl⟩ := Int.eq_ofNat_of_zero_le hm0
  obtain ⟨c, rfl⟩ := Int.eq_ofNat_of_zero_le he0
  obtain ⟨x, rfl⟩ := Int.eq_ofNat_of_zero_le ha0
  rw [or_nat _ _ (by omega) (by omega)]
  have key : ∀ i : Nat, bits .andNot .i64 (x : Int) ((n / 2 ^ i % 8 : Nat) : Int) = 0 → bits .andNot .i64 (x : Int) (((n ||| c) / 2 ^ i % 8 : Nat) : Int) = 0 := by
    intro i hi
    rw [more_at]
    exact more_can _ (by omega) _ (by omega) x (by omega) hi
  unfold gr at h ⊢
  split
  · rename_i hw
    rw [if_pos hw] at h
    exact h
  · rename_i hw
    rw [if_neg hw] at h
    split
    · rename_i h2
      rw [if_pos h2] at h
      exact key 6 h
    · rename_i h2
      rw [if_neg h2] at h
      split
      · rename_i h3
        rw [if_pos h3] at h
        exact key 3 h
      · rename_i h3
        rw [if_neg h3] at h
        have := key 0
        simp only [Nat.pow_zero, Nat.div_one] at this
        exact this h
end Go.Proofs.YtlpljedacohngaaGreatDoor
end

/-
  The memory words of this seat: those of BMem. No condition.
-/

section

end

/-
  Words of 32 bits: what the machine's operations on them are. Plain definitions and theorems; no condition.
-/

section
set_option maxRecDepth 100000
set_option linter.unusedSimpArgs false
set_option linter.unusedVariables false
namespace Go.Proofs.YtlpljedacohngaaGreatDoor
open Go.RowKit

abbrev B32 := BitVec 32
abbrev B8 := BitVec 8

/-- A word as the machine's number. -/
def nw (x : B32) : Int := (x.toNat : Int)
def nb (x : B8) : Int := (x.toNat : Int)
theorem nw_bound (x : B32) : 0 ≤ nw x ∧ nw x < 4294967296 := by
  have := x.isLt
  unfold nw
  omega
theorem nb_bound (x : B8) : 0 ≤ nb x ∧ nb x < 256 := by
  have := x.isLt
  unfold nb
  omega
theorem nw_inj {x y : B32} (h : nw x = nw y) : x = y := by
  unfold nw at h
  exact BitVec.eq_of_toNat_eq (by omega)
theorem nb_inj {x y : B8} (h : nb x = nb y) : x = y := by
  unfold nb at h
  exact BitVec.eq_of_toNat_eq (by omega)
theorem ofInt_nw (x : B32) : BitVec.ofInt 32 (nw x) = x := by unfold nw; simp
theorem ofInt_nb (x : B8) : BitVec.ofInt 8 (nb x) = x := by unfold nb; simp
theorem wrap_u32 (n : Int) : IntKind.u32.wrap n = nw (BitVec.ofInt 32 n) := by
  unfold nw
  rw [BitVec.toNat_ofInt]
  simp [IntKind.wrap, IntKind.signed, IntKind.bits]
  omega
theorem wrap_u8 (n : Int) : IntKind.u8.wrap n = nb (BitVec.ofInt 8 n) := by
  unfold nb
  rw [BitVec.toNat_ofInt]
  simp [IntKind.wrap, IntKind.signed, IntKind.bits]
  omega
theorem add_u32 (x y : B32) : IntKind.u32.wrap (nw x + nw y) = nw (x + y) := by
  rw [wrap_u32, BitVec.ofInt_add, ofInt_nw, ofInt_nw]
theorem xor_u32 (x y : B32) : bits .xor .u32 (nw x) (nw y) = nw (x ^^^ y) := by
  unfold bits
  simp only [IntKind.bits, ofInt_nw]
  exact (wrap_u32 _).trans (congrArg nw (ofInt_nw _))
theorem and_u32 (x y : B32) : bits .and .u32 (nw x) (nw y) = nw (x &&& y) := by
  unfold bits
  simp only [IntKind.bits, ofInt_nw]
  exact (wrap_u32 _).trans (congrArg nw (ofInt_nw _))
theorem or_u32 (x y : B32) : bits .or .u32 (nw x) (nw y) = nw (x ||| y) := by
  unfold bits
  simp only [IntKind.bits, ofInt_nw]
  exact (wrap_u32 _).trans (congrArg nw (ofInt_nw _))
theorem not_u32 (x : B32) : bits .xor .u32 IntKind.u32.max (nw x) = nw (~~~x) := by
  have : IntKind.u32.max = nw (BitVec.allOnes 32) := by decide
  rw [this, xor_u32, BitVec.allOnes_xor]
theorem shr_u32 (x : B32) (k : Nat) : (nw x).fdiv (2 ^ k) = nw (x >>> k) := by
  unfold nw
  rw [BitVec.toNat_ushiftRight, Nat.shiftRight_eq_div_pow, Int.fdiv_eq_ediv_of_nonneg _ (Int.le_of_lt (Int.pow_pos (by omega)))]
  norm_cast
theorem shl_u32 (x : B32) (k : Nat) : IntKind.u32.wrap (nw x * 2 ^ k) = nw (x <<< k) := by
  rw [wrap_u32, BitVec.shiftLeft_eq_mul_twoPow, BitVec.ofInt_mul, ofInt_nw]
  congr 2
  apply BitVec.eq_of_toNat_eq
  rw [BitVec.toNat_ofInt, BitVec.toNat_twoPow]
  norm_cast

theorem div_u32 (x : B32) (k : Nat) : nw x / 2 ^ k = nw (x >>> k) := by
  rw [← shr_u32, Int.fdiv_eq_ediv_of_nonneg _ (Int.le_of_lt (Int.pow_pos (by omega)))]
theorem div_3 (x : B32) : nw x / (8 : Int) = nw (x >>> 3) := div_u32 x 3
theorem div_8 (x : B32) : nw x / (256 : Int) = nw (x >>> 8) := div_u32 x 8
theorem div_10 (x : B32) : nw x / (1024 : Int) = nw (x >>> 10) := div_u32 x 10
theorem div_16 (x : B32) : nw x / (65536 : Int) = nw (x >>> 16) := div_u32 x 16
theorem div_24 (x : B32) : nw x / (16777216 : Int) = nw (x >>> 24) := div_u32 x 24
theorem low_u8 (x : B32) : IntKind.u8.wrap (nw x) = nb (x.setWidth 8) := by
  rw [wrap_u8]
  congr 1
theorem mod_u8 (x : B32) : nw x % 256 = nb (x.setWidth 8) := by
  rw [← low_u8]
  simp [IntKind.wrap, IntKind.signed, IntKind.bits]
/-- A byte as a word, moved to the left. -/
def up (b : B8) (k : Nat) : B32 := (b.setWidth 32) <<< k
theorem wide_u32 (b : B8) : nb b = nw (b.setWidth 32) := by
  unfold nb nw
  rw [BitVec.toNat_setWidth]
  have := b.isLt
  omega
theorem up_u32 (b : B8) (k : Nat) : IntKind.u32.wrap (nb b * 2 ^ k) = nw (up b k) := by
  rw [wide_u32, shl_u32]; rfl

/-- Turned to the right. -/
def rr (x : B32) (k : Nat) : B32 := (x <<< (32 - k)) ||| (x >>> k)
theorem rr_eq (x : B32) (k : Nat) : rr x k = (x <<< (32 - k)) ||| (x >>> k) := rfl

attribute [irreducible] nw nb up rr

end Go.Proofs.YtlpljedacohngaaGreatDoor
end

/-
  Entries as plain values, and why one is refused. Plain definitions and theorems; no condition.
-/

section
set_option linter.unusedSimpArgs false
set_option linter.unusedVariables false
set_option maxRecDepth 100000
namespace Go.Proofs.YtlpljedacohngaaGreatDoor
open Go.RowKit

/-- An entry. -/
structure En where
  path : Pa
  kind : Int
  mode : Int
  data : List B8
/-- The text that bytes are. -/
def txtB (d : List B8) : ByteArray := strOfNums (d.map nb)
def pathlessE (p : Pa) : Bool := !(decide ((parseB (textP p)).2 = 0)) || decide ((parseB (textP p)).1.length = 0) || !(decide ((parseB (textP p)).1 = p))
def kindlessE (k : Int) : Bool := !(decide (k = 0) || decide (k = 1) || decide (k = 2))
def riskyE (k m : Int) : Bool := !(decide (refuse k m 0 0 = 0))
def filledE (k : Int) (d : List B8) : Bool := decide (k = 1) && decide (0 < d.length)
def longE (d : List B8) : Bool := decide (512 < d.length)
def leadsE (p : Pa) (k : Int) (d : List B8) : Bool := decide (k = 2) && (!(decide ((leadB (homeP p) (txtB d)).2 = 0)) || Lib.hasPrefix (Lib.bytesOf (d.map nb)) (Lib.bytesOf [47]))
/-- Where the first entry of a path is. -/
def atE : List En → Pa → Option Nat
  | [], _ => none
  | e :: es, p => if e.path = p then some 0 else (atE es p).map (· + 1)
def twiceE (ahead : List En) (p : Pa) : Bool := (atE ahead p).isSome
def nowAt (ahead : List En) : Option Nat → Bool
  | none => true
  | some i => match ahead[i]? with
    | some e => !(decide (e.kind = 1))
    | none => true
theorem nowAt_some {ahead : List En} {i : Nat} {e : En} (h : ahead[i]? = some e) : nowAt ahead (some i) = !(decide (e.kind = 1)) := by simp [nowAt, h]
def nowhereE (ahead : List En) (p : Pa) : Bool := if (homeP p).length = 0 then false else nowAt ahead (atE ahead (homeP p))
/-- Which of the checks fails; 'bent': whether the digest that is told is another one. -/
def failE (e : En) (ahead : List En) (bent : Bool) : Nat → Bool
  | 0 => pathlessE e.path
  | 1 => kindlessE e.kind
  | 2 => riskyE e.kind e.mode
  | 3 => filledE e.kind e.data
  | 4 => longE e.data
  | 5 => leadsE e.path e.kind e.data
  | 6 => twiceE ahead e.path
  | 7 => nowhereE ahead e.path
  | _ => bent
def errE : Nat → Int
  | 0 => 10 | 1 => 17 | 2 => 11 | 3 => 3 | 4 => 2 | 5 => 10 | 6 => 8 | 7 => 7 | _ => 5
/-- Why an entry is refused, from the i-th check on. -/
def refFrom (e : En) (ahead : List En) (bent : Bool) : Nat → Nat → Int
  | _, 0 => 0
  | i, n + 1 => if failE e ahead bent i then errE i else refFrom e ahead bent (i + 1) n
def refE (e : En) (ahead : List En) (bent : Bool) : Int := refFrom e ahead bent 0 9
/-- The place of the first that is refused, and why. -/
def chkFrom (ahead : List En) : List En → Nat × Int
  | [] => (ahead.length, 0)
  | e :: es => if refE e ahead false = 0 then chkFrom (ahead ++ [e]) es else (ahead.length, refE e ahead false)
def chkE (es : List En) : Nat × Int := if 40 < es.length then (40, 2) else chkFrom [] es
theorem errE_ne (i : Nat) : errE i ≠ 0 := by
  unfold errE
  split <;> decide
theorem refFrom_succ {e : En} {ahead : List En} {bent : Bool} {i n : Nat} : refFrom e ahead bent i (n + 1) = if failE e ahead bent i then errE i else refFrom e ahead bent (i + 1) n := rfl
theorem refFrom_zero {e : En} {ahead : List En} {bent : Bool} : ∀ (n i : Nat), refFrom e ahead bent i n = 0 → ∀ j, i ≤ j → j < i + n → failE e ahead bent j = false := by
  intro n
  induction n with
  | zero => intro i _ j h1 h2; omega
  | succ n ih =>
    intro i h j h1 h2
    rw [refFrom_succ] at h
    cases hf : failE e ahead bent i with
    | true => rw [hf] at h; exact absurd h (by simp [errE_ne])
    | false =>
      rw [hf] at h
      rcases Nat.lt_or_ge i j with hj | hj
      · exact ih (i + 1) (by simpa using h) j (by omega) (by omega)
      · obtain rfl : i = j := by omega
        exact hf
theorem refFrom_skip {e : En} {ahead : List En} {bent : Bool} : ∀ (k n i : Nat), (∀ j, i ≤ j → j < i + k → failE e ahead bent j = false) → refFrom e ahead bent i (k + n) = refFrom e ahead bent (i + k) n := by
  intro k
  induction k with
  | zero => intro n i _; rw [Nat.zero_add, Nat.add_zero]
  | succ k ih =>
    intro n i h
    rw [show k + 1 + n = (k + n) + 1 by omega]
    rw [refFrom_succ, h i (by omega) (by omega)]
    simp only [Bool.false_eq_true, if_false]
    rw [ih n (i + 1) (fun j h1 h2 => h j (by omega) (by omega)), show i + 1 + k = i + (k + 1) by omega]
theorem ref_found {e : En} {ahead : List En} {bent : Bool} {k : Nat} (hk : k < 9) (h0 : ∀ j, j < k → failE e ahead bent j = false) (h1 : failE e ahead bent k = true) : refE e ahead bent = errE k := by
  unfold refE
  have := refFrom_skip (e := e) (ahead := ahead) (bent := bent) k (9 - k) 0 (fun j _ h => h0 j (by omega))
  rw [show k + (9 - k) = 9 by omega, Nat.zero_add] at this
  rw [this, show 9 - k = (8 - k) + 1 by omega, refFrom_succ, h1]
  rfl
theorem ref_none {e : En} {ahead : List En} {bent : Bool} (h0 : ∀ j, j < 9 → failE e ahead bent j = false) : refE e ahead bent = 0 := by
  unfold refE
  have := refFrom_skip (e := e) (ahead := ahead) (bent := bent) 9 0 0 (fun j _ h => h0 j (by omega))
  rw [this]
  rfl
theorem ref_all {e : En} {ahead : List En} {bent : Bool} (h : refE e ahead bent = 0) : ∀ j, j < 9 → failE e ahead bent j = false := fun j hj => refFrom_zero 9 0 h j (by omega) (by omega)
/-- Check, told by places. -/
theorem chk_stop : ∀ (es ahead : List En) (i : Nat) (e : En), es[i]? = some e → (∀ j x, j < i → es[j]? = some x → refE x (ahead ++ es.take j) false = 0) → refE e (ahead ++ es.take i) false ≠ 0 →
    chkFrom ahead es = (ahead.length + i, refE e (ahead ++ es.take i) false) := by
  intro es
  induction es with
  | nil => intro ahead i e h; simp at h
  | cons x xs ih =>
    intro ahead i e he hall hbad
    unfold chkFrom
    cases i with
    | zero =>
      simp only [List.getElem?_cons_zero, Option.some.injEq] at he
      subst he
      rw [List.take_zero, List.append_nil] at hbad
      rw [if_neg hbad, List.take_zero, List.append_nil]
      rfl
    | succ i =>
      have h0 := hall 0 x (by omega) rfl
      rw [List.take_zero, List.append_nil] at h0
      rw [if_pos h0]
      have := ih (ahead ++ [x]) i e (by simpa using he) (fun j y hj hy => by
        have := hall (j + 1) y (by omega) (by simpa using hy)
        rw [List.take_succ_cons] at this
        rw [List.append_assoc]
        exact this) (by rw [List.append_assoc]; exact hbad)
      rw [this, List.append_assoc, List.length_append]
      simp only [List.length_cons, List.length_nil, List.take_succ_cons, List.cons_append, List.nil_append]
      rw [show ahead.length + (0 + 1) + i = ahead.length + (i + 1) by omega]
theorem chk_all : ∀ (es ahead : List En), (∀ j x, es[j]? = some x → refE x (ahead ++ es.take j) false = 0) → chkFrom ahead es = (ahead.length + es.length, 0) := by
  intro es
  induction es with
  | nil => intro ahead _; rfl
  | cons x xs ih =>
    intro ahead hall
    unfold chkFrom
    have h0 := hall 0 x rfl
    rw [List.take_zero, List.append_nil] at h0
    rw [if_pos h0, ih (ahead ++ [x]) (fun j y hy => by
      have := hall (j + 1) y (by simpa using hy)
      rw [List.take_succ_cons] at this
      rw [List.append_assoc]
      exact this), List.length_append]
    simp only [List.length_cons, List.length_nil]
    rw [show ahead.length + (0 + 1) + xs.length = ahead.length + (xs.length + 1) by omega]
theorem ate_some : ∀ (es : List En) (p : Pa) (i : Nat) (e : En), es[i]? = some e → e.path = p → (∀ (j : Nat) (x : En), j < i → es[j]? = some x → x.path ≠ p) → atE es p = some i := by
  intro es
  induction es with
  | nil => intro p i e h; simp at h
  | cons x xs ih =>
    intro p i e he hp hn
    unfold atE
    cases i with
    | zero =>
      simp only [List.getElem?_cons_zero, Option.some.injEq] at he
      subst he
      rw [if_pos hp]
    | succ i =>
      rw [if_neg (hn 0 x (by omega) rfl), ih p i e (by simpa using he) hp (fun j y hj hy => hn (j + 1) y (by omega) (by simpa using hy))]
      rfl
theorem ate_none : ∀ (es : List En) (p : Pa), (∀ (j : Nat) (x : En), es[j]? = some x → x.path ≠ p) → atE es p = none := by
  intro es
  induction es with
  | nil => intro p _; rfl
  | cons x xs ih =>
    intro p hn
    unfold atE
    rw [if_neg (hn 0 x rfl), ih p (fun j y hy => hn (j + 1) y (by simpa using hy))]
    rfl
theorem ate_lt : ∀ (es : List En) (p : Pa) (i : Nat), atE es p = some i → ∃ e, es[i]? = some e ∧ e.path = p := by
  intro es
  induction es with
  | nil => intro p i h; cases h
  | cons x xs ih =>
    intro p i h
    unfold atE at h
    split at h
    · cases h
      exact ⟨x, rfl, by assumption⟩
    · cases hq : atE xs p with
      | none => rw [hq] at h; cases h
      | some k =>
        rw [hq] at h
        simp only [Option.map_some, Option.some.injEq] at h
        subst h
        obtain ⟨e, h1, h2⟩ := ih p k hq
        exact ⟨e, by simpa using h1, h2⟩
end Go.Proofs.YtlpljedacohngaaGreatDoor
end

/-
  The words of a block's steps, as plain lists. No condition.
-/

section
set_option maxRecDepth 100000
set_option linter.unusedSimpArgs false
set_option linter.unusedVariables false
namespace Go.Proofs.YtlpljedacohngaaGreatDoor
open Go.RowKit

/-- Words and bytes as cells. -/
def Wd (xs : List B32) : List Value := xs.map fun x => .int .u32 (nw x)
def Vb (xs : List B8) : List Value := xs.map fun x => .int .u8 (nb x)
theorem Wd_length (xs : List B32) : (Wd xs).length = xs.length := by simp [Wd]
theorem Vb_length (xs : List B8) : (Vb xs).length = xs.length := by simp [Vb]
theorem Wd_get (xs : List B32) (i : Nat) : (Wd xs)[i]? = xs[i]?.map fun x => .int .u32 (nw x) := by simp [Wd]
theorem Vb_get (xs : List B8) (i : Nat) : (Vb xs)[i]? = xs[i]?.map fun x => .int .u8 (nb x) := by simp [Vb]
theorem Wd_append (xs ys : List B32) : Wd (xs ++ ys) = Wd xs ++ Wd ys := by simp [Wd]
theorem Vb_append (xs ys : List B8) : Vb (xs ++ ys) = Vb xs ++ Vb ys := by simp [Vb]
theorem Vb_take (xs : List B8) (n : Nat) : (Vb xs).take n = Vb (xs.take n) := by simp [Vb]
theorem Vb_drop (xs : List B8) (n : Nat) : (Vb xs).drop n = Vb (xs.drop n) := by simp [Vb]
theorem Vb_oneCell (xs : List B8) : ∀ u ∈ Vb xs, u.oneCell' = true := by
  intro u hu
  simp only [Vb, List.mem_map] at hu
  obtain ⟨x, _, rfl⟩ := hu
  rfl
theorem Wd_oneCell (xs : List B32) : ∀ u ∈ Wd xs, u.oneCell' = true := by
  intro u hu
  simp only [Wd, List.mem_map] at hu
  obtain ⟨x, _, rfl⟩ := hu
  rfl

/-- Word i of a block. -/
def word4 (bs : List B8) (i : Nat) : B32 :=
  up (bs.getD (4 * i) 0) 24 ||| up (bs.getD (4 * i + 1) 0) 16 ||| up (bs.getD (4 * i + 2) 0) 8 ||| (bs.getD (4 * i + 3) 0).setWidth 32
theorem word4_eq (bs : List B8) (i : Nat) : word4 bs i =
  (up (bs.getD (4 * i) 0) 24 ||| up (bs.getD (4 * i + 1) 0) 16 ||| up (bs.getD (4 * i + 2) 0) 8 ||| (bs.getD (4 * i + 3) 0).setWidth 32) := rfl
def far (x : B32) : B32 := rr x 7 ^^^ rr x 18 ^^^ (x >>> 3)
def near (x : B32) : B32 := rr x 17 ^^^ rr x 19 ^^^ (x >>> 10)
/-- The next word, made of those ahead of it. -/
def nextW (l : List B32) : B32 := l.getD (l.length - 16) 0 + far (l.getD (l.length - 15) 0) + l.getD (l.length - 7) 0 + near (l.getD (l.length - 2) 0)
/-- The first k words of a block's own. -/
def own16 (bs : List B8) : Nat → List B32
  | 0 => []
  | k + 1 => own16 bs k ++ [word4 bs k]
/-- k words more. -/
def more (l : List B32) : Nat → List B32
  | 0 => l
  | k + 1 => more l k ++ [nextW (more l k)]
def sched (bs : List B8) : List B32 := more (own16 bs 16) 48
theorem own16_length (bs : List B8) : ∀ k, (own16 bs k).length = k
  | 0 => rfl
  | k + 1 => by simp [own16, own16_length bs k]
theorem more_length (l : List B32) : ∀ k, (more l k).length = l.length + k
  | 0 => rfl
  | k + 1 => by simp [more, more_length l k]; omega
theorem sched_length (bs : List B8) : (sched bs).length = 64 := by simp [sched, more_length, own16_length]

/-- Words, and behind them the rest of an array of 64, still nought. -/
def part (l : List B32) : List Value := Wd l ++ List.replicate (64 - l.length) (.int .u32 0)
theorem part_length {l : List B32} (h : l.length ≤ 64) : (part l).length = 64 := by simp [part, Wd_length]; omega
theorem part_set {l : List B32} (h : l.length < 64) (x : B32) : (part l).set l.length (.int .u32 (nw x)) = part (l ++ [x]) := by
  unfold part
  rw [List.set_append_right _ _ (by rw [Wd_length]; omega), Wd_length, Nat.sub_self, Wd_append]
  obtain ⟨m, hm⟩ : ∃ m, 64 - l.length = m + 1 := ⟨64 - l.length - 1, by omega⟩
  rw [hm, List.replicate_succ, List.set_cons_zero, List.append_assoc]
  have : 64 - (l ++ [x]).length = m := by simp; omega
  rw [this]
  rfl
theorem part_get {l : List B32} {i : Nat} (h : i < l.length) : (part l)[i]? = some (.int .u32 (nw (l.getD i 0))) := by
  unfold part
  rw [List.getElem?_append_left (by rw [Wd_length]; omega), Wd_get, List.getD_eq_getElem?_getD, List.getElem?_eq_getElem h]
  rfl
theorem part_next {l : List B32} (h : l.length < 64) : (part l)[l.length]? = some (.int .u32 0) := by
  unfold part
  rw [List.getElem?_append_right (by rw [Wd_length]; omega), Wd_length, Nat.sub_self, List.getElem?_replicate]
  rw [if_pos (by omega)]
theorem part_oneCell (l : List B32) : ∀ u ∈ part l, u.oneCell' = true := by
  intro u hu
  rcases List.mem_append.1 hu with h | h
  · exact Wd_oneCell l u h
  · rw [(List.mem_replicate.1 h).2]; rfl
theorem part_whole (l : List B32) (h : l.length = 64) : part l = Wd l := by simp [part, h]

end Go.Proofs.YtlpljedacohngaaGreatDoor
end
