/-
  The library's FormatInt to the base 8, of a number of 13 bits that begins with 1. Condition: one cell of the library's table is as its initialiser lays it.
-/
import Derived.Test.YtobklbangjjocaaDoorMSmall
import Derived.Deep.MidRow
set_option linter.unusedSimpArgs false
set_option linter.unusedVariables false
set_option maxRecDepth 100000
namespace Go.Proofs.YtobklbangjjocaaDoor
open Go.RowKit

/-- The one cell of the library's table that is read. -/
def Tz (w : World) : Prop := 5 < w.heap.size ∧ w.cell? ⟨5, 7, none⟩ = some (.int .u8 3)
theorem Tz.below {w w' : World} (h : Tz w) (hb : Below w.heap.size w w') : Tz w' := ⟨Nat.lt_of_lt_of_le h.1 hb.size, (hb.cell (p := ⟨5, 7, none⟩) h.1).trans h.2⟩

theorem pow_two (w : World) : Calls Tryd.prog 49 #[.int .i64 8] w fun e w' => e = .returned (.bool true) ∧ w = w' := by
  have b8 : bits .and .i64 8 7 = 0 := by decide +kernel
  go_enter Tryd.func49, Tryd.ntmps49
  go_wp2_with fail
  go_ret
  exact ⟨rfl, rfl⟩
theorem zeros64 (w : World) (h : Tz w) : Calls Tryd.prog 55 #[.int .u64 8] w fun e w' => e = .returned (.int .i64 3) ∧ w = w' := by
  have hc := h.2
  have a1 : bits .and .u64 8 (IntKind.u64.wrap (-8)) = 8 := by decide +kernel
  have a2 : IntKind.u64.wrap (8 * 285870213051353865) / 2 ^ 58 = 7 := by decide +kernel
  go_enter Tryd.func55, Tryd.ntmps55
  go_wp2_with fail
  go_ret
  exact ⟨rfl, rfl⟩
theorem zeros_any (w : World) (h : Tz w) : Calls Tryd.prog 50 #[.int .u64 8] w fun e w' => e = .returned (.int .i64 3) ∧ w = w' := by
  have HT := Lib.hid h
  clear h
  go_enter Tryd.func50, Tryd.ntmps50
  go_wp2_with (go_at_call 55; ((with_reducible refine (zeros64 _ HT.out).mono ?_); rintro e w' ⟨rfl, rfl⟩))
  go_ret
  exact ⟨rfl, rfl⟩

/-- A digit's sign. -/
abbrev dg (q : Nat) : Value := .int .u8 (48 + (q : Int))
theorem sign_at8 : ∀ (q : Nat), q < 8 → ∀ (w : World), (Instr.index 9 (.string ⟨#[48, 49, 50, 51, 52, 53, 54, 55, 56, 57, 97, 98, 99, 100, 101, 102, 103, 104, 105, 106, 107, 108, 109, 110, 111, 112, 113, 114, 115, 116, 117, 118, 119, 120, 121, 122]⟩) (.int .u64 (q : Int))).run Tryd.prog w = .ok (dg q) w
  | 0, _, w => by kernel_rfl
  | 1, _, w => by kernel_rfl
  | 2, _, w => by kernel_rfl
  | 3, _, w => by kernel_rfl
  | 4, _, w => by kernel_rfl
  | 5, _, w => by kernel_rfl
  | 6, _, w => by kernel_rfl
  | 7, _, w => by kernel_rfl
  | q + 8, h, _ => absurd h (by omega)
def Zs (n : Nat) : List Value := List.replicate n (.int .u8 0)
/-- The numbers that formatBits goes through: four digits, then 1. -/
structure Oct (u0 u1 u2 u3 q0 q1 q2 q3 : Nat) : Prop where
  e0 : u0 = 8 * u1 + q0
  e1 : u1 = 8 * u2 + q1
  e2 : u2 = 8 * u3 + q2
  e3 : u3 = 8 + q3
  l0 : q0 < 8
  l1 : q1 < 8
  l2 : q2 < 8
  l3 : q3 < 8
/-- Where formatBits stands. -/
def FAt (w : World) (u0 u1 u2 u3 q0 q1 q2 q3 : Nat) (uv iv : Value) (wr : World) : Prop := Below w.heap.size w wr ∧
  ((uv = .int .u64 u0 ∧ iv = .int .i64 65 ∧ Blk wr w.heap.size 77 (Zs 65)) ∨
   (uv = .int .u64 u1 ∧ iv = .int .i64 64 ∧ Blk wr w.heap.size 77 (Zs 64 ++ [dg q0])) ∨
   (uv = .int .u64 u2 ∧ iv = .int .i64 63 ∧ Blk wr w.heap.size 77 (Zs 63 ++ [dg q1, dg q0])) ∨
   (uv = .int .u64 u3 ∧ iv = .int .i64 62 ∧ Blk wr w.heap.size 77 (Zs 62 ++ [dg q2, dg q1, dg q0])) ∨
   (uv = .int .u64 1 ∧ iv = .int .i64 61 ∧ Blk wr w.heap.size 77 (Zs 61 ++ [dg q3, dg q2, dg q1, dg q0])))
theorem zs_get {n i : Nat} {l : List Value} (h : i < n) : (Zs n ++ l)[i]? = some (.int .u8 0) := by
  rw [List.getElem?_append_left (by simp [Zs]; omega)]
  simp [Zs, List.getElem?_replicate, h]
theorem zs_set {n : Nat} {l : List Value} {x : Value} : (Zs (n + 1) ++ l).set n x = Zs n ++ (x :: l) := by
  unfold Zs
  rw [List.replicate_succ', List.append_assoc, List.set_append, if_neg (by simp)]
  simp
theorem mask_u64 (u z q : Nat) (h : u = 8 * z + q) (hq : q < 8) (hu : u < 1000000) : bits .and .u64 (u : Int) 7 = (q : Int) ∧ (u : Int) / 8 = (z : Int) ∧ (u : Int) / 2 ^ 3 = (z : Int) := by
  have e := u64_and (u : Int) 7 (by omega) (by omega) (by omega) (by omega)
  refine ⟨?_, by omega, by omega⟩
  rw [e, Int.toNat_natCast, show (7 : Int).toNat = 7 from rfl, nat_mask3]
  omega
set_option maxRecDepth 100000 in
set_option maxHeartbeats 4000000 in
theorem format_any (w : World) (hz : Tz w) (u0 u1 u2 u3 q0 q1 q2 q3 : Nat) (ho : Oct u0 u1 u2 u3 q0 q1 q2 q3) :
    Calls Tryd.prog 39 #[.slice none 0 0, .int .u64 u0, .int .i64 8, .bool false, .bool false] w fun e w' => e = .returned (.tuple #[.slice none 0 0, .string ⟨#[49, UInt8.ofNat (48 + q3), UInt8.ofNat (48 + q2), UInt8.ofNat (48 + q1), UInt8.ofNat (48 + q0)]⟩]) ∧ Below w.heap.size w w' := by
  have HZ := Lib.hid hz
  have HO := Lib.hid ho
  clear hz ho
  go_enter Tryd.func39, Tryd.ntmps39
  go_wp2_with (first
    | (go_at_call 49; ((with_reducible refine (pow_two _).mono ?_); rintro e w' ⟨rfl, rfl⟩))
    | (go_at_call 50; ((with_reducible refine (zeros_any _ (HZ.out.below (mnew _ _))).mono ?_); rintro e w' ⟨rfl, rfl⟩)))
  go_loopw [1, 13] (fun uv iv wr => FAt w u0 u1 u2 u3 q0 q1 q2 q3 uv iv wr) (fun _ iv _ => (intOf iv).toNat)
  case atStart => exact ⟨mnew _ _, .inl ⟨rfl, rfl, by have := Blk.new w 77 (Zs 65); exact this⟩⟩
  case round =>
    obtain ⟨hbel, ⟨rfl, rfl, hblk⟩ | ⟨rfl, rfl, hblk⟩ | ⟨rfl, rfl, hblk⟩ | ⟨rfl, rfl, hblk⟩ | ⟨rfl, rfl, hblk⟩⟩ := hrel
    · obtain ⟨m1, m2, m3⟩ := mask_u64 u0 u1 q0 (by have := HO.out.e0; omega) HO.out.l0 (by have := HO.out; have a := this.e0; have b := this.e1; have c := this.e2; have d := this.e3; have x := this.l0; have y := this.l1; have z := this.l2; have t := this.l3; omega)
      have hge : (8 : Int) ≤ (u0 : Int) := by have := HO.out; have a := this.e0; have b := this.e1; have c := this.e2; have d := this.e3; omega
      have hsg := sign_at8 q0 HO.out.l0
      have g0 : wr.cell? ⟨w.heap.size, 64, none⟩ = some (.int .u8 0) := (hblk.cell 64).trans ((by simp [Zs]))
      have f0 := hblk.frozen 64
      have HB := Lib.hid (And.intro hbel hblk)
      clear hbel hblk
      go_wp2_with fail
      go_roundw
      case rel =>
        have hb := HB.out.2.set_ 64 (dg q0)
        refine ⟨HB.out.1.setCell (Nat.le_refl _) _, .inr (.inl ⟨rfl, rfl, ?_⟩)⟩
        have e := zs_set (n := 64) (l := []) (x := dg q0)
        rw [List.append_nil] at e
        rw [← e]
        exact hb
      case measure => simp [intOf]
    · obtain ⟨m1, m2, m3⟩ := mask_u64 u1 u2 q1 (by have := HO.out.e1; omega) HO.out.l1 (by have := HO.out; have a := this.e0; have b := this.e1; have c := this.e2; have d := this.e3; have x := this.l0; have y := this.l1; have z := this.l2; have t := this.l3; omega)
      have hge : (8 : Int) ≤ (u1 : Int) := by have := HO.out; have a := this.e0; have b := this.e1; have c := this.e2; have d := this.e3; omega
      have hsg := sign_at8 q1 HO.out.l1
      have g0 : wr.cell? ⟨w.heap.size, 63, none⟩ = some (.int .u8 0) := (hblk.cell 63).trans (zs_get (n := 64) (i := 63) (l := [dg q0]) (by omega))
      have f0 := hblk.frozen 63
      have HB := Lib.hid (And.intro hbel hblk)
      clear hbel hblk
      go_wp2_with fail
      go_roundw
      case rel =>
        have hb := HB.out.2.set_ 63 (dg q1)
        refine ⟨HB.out.1.setCell (Nat.le_refl _) _, .inr (.inr (.inl ⟨rfl, rfl, ?_⟩))⟩
        have e := zs_set (n := 63) (l := [dg q0]) (x := dg q1)
        skip
        rw [← e]
        exact hb
      case measure => simp [intOf]
    · obtain ⟨m1, m2, m3⟩ := mask_u64 u2 u3 q2 (by have := HO.out.e2; omega) HO.out.l2 (by have := HO.out; have a := this.e0; have b := this.e1; have c := this.e2; have d := this.e3; have x := this.l0; have y := this.l1; have z := this.l2; have t := this.l3; omega)
      have hge : (8 : Int) ≤ (u2 : Int) := by have := HO.out; have a := this.e0; have b := this.e1; have c := this.e2; have d := this.e3; omega
      have hsg := sign_at8 q2 HO.out.l2
      have g0 : wr.cell? ⟨w.heap.size, 62, none⟩ = some (.int .u8 0) := (hblk.cell 62).trans (zs_get (n := 63) (i := 62) (l := [dg q1, dg q0]) (by omega))
      have f0 := hblk.frozen 62
      have HB := Lib.hid (And.intro hbel hblk)
      clear hbel hblk
      go_wp2_with fail
      go_roundw
      case rel =>
        have hb := HB.out.2.set_ 62 (dg q2)
        refine ⟨HB.out.1.setCell (Nat.le_refl _) _, .inr (.inr (.inr (.inl ⟨rfl, rfl, ?_⟩)))⟩
        have e := zs_set (n := 62) (l := [dg q1, dg q0]) (x := dg q2)
        skip
        rw [← e]
        exact hb
      case measure => simp [intOf]
    · obtain ⟨m1, m2, m3⟩ := mask_u64 u3 1 q3 (by have := HO.out.e3; omega) HO.out.l3 (by have := HO.out; have a := this.e0; have b := this.e1; have c := this.e2; have d := this.e3; have x := this.l0; have y := this.l1; have z := this.l2; have t := this.l3; omega)
      have hge : (8 : Int) ≤ (u3 : Int) := by have := HO.out; have a := this.e0; have b := this.e1; have c := this.e2; have d := this.e3; omega
      have hsg := sign_at8 q3 HO.out.l3
      have g0 : wr.cell? ⟨w.heap.size, 61, none⟩ = some (.int .u8 0) := (hblk.cell 61).trans (zs_get (n := 62) (i := 61) (l := [dg q2, dg q1, dg q0]) (by omega))
      have f0 := hblk.frozen 61
      have HB := Lib.hid (And.intro hbel hblk)
      clear hbel hblk
      go_wp2_with fail
      go_roundw
      case rel =>
        have hb := HB.out.2.set_ 61 (dg q3)
        refine ⟨HB.out.1.setCell (Nat.le_refl _) _, .inr (.inr (.inr (.inr ⟨rfl, rfl, ?_⟩)))⟩
        have e := zs_set (n := 61) (l := [dg q2, dg q1, dg q0]) (x := dg q3)
        skip
        rw [← e]
        exact hb
      case measure => simp [intOf]
    · have hsg : ∀ w, (Instr.index 9 (.string ⟨#[48, 49, 50, 51, 52, 53, 54, 55, 56, 57, 97, 98, 99, 100, 101, 102, 103, 104, 105, 106, 107, 108, 109, 110, 111, 112, 113, 114, 115, 116, 117, 118, 119, 120, 121, 122]⟩) (.int .u64 1)).run Tryd.prog w = .ok (.int .u8 49) w := fun w => by kernel_rfl
      have g0 : wr.cell? ⟨w.heap.size, 60, none⟩ = some (.int .u8 0) := (hblk.cell 60).trans (zs_get (n := 61) (i := 60) (l := [dg q3, dg q2, dg q1, dg q0]) (by omega))
      have f0 := hblk.frozen 60
      have hb := hblk.set_ 60 (.int .u8 49)
      have e := zs_set (n := 60) (l := [dg q3, dg q2, dg q1, dg q0]) (x := .int .u8 49)
      rw [e] at hb
      have hcv := run_convert_bytes_back (P := Tryd.prog) (wr.setCell ⟨w.heap.size, 60, none⟩ (.int .u8 49)) 64 9 5 ⟨w.heap.size, 60, none⟩ 5 [49, UInt8.ofNat (48 + q3), UInt8.ofNat (48 + q2), UInt8.ofNat (48 + q1), UInt8.ofNat (48 + q0)] Tryd.underlying64 Tryd.underlying5 Tryd.underlying9 (by
        intro j hj
        rw [Addr.add_mid]
        rw [hb.cell]
        have s0 := HO.out.l0
        have s1 := HO.out.l1
        have s2 := HO.out.l2
        have s3 := HO.out.l3
        match j, hj with
        | 0, _ => rfl
        | 1, _ => exact congrArg (fun n : Nat => some (Value.int .u8 (n : Int))) (oct_digit q3 s3).symm
        | 2, _ => exact congrArg (fun n : Nat => some (Value.int .u8 (n : Int))) (oct_digit q2 s2).symm
        | 3, _ => exact congrArg (fun n : Nat => some (Value.int .u8 (n : Int))) (oct_digit q1 s1).symm
        | 4, _ => exact congrArg (fun n : Nat => some (Value.int .u8 (n : Int))) (oct_digit q0 s0).symm)
      change Sem.run _ (convert _ _ (.slice (some ⟨w.heap.size, 60, none⟩) 5 5)) _ = _ at hcv
      have HB := Lib.hid (And.intro hbel hblk)
      clear hbel hblk hb e
      go_wp2_with fail
      go_ret2
      exact ⟨rfl, HB.out.1.setCell (Nat.le_refl _) _⟩
/-- The text of such a number. -/
def octS (q0 q1 q2 q3 : Nat) : ByteArray := ⟨#[49, UInt8.ofNat (48 + q3), UInt8.ofNat (48 + q2), UInt8.ofNat (48 + q1), UInt8.ofNat (48 + q0)]⟩
theorem intern_any (w : World) (hz : Tz w) (u0 u1 u2 u3 q0 q1 q2 q3 : Nat) (S : ByteArray) (hS : S = octS q0 q1 q2 q3) (ho : Oct u0 u1 u2 u3 q0 q1 q2 q3) :
    Calls Tryd.prog 33 #[.int .i64 u0, .int .i64 8] w fun e w' => e = .returned (.string S) ∧ Below w.heap.size w w' := by
  have HF := format_any w hz u0 u1 u2 u3 q0 q1 q2 q3 ho
  change Calls _ _ _ _ (fun e w' => e = .returned (.tuple #[.slice none 0 0, .string (octS q0 q1 q2 q3)]) ∧ _) at HF
  rw [← hS] at HF
  have HF := Lib.hid HF
  have hu : (u0 : Int) < 1000000 := by have a := ho.e0; have b := ho.e1; have c := ho.e2; have d := ho.e3; have x := ho.l0; have y := ho.l1; have z := ho.l2; have t := ho.l3; omega
  have h0 : decide ((u0 : Int) < 0) = false := by simp
  have h1 : IntKind.u64.wrap (u0 : Int) = (u0 : Int) := by rw [IntKind.wrap_u64]; omega
  clear hz ho hS
  go_enter Tryd.func33, Tryd.ntmps33
  go_wp2_with fail
  with_reducible refine HF.out.mono ?_
  rintro e w1 ⟨rfl, h1⟩
  have H1 := Lib.hid h1
  clear h1
  go_wp2_with fail
  go_ret
  exact ⟨rfl, H1.out⟩
theorem formatInt_any (w : World) (hz : Tz w) (u0 u1 u2 u3 q0 q1 q2 q3 : Nat) (S : ByteArray) (hS : S = octS q0 q1 q2 q3) (ho : Oct u0 u1 u2 u3 q0 q1 q2 q3) :
    Calls Tryd.prog 26 #[.int .i64 u0, .int .i64 8] w fun e w' => e = .returned (.string S) ∧ Below w.heap.size w w' := by
  have HF := Lib.hid (intern_any w hz u0 u1 u2 u3 q0 q1 q2 q3 S hS ho)
  clear hz ho hS
  go_enter Tryd.func26, Tryd.ntmps26
  go_wp2_with fail
  with_reducible refine HF.out.mono ?_
  rintro e w1 ⟨rfl, h1⟩
  have H1 := Lib.hid h1
  clear h1
  go_wp2_with fail
  go_ret
  exact ⟨rfl, H1.out⟩
theorem or_high : ∀ a : Nat, a < 64 → ∀ b : Nat, b < 64 → (64 * a + b) ||| 4096 = 64 * a + b + 4096 := by decide +kernel
theorem ext5 (a b c d e : UInt8) : ByteArray.extract ⟨#[a, b, c, d, e]⟩ 1 5 = ⟨#[b, c, d, e]⟩ := by rfl
theorem text_any (w : World) (hz : Tz w) (n : Int) : Calls Tryd.prog 8 #[.int .i64 n] w fun e w' => e = .returned (.string ⟨(modeText n).toArray⟩) ∧ Below w.heap.size w w' := by
  by_cases hn : 0 ≤ n ∧ n ≤ 4095
  · obtain ⟨m, rfl⟩ := Int.eq_ofNat_of_zero_le hn.1
    obtain ⟨S, hS⟩ : ∃ S, S = octS (m % 8) (m / 8 % 8) (m / 64 % 8) (m / 512) := ⟨_, rfl⟩
    have hsz : S.size = 5 := by rw [hS]; rfl
    have HE : Hid (S.extract 1 5 = ⟨(modeText (m : Int)).toArray⟩) := Lib.hid (by
      rw [hS]
      unfold modeText
      rw [if_pos hn]
      exact ext5 _ _ _ _ _)
    obtain ⟨X, hX⟩ : ∃ X : ByteArray, X = ⟨(modeText (m : Int)).toArray⟩ := ⟨_, rfl⟩
    rw [← hX] at HE ⊢
    have hor : bits .or .i64 (m : Int) 4096 = ((m + 4096 : Nat) : Int) := by
      rw [show (4096 : Int) = ((4096 : Nat) : Int) from rfl, or_nat _ _ (by omega) (by omega)]
      obtain ⟨a, b, ha, hb, rfl⟩ := split64 (m := m) (by omega)
      rw [or_high a ha b hb]
    have HO : Hid (Oct (m + 4096) (m / 8 + 512) (m / 64 + 64) (m / 512 + 8) (m % 8) (m / 8 % 8) (m / 64 % 8) (m / 512)) := Lib.hid ⟨by omega, by omega, by omega, by omega, by omega, by omega, by omega, by omega⟩
    have HN := Lib.hid hn
    obtain ⟨u, hu⟩ : ∃ u, u = m + 4096 := ⟨_, rfl⟩
    rw [← hu] at hor HO
    have HF := Lib.hid (formatInt_any w hz u _ _ _ _ _ _ _ S hS HO.out)
    clear hn hz hu hS hX HO
    go_enter Tryd.func8, Tryd.ntmps8
    go_wp2_with (first
      | (go_at_call 25; ((with_reducible refine (isMode_yes _ (m : Int) HN.out.1 HN.out.2).mono ?_); rintro e w' ⟨rfl, rfl⟩))
      | (go_at_call 26; ((with_reducible refine HF.out.mono ?_); rintro e w1 ⟨rfl, h1⟩; have H1 := Lib.hid h1; clear h1)))
    go_ret
    exact ⟨congrArg (fun s => Ending.returned (.string s)) HE.out, H1.out⟩
  · have e : modeText n = [] := by unfold modeText; rw [if_neg hn]
    rw [e]
    have HN : Hid (n < 0 ∨ 4095 < n) := Lib.hid (by omega)
    clear hn e hz
    go_enter Tryd.func8, Tryd.ntmps8
    go_wp2_with (go_at_call 25; ((with_reducible refine (isMode_no _ n HN.out).mono ?_); rintro e w' ⟨rfl, rfl⟩))
    go_ret
    exact ⟨rfl, Below.refl _ _⟩
end Go.Proofs.YtobklbangjjocaaDoor
