/-
  Build's region 27, walked in every order. Conditions: the stack of open lists stands; the cells that it reads lie so.
-/
import Derived.Test.YtodpojbgkeecnaaDoorCBuildPre
import Derived.Deep.RegionLaw
import Derived.IntWalk
set_option linter.unusedSimpArgs false
set_option linter.unusedVariables false
namespace Go.Proofs.YtodpojbgkeecnaaDoor
open Go.RowKit

set_option maxRecDepth 100000 in
set_option maxHeartbeats 40000000 in
theorem region27 {w W0 : World} {gs cs : Nat} {ini : List Fr} {Af : Option Addr} {cf : Nat} {fl : List T} {fx : List Value} {t : T} {k0 k1 : Int} {Ak Al : Option Addr} {nk ck nl cl : Nat} (hst : Stack W0 (w.heap.size + 1) (.slice (some ⟨gs, 0, none⟩) (ini.length + 1) cs) (ini ++ [⟨.slice Af fl.length cf, fl, fx⟩])) (hz : Blk W0 w.heap.size 26 zeroV) (hbel : Below w.heap.size w W0) (hfl : fl.length ≤ 60) (hil : ini.length ≤ 60) (hin : In W0 (fun g => w.heap.size + 1 ≤ g ∧ ¬ Live (.slice (some ⟨gs, 0, none⟩) (ini.length + 1) cs) (ini ++ [⟨.slice Af fl.length cf, fl, fx⟩]) g) t (.agg #[.int .i64 k0, .int .i64 k1, .slice Ak nk ck, .slice Al nl cl])) (e0 : W0.cell? ⟨gs, (ini.length + 1) * 4, none⟩ = some (.int .i64 k0)) (e1 : W0.cell? ⟨gs, (ini.length + 1) * 4 + 1, none⟩ = some (.int .i64 k1)) (e2 : W0.cell? ⟨gs, (ini.length + 1) * 4 + 2, none⟩ = some (.slice Ak nk ck)) (e3 : W0.cell? ⟨gs, (ini.length + 1) * 4 + 3, none⟩ = some (.slice Al nl cl))
    (c0 c1 c2 c3 c4 c6 c7 c8 c9 c10 c12 c13 c14 c15 c16 c17 c18 c19 c20 c21 c22 c23 c24 c25 c26 c27 c28 c29 c30 c31 c32 c33 c34 c35 c36 c37 c38 c39 c40 c41 c42 c43 c44 c45 c46 c47 c48 c49 c50 c51 c52 c53 c54 c55 c56 c57 c58 c59 c60 c61 c62 c63 c64 c65 c66 c67 c68 c69 c70 c71 c72 c73 c74 c75 c76 c77 c78 c79 c80 c81 c82 c83 c84 c85 c86 c87 c88 c89 c90 c91 c92 c93 c94 c95 c96 c97 c98 c99 c100 c101 c102 c103 c104 c105 c106 c107 c108 c109 c110 c111 c112 c113 c114 c115 c116 c117 c118 c119 c120 c121 c122 c123 c124 c125 c126 c127 c128 c129 c130 c131 c132 c133 c134 c135 c136 c137 c138 c139 c140 c141 c142 c143 c144 c145 c146 c147 c148 c149 c150 c151 c152 c153 c154 c155 c156 c157 c158 c159 c160 c161 c162 c163 c164 c165 c166 c167 c168 c169 c170 c171 c172 c173 c174 c175 c176 c177 c178 c179 c180 c181 c182 c183 c184 c185 c186 c187 c188 c189 c190 c191 c192 c193 c194 c195 c196 c197 c198 c199 c200 c201 c202 c203 c204 c205 c206 c207 c208 c209 c210 c211 c212 c213 c214 c215 c216 c217 c218 c219 c220 c221 : Value) (K : Act → World → Prop)
    (hK : ∀ (u150 u151 u152 u153 u154 u155 u156 u157 u158 u159 u160 u161 u162 u163 u164 u165 u166 : Value) (wx : World), Pushed w gs cs ini (fl ++ [t]) wx → K ⟨#[c0, c1, c2, c3, c4, (.slice (some ⟨gs, 0, none⟩) (ini.length + 2) cs), c6, c7, c8, c9, c10, (.int .i64 ((ini.length : Int) + 1)), c12, c13, c14, c15, c16, c17, c18, c19, c20, c21, c22, c23, c24, c25, c26, c27, c28, c29, c30, c31, c32, c33, c34, c35, c36, c37, c38, c39, c40, c41, c42, c43, c44, c45, c46, c47, c48, c49, c50, c51, c52, c53, c54, c55, c56, c57, c58, c59, c60, c61, c62, c63, c64, c65, c66, c67, c68, c69, c70, c71, c72, c73, c74, c75, c76, c77, c78, c79, c80, c81, c82, c83, c84, c85, c86, c87, c88, c89, c90, c91, c92, c93, c94, c95, c96, c97, c98, c99, c100, c101, c102, c103, c104, c105, c106, c107, c108, c109, c110, c111, c112, c113, c114, c115, c116, c117, c118, c119, c120, c121, c122, c123, c124, c125, c126, c127, c128, c129, c130, c131, c132, c133, c134, c135, c136, c137, c138, c139, c140, c141, c142, c143, c144, c145, c146, c147, c148, c149, u150, u151, u152, u153, u154, u155, u156, u157, u158, u159, u160, u161, u162, u163, u164, u165, u166, c167, c168, c169, c170, c171, c172, c173, c174, c175, c176, c177, c178, c179, c180, c181, c182, c183, c184, c185, c186, c187, c188, c189, c190, c191, c192, c193, c194, c195, c196, c197, c198, c199, c200, c201, c202, c203, c204, c205, c206, c207, c208, c209, c210, c211, c212, c213, c214, c215, c216, c217, c218, c219, c220, c221], []⟩ wx) :
    Code.wp Tryd.prog (regionAt 27) (Exit.then K (fun _ _ _ => False)) ⟨#[c0, c1, c2, c3, c4, (.slice (some ⟨gs, 0, none⟩) (ini.length + 2) cs), c6, c7, c8, c9, c10, (.int .i64 ((ini.length : Int) + 1)), c12, c13, c14, c15, c16, c17, c18, c19, c20, c21, c22, c23, c24, c25, c26, c27, c28, c29, c30, c31, c32, c33, c34, c35, c36, c37, c38, c39, c40, c41, c42, c43, c44, c45, c46, c47, c48, c49, c50, c51, c52, c53, c54, c55, c56, c57, c58, c59, c60, c61, c62, c63, c64, c65, c66, c67, c68, c69, c70, c71, c72, c73, c74, c75, c76, c77, c78, c79, c80, c81, c82, c83, c84, c85, c86, c87, c88, c89, c90, c91, c92, c93, c94, c95, c96, c97, c98, c99, c100, c101, c102, c103, c104, c105, c106, c107, c108, c109, c110, c111, c112, c113, c114, c115, c116, c117, c118, c119, c120, c121, c122, c123, c124, c125, c126, c127, c128, c129, c130, c131, c132, c133, c134, c135, c136, c137, c138, c139, c140, c141, c142, c143, c144, c145, c146, c147, c148, c149, c150, c151, c152, c153, c154, c155, c156, c157, c158, c159, c160, c161, c162, c163, c164, c165, c166, c167, c168, c169, c170, c171, c172, c173, c174, c175, c176, c177, c178, c179, c180, c181, c182, c183, c184, c185, c186, c187, c188, c189, c190, c191, c192, c193, c194, c195, c196, c197, c198, c199, c200, c201, c202, c203, c204, c205, c206, c207, c208, c209, c210, c211, c212, c213, c214, c215, c216, c217, c218, c219, c220, c221], []⟩ W0 := by
  obtain ⟨i1, hj, hy0, hy1, hy2⟩ := info_parts tinfo
  have HJ := Lib.hid (And.intro hj (And.intro hy0 (And.intro hy1 hy2)))
  have q3 := ownsRow_cell hst.row (g := gs) rfl (cellsOf_top ini ⟨.slice Af fl.length cf, fl, fx⟩).2.2.2
  have q3' := later_cell (.cells #[.int .i64 0, .int .i64 0, .slice none 0 0, .slice none 0 0] 26) q3
  have HST := Lib.hid hst
  have HZ := Lib.hid hz
  have HB := Lib.hid hbel
  clear hj hy0 hy1 hy2 hst hz hbel
  have hix0 : (0 : Int) ≤ (ini.length : Int) := Int.natCast_nonneg _
  have hix1 : (ini.length : Int) < ((ini.length + 1 : Nat) : Int) := by omega
  have hix2 : (ini.length : Int) < (ini.length : Int) + 1 := by omega
  have hjx0 : (0 : Int) ≤ (fl.length : Int) := Int.natCast_nonneg _
  have hjx1 : (fl.length : Int) < ((fl.length + 1 : Nat) : Int) := by omega
  have hjx2 : (fl.length : Int) < (fl.length : Int) + 1 := by omega
  have hsub : (ini.length : Int) + 1 - 1 = (ini.length : Int) := by omega
  have htx0 : (0 : Int) ≤ (ini.length : Int) + 1 := by omega
  have htx1 : (ini.length : Int) + 1 < ((ini.length + 2 : Nat) : Int) := by omega
  have htx2 : (ini.length : Int) + 1 < (ini.length : Int) + 2 := by omega
  have htx3 : (ini.length : Int) < ((ini.length + 2 : Nat) : Int) := by omega
  have htx4 : (ini.length : Int) < (ini.length : Int) + 2 := by omega
  have htn : ((ini.length : Int) + 1).toNat = ini.length + 1 := by omega
  have hwr := IntWalk.i64_in (ini.length : Int) (by omega)
  have e0' := later_cell (.cells #[.int .i64 0, .int .i64 0, .slice none 0 0, .slice none 0 0] 26) e0
  have e1' := later_cell (.cells #[.int .i64 0, .int .i64 0, .slice none 0 0, .slice none 0 0] 26) e1
  have e2' := later_cell (.cells #[.int .i64 0, .int .i64 0, .slice none 0 0, .slice none 0 0] 26) e2
  have e3' := later_cell (.cells #[.int .i64 0, .int .i64 0, .slice none 0 0, .slice none 0 0] 26) e3
  have HIN := Lib.hid hin
  clear hin
  have q3e := later_cell (.cells #[.int .i64 k0, .int .i64 k1, .slice Ak nk ck, .slice Al nl cl] 26) q3
  conv => arg 2; whnf
  go_region_law (first
    | (refine step_append_lies _ rfl (.tmp 158) (.tmp 163) 24 rfl (w.heap.size + 1) 26 i1 (.agg #[.int .i64 0, .int .i64 0, .slice none 0 0, .slice none 0 0]) 4 64 Tryd.underlying24 HJ.out.1 HJ.out.2.1 HJ.out.2.2.1 HJ.out.2.2.2 rfl (by decide) (.slice Af fl.length cf) fl.length fx rfl ((HST.out.drew.alloc (.cells #[.int .i64 k0, .int .i64 k1, .slice Ak nk ck, .slice Al nl cl] 26)).each ⟨.slice Af fl.length cf, fl, fx⟩ (by simp)).1 ⟨W0.heap.size, 0, none⟩ 1 1 [.int .i64 k0, .int .i64 k1, .slice Ak nk ck, .slice Al nl cl] rfl rfl (new_four W0.drew _ _ _ _ _) (by simp [Value.oneCell']) (by decide) (by unfold maxLen; omega) (by omega) (by have := HST.out.row.lt gs rfl; have := ((Below.refl W0.heap.size W0).drew.alloc (Nat.le_refl _) (.cells #[.int .i64 k0, .int .i64 k1, .slice Ak nk ck, .slice Al nl cl] 26)).size; simp at *; omega) _ rfl ?_; intro gg cap w4 ho4 hg4 hat hlt4; have HPW := Lib.hid ((Below.refl W0.heap.size W0).drew.alloc (Nat.le_refl _) (.cells #[.int .i64 k0, .int .i64 k1, .slice Ak nk ck, .slice Al nl cl] 26)); have HP := Lib.hid (And.intro (HST.out.drew.alloc (.cells #[.int .i64 k0, .int .i64 k1, .slice Ak nk ck, .slice Al nl cl] 26)) (And.intro ho4 (And.intro hg4 (push_le hat)))); have HA := Lib.hid (show PushedAll w _ w4 gs cs gg cap ini ⟨.slice Af fl.length cf, fl, fx⟩ t [.int .i64 k0, .int .i64 k1, .slice Ak nk ck, .slice Al nl cl] from ⟨_, HZ.out, HB.out, HPW.out, HP.out⟩); obtain ⟨⟨y0, y1, y2, y3⟩, yf, yh, yhf, hne, _⟩ := push_facts (f := ⟨.slice Af fl.length cf, fl, fx⟩) HP.out.1 HP.out.2.1 HP.out.2.2.1 HP.out.2.2.2; have yf0 := yf (fl.length * 4); have yf1 := yf (fl.length * 4 + 1); have yf2 := yf (fl.length * 4 + 2); have yf3 := yf (fl.length * 4 + 3); have yh3 := yhf (ini.length * 4 + 3); clear ho4 hg4 hat hlt4 yf yhf)
    | (refine step_append_lies _ rfl (.tmp 158) (.tmp 163) 24 rfl (w.heap.size + 1) 26 i1 (.agg #[.int .i64 0, .int .i64 0, .slice none 0 0, .slice none 0 0]) 4 64 Tryd.underlying24 HJ.out.1 HJ.out.2.1 HJ.out.2.2.1 HJ.out.2.2.2 rfl (by decide) (.slice Af fl.length cf) fl.length fx rfl (((HST.out.alloc (.cells #[.int .i64 k0, .int .i64 k1, .slice Ak nk ck, .slice Al nl cl] 26)).drew).each ⟨.slice Af fl.length cf, fl, fx⟩ (by simp)).1 ⟨W0.heap.size, 0, none⟩ 1 1 [.int .i64 k0, .int .i64 k1, .slice Ak nk ck, .slice Al nl cl] rfl rfl (new_four W0 _ _ _ _ _) (by simp [Value.oneCell']) (by decide) (by unfold maxLen; omega) (by omega) (by have := HST.out.row.lt gs rfl; have := (((Below.refl W0.heap.size W0).alloc (Nat.le_refl _) (.cells #[.int .i64 k0, .int .i64 k1, .slice Ak nk ck, .slice Al nl cl] 26)).drew).size; simp at *; omega) _ rfl ?_; intro gg cap w4 ho4 hg4 hat hlt4; have HPW := Lib.hid (((Below.refl W0.heap.size W0).alloc (Nat.le_refl _) (.cells #[.int .i64 k0, .int .i64 k1, .slice Ak nk ck, .slice Al nl cl] 26)).drew); have HP := Lib.hid (And.intro ((HST.out.alloc (.cells #[.int .i64 k0, .int .i64 k1, .slice Ak nk ck, .slice Al nl cl] 26)).drew) (And.intro ho4 (And.intro hg4 (push_le hat)))); have HA := Lib.hid (show PushedAll w _ w4 gs cs gg cap ini ⟨.slice Af fl.length cf, fl, fx⟩ t [.int .i64 k0, .int .i64 k1, .slice Ak nk ck, .slice Al nl cl] from ⟨_, HZ.out, HB.out, HPW.out, HP.out⟩); obtain ⟨⟨y0, y1, y2, y3⟩, yf, yh, yhf, hne, _⟩ := push_facts (f := ⟨.slice Af fl.length cf, fl, fx⟩) HP.out.1 HP.out.2.1 HP.out.2.2.1 HP.out.2.2.2; have yf0 := yf (fl.length * 4); have yf1 := yf (fl.length * 4 + 1); have yf2 := yf (fl.length * 4 + 2); have yf3 := yf (fl.length * 4 + 3); have yh3 := yhf (ini.length * 4 + 3); clear ho4 hg4 hat hlt4 yf yhf))
  all_goals
    refine hK _ _ _ _ _ _ _ _ _ _ _ _ _ _ _ _ _ _ ?_
    refine pushed_whole' HA.out (HIN.out.below HPW.out) ?_
    with_reducible rfl

end Go.Proofs.YtodpojbgkeecnaaDoor
