/-
  Build's region 33, walked in every order. Conditions: the stack of open lists stands; the cells that it reads lie so.
-/
import Derived.Test.YtodpojbgkeecnaaDoorCHalf
import Derived.Deep.RegionLaw
import Derived.IntWalk
set_option linter.unusedSimpArgs false
set_option linter.unusedVariables false
namespace Go.Proofs.YtodpojbgkeecnaaDoor
open Go.RowKit

set_option maxRecDepth 100000 in
set_option maxHeartbeats 40000000 in
theorem region33 {w W0 : World} {gs cs gg cap : Nat} {ini : List Fr} {Af : Option Addr} {cf : Nat} {fl : List T} {fx : List Value} {t : T} {k0 k1 : Int} {Ak Al : Option Addr} {nk ck nl cl : Nat} (hh : Half w gs cs gg cap ini ⟨.slice Af fl.length cf, fl, fx⟩ t (.int .i64 k0) (.int .i64 k1) (.slice Ak nk ck) (.slice Al nl cl) W0)
    (c0 c1 c2 c3 c4 c5 c6 c7 c8 c9 c10 c11 c12 c13 c14 c15 c16 c17 c18 c19 c20 c21 c22 c23 c24 c25 c26 c27 c28 c29 c30 c31 c32 c33 c34 c35 c36 c37 c38 c39 c40 c41 c42 c43 c44 c45 c46 c47 c48 c49 c50 c51 c52 c53 c54 c55 c56 c57 c58 c59 c60 c61 c62 c63 c64 c65 c66 c67 c68 c69 c70 c71 c72 c73 c74 c75 c76 c77 c78 c79 c80 c81 c82 c83 c84 c85 c86 c87 c88 c89 c90 c91 c92 c93 c94 c95 c96 c97 c98 c99 c100 c101 c102 c103 c104 c105 c106 c107 c108 c109 c110 c111 c112 c113 c114 c115 c116 c117 c118 c119 c120 c121 c122 c123 c124 c125 c126 c127 c128 c129 c130 c131 c132 c133 c134 c135 c136 c137 c138 c139 c140 c141 c142 c143 c144 c145 c146 c147 c148 c149 c150 c151 c152 c153 c154 c155 c156 c157 c158 c159 c160 c161 c162 c163 c164 c165 c166 c167 c168 c169 c170 c171 c172 c173 c174 c175 c176 c177 c178 c179 c180 c181 c182 c183 c184 c185 c186 c187 c188 c189 c192 c194 c195 c196 c197 c198 c199 c200 c201 c202 c203 c204 c205 c206 c207 c208 c209 c210 c211 c212 c213 c214 c215 c216 c217 c218 c219 c220 c221 : Value) (K : Act → World → Prop)
    (hK : ∀ (u196 : Value) (wx : World), Pushed w gs cs ini (fl ++ [t]) wx → K ⟨#[c0, c1, c2, c3, c4, c5, c6, c7, c8, c9, c10, c11, c12, c13, c14, c15, c16, c17, c18, c19, c20, c21, c22, c23, c24, c25, c26, c27, c28, c29, c30, c31, c32, c33, c34, c35, c36, c37, c38, c39, c40, c41, c42, c43, c44, c45, c46, c47, c48, c49, c50, c51, c52, c53, c54, c55, c56, c57, c58, c59, c60, c61, c62, c63, c64, c65, c66, c67, c68, c69, c70, c71, c72, c73, c74, c75, c76, c77, c78, c79, c80, c81, c82, c83, c84, c85, c86, c87, c88, c89, c90, c91, c92, c93, c94, c95, c96, c97, c98, c99, c100, c101, c102, c103, c104, c105, c106, c107, c108, c109, c110, c111, c112, c113, c114, c115, c116, c117, c118, c119, c120, c121, c122, c123, c124, c125, c126, c127, c128, c129, c130, c131, c132, c133, c134, c135, c136, c137, c138, c139, c140, c141, c142, c143, c144, c145, c146, c147, c148, c149, c150, c151, c152, c153, c154, c155, c156, c157, c158, c159, c160, c161, c162, c163, c164, c165, c166, c167, c168, c169, c170, c171, c172, c173, c174, c175, c176, c177, c178, c179, c180, c181, c182, c183, c184, c185, c186, c187, c188, c189, (.agg #[.int .i64 k0, .int .i64 k1, .slice Ak nk ck, .slice Al nl cl]), (.int .i64 (fl.length : Int)), c192, (.slice (some ⟨gg, 0, none⟩) (fl.length + 1) cap), c194, c195, u196, c197, c198, c199, c200, c201, c202, c203, c204, c205, c206, c207, c208, c209, c210, c211, c212, c213, c214, c215, c216, c217, c218, c219, c220, c221], []⟩ wx) :
    Code.wp Tryd.prog (regionAt 33) (Exit.then K (fun _ _ _ => False)) ⟨#[c0, c1, c2, c3, c4, c5, c6, c7, c8, c9, c10, c11, c12, c13, c14, c15, c16, c17, c18, c19, c20, c21, c22, c23, c24, c25, c26, c27, c28, c29, c30, c31, c32, c33, c34, c35, c36, c37, c38, c39, c40, c41, c42, c43, c44, c45, c46, c47, c48, c49, c50, c51, c52, c53, c54, c55, c56, c57, c58, c59, c60, c61, c62, c63, c64, c65, c66, c67, c68, c69, c70, c71, c72, c73, c74, c75, c76, c77, c78, c79, c80, c81, c82, c83, c84, c85, c86, c87, c88, c89, c90, c91, c92, c93, c94, c95, c96, c97, c98, c99, c100, c101, c102, c103, c104, c105, c106, c107, c108, c109, c110, c111, c112, c113, c114, c115, c116, c117, c118, c119, c120, c121, c122, c123, c124, c125, c126, c127, c128, c129, c130, c131, c132, c133, c134, c135, c136, c137, c138, c139, c140, c141, c142, c143, c144, c145, c146, c147, c148, c149, c150, c151, c152, c153, c154, c155, c156, c157, c158, c159, c160, c161, c162, c163, c164, c165, c166, c167, c168, c169, c170, c171, c172, c173, c174, c175, c176, c177, c178, c179, c180, c181, c182, c183, c184, c185, c186, c187, c188, c189, (.agg #[.int .i64 k0, .int .i64 k1, .slice Ak nk ck, .slice Al nl cl]), (.int .i64 (fl.length : Int)), c192, (.slice (some ⟨gg, 0, none⟩) (fl.length + 1) cap), c194, c195, c196, c197, c198, c199, c200, c201, c202, c203, c204, c205, c206, c207, c208, c209, c210, c211, c212, c213, c214, c215, c216, c217, c218, c219, c220, c221], []⟩ W0 := by
  obtain ⟨W, w4, HA, HI, rfl⟩ := hh
  obtain ⟨⟨y0, y1, y2, y3⟩, yf, yh, yhf, hne, _⟩ := push_facts HA.choose_spec.2.2.2.1 HA.choose_spec.2.2.2.2.1 HA.choose_spec.2.2.2.2.2.1 HA.choose_spec.2.2.2.2.2.2
  have yf0 := yf (fl.length * 4)
  have yf1 := yf (fl.length * 4 + 1)
  have yf2 := yf (fl.length * 4 + 2)
  have yf3 := yf (fl.length * 4 + 3)
  have hjx0 : (0 : Int) ≤ (fl.length : Int) := Int.natCast_nonneg _
  have hjx1 : (fl.length : Int) < ((fl.length + 1 : Nat) : Int) := by omega
  have hjx2 : (fl.length : Int) < (fl.length : Int) + 1 := by omega
  clear yf yhf
  conv => arg 2; whnf
  go_wp2_with fail
  try refine hK _ _ ?_
  refine pushed_two' HA HI ?_
  with_reducible rfl

end Go.Proofs.YtodpojbgkeecnaaDoor
