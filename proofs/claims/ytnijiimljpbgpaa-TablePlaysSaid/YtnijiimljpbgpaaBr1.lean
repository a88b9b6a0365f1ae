/-
  A branch of the law's switch, each a theorem of its own: what one call leaves of the table and of the law's two rows.
-/
import Derived.Test.YtnijiimljpbgpaaPlB
import Derived.Test.YtnijiimljpbgpaaReg
import Derived.Deep.QuietTactic
import Derived.BigQuiet
import Derived.Deep.Cut
import Derived.Test.YtnijiimljpbgpaaBrD
set_option linter.unusedVariables false
set_option linter.unusedSimpArgs false
namespace Go.Proofs.Ytnijiimljpbgpaa.PL
open Go.RowKit Go.Proofs.Ytnijiimljpbgpaa.Kit Go.Proofs.Ytnijiimljpbgpaa.Arg

set_option maxHeartbeats 0 in
set_option maxRecDepth 100000 in
theorem br1no {w wc : World} {T room m L j n P c c7 c8 : Nat} {ps : List TI.PR} {A7 A8 : Option Addr} {D K V a0 : Int} {ad : Addr}
    (hm : m ≤ j) (hLm : L ≤ m) (hj : j ≤ n) (hlt : j < n) (hn6 : n ≤ 200) (HLO : Hid (lo Cmp.cmpI K ps = L)) (HH : Hid (hit Cmp.cmpI K ps = false))
    (HRC : Hid (Rl w wc T room ps m A7 c7 A8 c8)) (HPC : Hid (Row wc P 28 [.int .i64 D, .int .i64 K, .int .i64 V]))
    (d0 : (D == 0) = false) (d1 : (D == 1) = true)
    (J KK : Act → World → Prop) (hKK : ∀ (a' : Act) (w' : World), Met J a' w' → KK a' w')
    (u2 u3 u4 u9 u13 u14 u15 u16 u17 u18 u19 u20 u21 u22 u23 u24 u25 u26 u27 u28 u29 u30 u31 u32 u33 u37 u38 u39 u40 u41 u42 u43 u44 u45 u46 u47 u48 u49 u50 u51 u52 u53 u54 u55 u56 u57 u58 u59 u60 u61 u62 u63 u64 u65 u66 u67 u70 u71 u72 u73 u74 u75 u76 u77 u78 u79 u80 u81 u82 u83 u84 u85 u86 u87 u88 u89 u90 u91 u92 u93 u94 u95 u96 u97 u98 u99 u100 u101 u102 u103 u104 u105 u106 u107 u108 u109 u110 u111 u112 u113 u114 u115 u116 u117 u118 u119 u120 u121 u122 u123 u124 u125 u126 u127 u128 u129 u130 u131 u132 u133 u134 u135 u136 u137 u138 u139 u140 u141 u142 u143 u144 u145 u146 u147 u148 u149 u150 u151 u152 u153 u154 u155 u156 u157 u158 u159 u160 u161 u162 u163 u164 u165 u166 u167 u168 u169 u170 u171 u172 u173 u174 u175 u176 u177 u178 u179 u180 u181 u182 u183 u184 u185 u186 u187 u188 u189 u190 u191 u192 u193 u194 u195 u196 u197 u198 u199 u200 u201 u202 u203 u204 u205 u206 u207 u208 u209 u210 u211 u212 u213 u214 u215 u216 u217 u218 u219 u220 u221 u222 u223 u224 u225 u226 u227 u228 u229 u230 u231 u232 u233 u234 u235 u236 u237 u238 u239 u240 u241 u242 u243 u244 u245 u246 u247 u248 u249 u250 u251 u252 u253 u254 u255 u256 u257 u258 u259 u260 u261 u262 u263 u264 u265 u266 u267 u268 u269 u270 u271 u272 u273 u274 u275 u276 u277 u278 u279 u280 u281 u282 u283 u284 u285 u286 u287 u288 u289 u290 u291 u292 u293 : Value)
    (hJ : ∀ (m' : Nat) (ps' : List TI.PR) (A5 A6 : Option Addr) (c5 c6 : Nat) (y4 y13 y14 y15 y16 y17 y18 y19 y20 y21 y22 y70 y71 y72 y73 y74 y75 y76 y77 y78 y79 y80 y81 y82 y83 y84 y85 y86 y87 y88 y89 y90 y91 y92 y93 y94 y95 y96 y97 y98 y99 y100 y101 y102 y103 y104 y105 y106 y107 y108 y109 y110 y111 y112 y113 y114 y115 y116 y117 y118 y119 y120 y121 y122 y123 y124 y125 y126 y127 y128 y129 y130 y131 y132 y133 y134 y135 y136 y137 y138 y139 y140 y141 y142 y143 y144 y145 y146 y147 y148 y149 y150 y151 y152 y153 y154 y155 y156 y157 y158 y159 y160 y161 y162 y163 y164 y165 y166 y167 y168 y169 y170 y171 y172 y173 y174 y175 y176 y177 y178 y179 y180 y181 y182 y183 y184 y185 y186 y187 y188 y189 y190 y191 y192 y193 y194 y195 y196 y197 y198 y199 y200 y201 y202 y203 y204 y205 y206 y207 y208 y209 y210 y211 y212 y213 y214 y215 y216 y217 y218 y219 y220 y221 y222 y223 y224 y225 y226 y227 y228 y229 y230 y231 y232 y233 y234 y235 y236 y237 y238 y239 y240 y241 y242 y243 y244 y245 y246 y247 y248 y249 y250 y251 y252 y253 y254 y255 y256 y257 y258 y259 y260 y261 y262 y263 y264 : Value) (wx : World), m' ≤ j + 1 → Hid (Rl w wx T room ps' m' A5 c5 A6 c6) →
      J ⟨#[.int .i64 a0, .slice (some ad) n c, u2, u3, y4, .pointer (some ⟨T, 0, none⟩), .int .i64 room, .slice A5 m' c5, .slice A6 m' c6, u9, .pointer (some ⟨P, 0, none⟩), .int .i64 L,
      .bool false, y13, y14, y15, y16, y17, y18, y19, y20, y21, y22, u23,
      u24, u25, u26, u27, u28, u29, u30, u31, u32, u33, .slice (some ad) n c, .int .i64 n,
      .int .i64 j, u37, u38, u39, u40, u41, u42, u43, u44, u45, u46, u47,
      u48, u49, u50, u51, u52, u53, u54, u55, u56, u57, u58, u59,
      u60, u61, u62, u63, u64, u65, u66, u67, .pointer (some ⟨P, 0, none⟩), .int .i64 D, y70, y71,
      y72, y73, y74, y75, y76, y77, y78, y79, y80, y81, y82, y83,
      y84, y85, y86, y87, y88, y89, y90, y91, y92, y93, y94, y95,
      y96, y97, y98, y99, y100, y101, y102, y103, y104, y105, y106, y107,
      y108, y109, y110, y111, y112, y113, y114, y115, y116, y117, y118, y119,
      y120, y121, y122, y123, y124, y125, y126, y127, y128, y129, y130, y131,
      y132, y133, y134, y135, y136, y137, y138, y139, y140, y141, y142, y143,
      y144, y145, y146, y147, y148, y149, y150, y151, y152, y153, y154, y155,
      y156, y157, y158, y159, y160, y161, y162, y163, y164, y165, y166, y167,
      y168, y169, y170, y171, y172, y173, y174, y175, y176, y177, y178, y179,
      y180, y181, y182, y183, y184, y185, y186, y187, y188, y189, y190, y191,
      y192, y193, y194, y195, y196, y197, y198, y199, y200, y201, y202, y203,
      y204, y205, y206, y207, y208, y209, y210, y211, y212, y213, y214, y215,
      y216, y217, y218, y219, y220, y221, y222, y223, y224, y225, y226, y227,
      y228, y229, y230, y231, y232, y233, y234, y235, y236, y237, y238, y239,
      y240, y241, y242, y243, y244, y245, y246, y247, y248, y249, y250, y251,
      y252, y253, y254, y255, y256, y257, y258, y259, y260, y261, y262, y263,
      y264, u265, u266, u267, u268, u269, u270, u271, u272, u273, u274, u275,
      u276, u277, u278, u279, u280, u281, u282, u283, u284, u285, u286, u287,
      u288, u289, u290, u291, u292, u293], []⟩ wx) :
    code4.wp Try.prog (Exit.then KK NoExit) ⟨#[.int .i64 a0, .slice (some ad) n c, u2, u3, u4, .pointer (some ⟨T, 0, none⟩), .int .i64 room, .slice A7 m c7, .slice A8 m c8, u9, .pointer (some ⟨P, 0, none⟩), .int .i64 L,
      .bool false, u13, u14, u15, u16, u17, u18, u19, u20, u21, u22, u23,
      u24, u25, u26, u27, u28, u29, u30, u31, u32, u33, .slice (some ad) n c, .int .i64 n,
      .int .i64 j, u37, u38, u39, u40, u41, u42, u43, u44, u45, u46, u47,
      u48, u49, u50, u51, u52, u53, u54, u55, u56, u57, u58, u59,
      u60, u61, u62, u63, u64, u65, u66, u67, .pointer (some ⟨P, 0, none⟩), .int .i64 D, u70, u71,
      u72, u73, u74, u75, u76, u77, u78, u79, u80, u81, u82, u83,
      u84, u85, u86, u87, u88, u89, u90, u91, u92, u93, u94, u95,
      u96, u97, u98, u99, u100, u101, u102, u103, u104, u105, u106, u107,
      u108, u109, u110, u111, u112, u113, u114, u115, u116, u117, u118, u119,
      u120, u121, u122, u123, u124, u125, u126, u127, u128, u129, u130, u131,
      u132, u133, u134, u135, u136, u137, u138, u139, u140, u141, u142, u143,
      u144, u145, u146, u147, u148, u149, u150, u151, u152, u153, u154, u155,
      u156, u157, u158, u159, u160, u161, u162, u163, u164, u165, u166, u167,
      u168, u169, u170, u171, u172, u173, u174, u175, u176, u177, u178, u179,
      u180, u181, u182, u183, u184, u185, u186, u187, u188, u189, u190, u191,
      u192, u193, u194, u195, u196, u197, u198, u199, u200, u201, u202, u203,
      u204, u205, u206, u207, u208, u209, u210, u211, u212, u213, u214, u215,
      u216, u217, u218, u219, u220, u221, u222, u223, u224, u225, u226, u227,
      u228, u229, u230, u231, u232, u233, u234, u235, u236, u237, u238, u239,
      u240, u241, u242, u243, u244, u245, u246, u247, u248, u249, u250, u251,
      u252, u253, u254, u255, u256, u257, u258, u259, u260, u261, u262, u263,
      u264, u265, u266, u267, u268, u269, u270, u271, u272, u273, u274, u275,
      u276, u277, u278, u279, u280, u281, u282, u283, u284, u285, u286, u287,
      u288, u289, u290, u291, u292, u293], []⟩ wc := by
  have hp0 : wc.cell? ⟨P, 0, none⟩ = some (.int .i64 D) := HPC.out.cell 0
  have hp1 : wc.cell? ⟨P, 1, none⟩ = some (.int .i64 K) := HPC.out.cell 1
  have hp2 : wc.cell? ⟨P, 2, none⟩ = some (.int .i64 V) := HPC.out.cell 2
  have HJ := Lib.hid hJ
  clear hJ
  have HKK := hKK
  clear hKK
  conv => arg 2; whnf
  have P0 := Lib.hid (TI.cut_no HRC.out.tab K HH.out)
  go_wp2_with fail
  refine P0.out.mono ?_
  rintro e w5 ⟨rfl, hb5⟩
  have HR8 := Lib.hid (HRC.out.below hb5)
  clear hb5 hp0 hp1 hp2
  go_simp
  go_wp2
  exact Met.intro (HJ.out _ _ _ _ _ _ _ _ _ _ _ _ _ _ _ _ _ _ _ _ _ _ _ _ _ _ _ _ _ _ _ _ _ _ _ _ _ _ _ _ _ _ _ _ _ _ _ _ _ _ _ _ _ _ _ _ _ _ _ _ _ _ _ _ _ _ _ _ _ _ _ _ _ _ _ _ _ _ _ _ _ _ _ _ _ _ _ _ _ _ _ _ _ _ _ _ _ _ _ _ _ _ _ _ _ _ _ _ _ _ _ _ _ _ _ _ _ _ _ _ _ _ _ _ _ _ _ _ _ _ _ _ _ _ _ _ _ _ _ _ _ _ _ _ _ _ _ _ _ _ _ _ _ _ _ _ _ _ _ _ _ _ _ _ _ _ _ _ _ _ _ _ _ _ _ _ _ _ _ _ _ _ _ _ _ _ _ _ _ _ _ _ _ _ _ _ _ _ _ _ _ _ _ _ _ _ _ _ _ _ _ _ _ (by omega) HR8)

set_option maxHeartbeats 0 in
set_option maxRecDepth 100000 in
theorem br2hit {w wc : World} {T room m L j n P c c7 c8 : Nat} {ps : List TI.PR} {A7 A8 : Option Addr} {D K V a0 : Int} {ad : Addr}
    (hm : m ≤ j) (hLm : L ≤ m) (hj : j ≤ n) (hlt : j < n) (hn6 : n ≤ 200) (HLO : Hid (lo Cmp.cmpI K ps = L)) (HH : Hid (hit Cmp.cmpI K ps = true))
    (HRC : Hid (Rl w wc T room ps m A7 c7 A8 c8)) (HPC : Hid (Row wc P 28 [.int .i64 D, .int .i64 K, .int .i64 V]))
    (d0 : (D == 0) = false) (d1 : (D == 1) = false) (d2 : (D == 2) = true)
    (J KK : Act → World → Prop) (hKK : ∀ (a' : Act) (w' : World), Met J a' w' → KK a' w')
    (u2 u3 u4 u9 u13 u14 u15 u16 u17 u18 u19 u20 u21 u22 u23 u24 u25 u26 u27 u28 u29 u30 u31 u32 u33 u37 u38 u39 u40 u41 u42 u43 u44 u45 u46 u47 u48 u49 u50 u51 u52 u53 u54 u55 u56 u57 u58 u59 u60 u61 u62 u63 u64 u65 u66 u67 u70 u71 u72 u73 u74 u75 u76 u77 u78 u79 u80 u81 u82 u83 u84 u85 u86 u87 u88 u89 u90 u91 u92 u93 u94 u95 u96 u97 u98 u99 u100 u101 u102 u103 u104 u105 u106 u107 u108 u109 u110 u111 u112 u113 u114 u115 u116 u117 u118 u119 u120 u121 u122 u123 u124 u125 u126 u127 u128 u129 u130 u131 u132 u133 u134 u135 u136 u137 u138 u139 u140 u141 u142 u143 u144 u145 u146 u147 u148 u149 u150 u151 u152 u153 u154 u155 u156 u157 u158 u159 u160 u161 u162 u163 u164 u165 u166 u167 u168 u169 u170 u171 u172 u173 u174 u175 u176 u177 u178 u179 u180 u181 u182 u183 u184 u185 u186 u187 u188 u189 u190 u191 u192 u193 u194 u195 u196 u197 u198 u199 u200 u201 u202 u203 u204 u205 u206 u207 u208 u209 u210 u211 u212 u213 u214 u215 u216 u217 u218 u219 u220 u221 u222 u223 u224 u225 u226 u227 u228 u229 u230 u231 u232 u233 u234 u235 u236 u237 u238 u239 u240 u241 u242 u243 u244 u245 u246 u247 u248 u249 u250 u251 u252 u253 u254 u255 u256 u257 u258 u259 u260 u261 u262 u263 u264 u265 u266 u267 u268 u269 u270 u271 u272 u273 u274 u275 u276 u277 u278 u279 u280 u281 u282 u283 u284 u285 u286 u287 u288 u289 u290 u291 u292 u293 : Value)
    (hJ : ∀ (m' : Nat) (ps' : List TI.PR) (A5 A6 : Option Addr) (c5 c6 : Nat) (y4 y13 y14 y15 y16 y17 y18 y19 y20 y21 y22 y70 y71 y72 y73 y74 y75 y76 y77 y78 y79 y80 y81 y82 y83 y84 y85 y86 y87 y88 y89 y90 y91 y92 y93 y94 y95 y96 y97 y98 y99 y100 y101 y102 y103 y104 y105 y106 y107 y108 y109 y110 y111 y112 y113 y114 y115 y116 y117 y118 y119 y120 y121 y122 y123 y124 y125 y126 y127 y128 y129 y130 y131 y132 y133 y134 y135 y136 y137 y138 y139 y140 y141 y142 y143 y144 y145 y146 y147 y148 y149 y150 y151 y152 y153 y154 y155 y156 y157 y158 y159 y160 y161 y162 y163 y164 y165 y166 y167 y168 y169 y170 y171 y172 y173 y174 y175 y176 y177 y178 y179 y180 y181 y182 y183 y184 y185 y186 y187 y188 y189 y190 y191 y192 y193 y194 y195 y196 y197 y198 y199 y200 y201 y202 y203 y204 y205 y206 y207 y208 y209 y210 y211 y212 y213 y214 y215 y216 y217 y218 y219 y220 y221 y222 y223 y224 y225 y226 y227 y228 y229 y230 y231 y232 y233 y234 y235 y236 y237 y238 y239 y240 y241 y242 y243 y244 y245 y246 y247 y248 y249 y250 y251 y252 y253 y254 y255 y256 y257 y258 y259 y260 y261 y262 y263 y264 : Value) (wx : World), m' ≤ j + 1 → Hid (Rl w wx T room ps' m' A5 c5 A6 c6) →
      J ⟨#[.int .i64 a0, .slice (some ad) n c, u2, u3, y4, .pointer (some ⟨T, 0, none⟩), .int .i64 room, .slice A5 m' c5, .slice A6 m' c6, u9, .pointer (some ⟨P, 0, none⟩), .int .i64 L,
      .bool true, y13, y14, y15, y16, y17, y18, y19, y20, y21, y22, u23,
      u24, u25, u26, u27, u28, u29, u30, u31, u32, u33, .slice (some ad) n c, .int .i64 n,
      .int .i64 j, u37, u38, u39, u40, u41, u42, u43, u44, u45, u46, u47,
      u48, u49, u50, u51, u52, u53, u54, u55, u56, u57, u58, u59,
      u60, u61, u62, u63, u64, u65, u66, u67, .pointer (some ⟨P, 0, none⟩), .int .i64 D, y70, y71,
      y72, y73, y74, y75, y76, y77, y78, y79, y80, y81, y82, y83,
      y84, y85, y86, y87, y88, y89, y90, y91, y92, y93, y94, y95,
      y96, y97, y98, y99, y100, y101, y102, y103, y104, y105, y106, y107,
      y108, y109, y110, y111, y112, y113, y114, y115, y116, y117, y118, y119,
      y120, y121, y122, y123, y124, y125, y126, y127, y128, y129, y130, y131,
      y132, y133, y134, y135, y136, y137, y138, y139, y140, y141, y142, y143,
      y144, y145, y146, y147, y148, y149, y150, y151, y152, y153, y154, y155,
      y156, y157, y158, y159, y160, y161, y162, y163, y164, y165, y166, y167,
      y168, y169, y170, y171, y172, y173, y174, y175, y176, y177, y178, y179,
      y180, y181, y182, y183, y184, y185, y186, y187, y188, y189, y190, y191,
      y192, y193, y194, y195, y196, y197, y198, y199, y200, y201, y202, y203,
      y204, y205, y206, y207, y208, y209, y210, y211, y212, y213, y214, y215,
      y216, y217, y218, y219, y220, y221, y222, y223, y224, y225, y226, y227,
      y228, y229, y230, y231, y232, y233, y234, y235, y236, y237, y238, y239,
      y240, y241, y242, y243, y244, y245, y246, y247, y248, y249, y250, y251,
      y252, y253, y254, y255, y256, y257, y258, y259, y260, y261, y262, y263,
      y264, u265, u266, u267, u268, u269, u270, u271, u272, u273, u274, u275,
      u276, u277, u278, u279, u280, u281, u282, u283, u284, u285, u286, u287,
      u288, u289, u290, u291, u292, u293], []⟩ wx) :
    code4.wp Try.prog (Exit.then KK NoExit) ⟨#[.int .i64 a0, .slice (some ad) n c, u2, u3, u4, .pointer (some ⟨T, 0, none⟩), .int .i64 room, .slice A7 m c7, .slice A8 m c8, u9, .pointer (some ⟨P, 0, none⟩), .int .i64 L,
      .bool true, u13, u14, u15, u16, u17, u18, u19, u20, u21, u22, u23,
      u24, u25, u26, u27, u28, u29, u30, u31, u32, u33, .slice (some ad) n c, .int .i64 n,
      .int .i64 j, u37, u38, u39, u40, u41, u42, u43, u44, u45, u46, u47,
      u48, u49, u50, u51, u52, u53, u54, u55, u56, u57, u58, u59,
      u60, u61, u62, u63, u64, u65, u66, u67, .pointer (some ⟨P, 0, none⟩), .int .i64 D, u70, u71,
      u72, u73, u74, u75, u76, u77, u78, u79, u80, u81, u82, u83,
      u84, u85, u86, u87, u88, u89, u90, u91, u92, u93, u94, u95,
      u96, u97, u98, u99, u100, u101, u102, u103, u104, u105, u106, u107,
      u108, u109, u110, u111, u112, u113, u114, u115, u116, u117, u118, u119,
      u120, u121, u122, u123, u124, u125, u126, u127, u128, u129, u130, u131,
      u132, u133, u134, u135, u136, u137, u138, u139, u140, u141, u142, u143,
      u144, u145, u146, u147, u148, u149, u150, u151, u152, u153, u154, u155,
      u156, u157, u158, u159, u160, u161, u162, u163, u164, u165, u166, u167,
      u168, u169, u170, u171, u172, u173, u174, u175, u176, u177, u178, u179,
      u180, u181, u182, u183, u184, u185, u186, u187, u188, u189, u190, u191,
      u192, u193, u194, u195, u196, u197, u198, u199, u200, u201, u202, u203,
      u204, u205, u206, u207, u208, u209, u210, u211, u212, u213, u214, u215,
      u216, u217, u218, u219, u220, u221, u222, u223, u224, u225, u226, u227,
      u228, u229, u230, u231, u232, u233, u234, u235, u236, u237, u238, u239,
      u240, u241, u242, u243, u244, u245, u246, u247, u248, u249, u250, u251,
      u252, u253, u254, u255, u256, u257, u258, u259, u260, u261, u262, u263,
      u264, u265, u266, u267, u268, u269, u270, u271, u272, u273, u274, u275,
      u276, u277, u278, u279, u280, u281, u282, u283, u284, u285, u286, u287,
      u288, u289, u290, u291, u292, u293], []⟩ wc := by
  have hp0 : wc.cell? ⟨P, 0, none⟩ = some (.int .i64 D) := HPC.out.cell 0
  have hp1 : wc.cell? ⟨P, 1, none⟩ = some (.int .i64 K) := HPC.out.cell 1
  have hp2 : wc.cell? ⟨P, 2, none⟩ = some (.int .i64 V) := HPC.out.cell 2
  have HJ := Lib.hid hJ
  clear hJ
  have HKK := hKK
  clear hKK
  conv => arg 2; whnf
  obtain ⟨v, hv⟩ := (hit_iff Cmp.ordI).1 HH.out
  have P0 := Lib.hid (TI.get_yes HRC.out.tab K v hv)
  rw [HLO.out] at hv
  have hLl : (L : Int) < (m : Int) := by have h1 := (List.getElem?_eq_some_iff.1 hv).1; have h3 := HRC.out.len; omega
  have HV := Lib.hid hv
  clear hv
  go_wp2_with fail
  refine P0.out.mono ?_
  rintro e w5 ⟨rfl, hb5⟩
  obtain ⟨ad8, rfl, hc8⟩ := HRC.out.val hb5 HV.out
  have HR8 := Lib.hid (HRC.out.below hb5)
  clear hb5 hp0 hp1 hp2
  go_simp
  go_wp2
  exact Met.intro (HJ.out _ _ _ _ _ _ _ _ _ _ _ _ _ _ _ _ _ _ _ _ _ _ _ _ _ _ _ _ _ _ _ _ _ _ _ _ _ _ _ _ _ _ _ _ _ _ _ _ _ _ _ _ _ _ _ _ _ _ _ _ _ _ _ _ _ _ _ _ _ _ _ _ _ _ _ _ _ _ _ _ _ _ _ _ _ _ _ _ _ _ _ _ _ _ _ _ _ _ _ _ _ _ _ _ _ _ _ _ _ _ _ _ _ _ _ _ _ _ _ _ _ _ _ _ _ _ _ _ _ _ _ _ _ _ _ _ _ _ _ _ _ _ _ _ _ _ _ _ _ _ _ _ _ _ _ _ _ _ _ _ _ _ _ _ _ _ _ _ _ _ _ _ _ _ _ _ _ _ _ _ _ _ _ _ _ _ _ _ _ _ _ _ _ _ _ _ _ _ _ _ _ _ _ _ _ _ _ _ _ _ _ _ _ (by omega) HR8)

set_option maxHeartbeats 0 in
set_option maxRecDepth 100000 in
theorem br2no {w wc : World} {T room m L j n P c c7 c8 : Nat} {ps : List TI.PR} {A7 A8 : Option Addr} {D K V a0 : Int} {ad : Addr}
    (hm : m ≤ j) (hLm : L ≤ m) (hj : j ≤ n) (hlt : j < n) (hn6 : n ≤ 200) (HLO : Hid (lo Cmp.cmpI K ps = L)) (HH : Hid (hit Cmp.cmpI K ps = false))
    (HRC : Hid (Rl w wc T room ps m A7 c7 A8 c8)) (HPC : Hid (Row wc P 28 [.int .i64 D, .int .i64 K, .int .i64 V]))
    (d0 : (D == 0) = false) (d1 : (D == 1) = false) (d2 : (D == 2) = true)
    (J KK : Act → World → Prop) (hKK : ∀ (a' : Act) (w' : World), Met J a' w' → KK a' w')
    (u2 u3 u4 u9 u13 u14 u15 u16 u17 u18 u19 u20 u21 u22 u23 u24 u25 u26 u27 u28 u29 u30 u31 u32 u33 u37 u38 u39 u40 u41 u42 u43 u44 u45 u46 u47 u48 u49 u50 u51 u52 u53 u54 u55 u56 u57 u58 u59 u60 u61 u62 u63 u64 u65 u66 u67 u70 u71 u72 u73 u74 u75 u76 u77 u78 u79 u80 u81 u82 u83 u84 u85 u86 u87 u88 u89 u90 u91 u92 u93 u94 u95 u96 u97 u98 u99 u100 u101 u102 u103 u104 u105 u106 u107 u108 u109 u110 u111 u112 u113 u114 u115 u116 u117 u118 u119 u120 u121 u122 u123 u124 u125 u126 u127 u128 u129 u130 u131 u132 u133 u134 u135 u136 u137 u138 u139 u140 u141 u142 u143 u144 u145 u146 u147 u148 u149 u150 u151 u152 u153 u154 u155 u156 u157 u158 u159 u160 u161 u162 u163 u164 u165 u166 u167 u168 u169 u170 u171 u172 u173 u174 u175 u176 u177 u178 u179 u180 u181 u182 u183 u184 u185 u186 u187 u188 u189 u190 u191 u192 u193 u194 u195 u196 u197 u198 u199 u200 u201 u202 u203 u204 u205 u206 u207 u208 u209 u210 u211 u212 u213 u214 u215 u216 u217 u218 u219 u220 u221 u222 u223 u224 u225 u226 u227 u228 u229 u230 u231 u232 u233 u234 u235 u236 u237 u238 u239 u240 u241 u242 u243 u244 u245 u246 u247 u248 u249 u250 u251 u252 u253 u254 u255 u256 u257 u258 u259 u260 u261 u262 u263 u264 u265 u266 u267 u268 u269 u270 u271 u272 u273 u274 u275 u276 u277 u278 u279 u280 u281 u282 u283 u284 u285 u286 u287 u288 u289 u290 u291 u292 u293 : Value)
    (hJ : ∀ (m' : Nat) (ps' : List TI.PR) (A5 A6 : Option Addr) (c5 c6 : Nat) (y4 y13 y14 y15 y16 y17 y18 y19 y20 y21 y22 y70 y71 y72 y73 y74 y75 y76 y77 y78 y79 y80 y81 y82 y83 y84 y85 y86 y87 y88 y89 y90 y91 y92 y93 y94 y95 y96 y97 y98 y99 y100 y101 y102 y103 y104 y105 y106 y107 y108 y109 y110 y111 y112 y113 y114 y115 y116 y117 y118 y119 y120 y121 y122 y123 y124 y125 y126 y127 y128 y129 y130 y131 y132 y133 y134 y135 y136 y137 y138 y139 y140 y141 y142 y143 y144 y145 y146 y147 y148 y149 y150 y151 y152 y153 y154 y155 y156 y157 y158 y159 y160 y161 y162 y163 y164 y165 y166 y167 y168 y169 y170 y171 y172 y173 y174 y175 y176 y177 y178 y179 y180 y181 y182 y183 y184 y185 y186 y187 y188 y189 y190 y191 y192 y193 y194 y195 y196 y197 y198 y199 y200 y201 y202 y203 y204 y205 y206 y207 y208 y209 y210 y211 y212 y213 y214 y215 y216 y217 y218 y219 y220 y221 y222 y223 y224 y225 y226 y227 y228 y229 y230 y231 y232 y233 y234 y235 y236 y237 y238 y239 y240 y241 y242 y243 y244 y245 y246 y247 y248 y249 y250 y251 y252 y253 y254 y255 y256 y257 y258 y259 y260 y261 y262 y263 y264 : Value) (wx : World), m' ≤ j + 1 → Hid (Rl w wx T room ps' m' A5 c5 A6 c6) →
      J ⟨#[.int .i64 a0, .slice (some ad) n c, u2, u3, y4, .pointer (some ⟨T, 0, none⟩), .int .i64 room, .slice A5 m' c5, .slice A6 m' c6, u9, .pointer (some ⟨P, 0, none⟩), .int .i64 L,
      .bool false, y13, y14, y15, y16, y17, y18, y19, y20, y21, y22, u23,
      u24, u25, u26, u27, u28, u29, u30, u31, u32, u33, .slice (some ad) n c, .int .i64 n,
      .int .i64 j, u37, u38, u39, u40, u41, u42, u43, u44, u45, u46, u47,
      u48, u49, u50, u51, u52, u53, u54, u55, u56, u57, u58, u59,
      u60, u61, u62, u63, u64, u65, u66, u67, .pointer (some ⟨P, 0, none⟩), .int .i64 D, y70, y71,
      y72, y73, y74, y75, y76, y77, y78, y79, y80, y81, y82, y83,
      y84, y85, y86, y87, y88, y89, y90, y91, y92, y93, y94, y95,
      y96, y97, y98, y99, y100, y101, y102, y103, y104, y105, y106, y107,
      y108, y109, y110, y111, y112, y113, y114, y115, y116, y117, y118, y119,
      y120, y121, y122, y123, y124, y125, y126, y127, y128, y129, y130, y131,
      y132, y133, y134, y135, y136, y137, y138, y139, y140, y141, y142, y143,
      y144, y145, y146, y147, y148, y149, y150, y151, y152, y153, y154, y155,
      y156, y157, y158, y159, y160, y161, y162, y163, y164, y165, y166, y167,
      y168, y169, y170, y171, y172, y173, y174, y175, y176, y177, y178, y179,
      y180, y181, y182, y183, y184, y185, y186, y187, y188, y189, y190, y191,
      y192, y193, y194, y195, y196, y197, y198, y199, y200, y201, y202, y203,
      y204, y205, y206, y207, y208, y209, y210, y211, y212, y213, y214, y215,
      y216, y217, y218, y219, y220, y221, y222, y223, y224, y225, y226, y227,
      y228, y229, y230, y231, y232, y233, y234, y235, y236, y237, y238, y239,
      y240, y241, y242, y243, y244, y245, y246, y247, y248, y249, y250, y251,
      y252, y253, y254, y255, y256, y257, y258, y259, y260, y261, y262, y263,
      y264, u265, u266, u267, u268, u269, u270, u271, u272, u273, u274, u275,
      u276, u277, u278, u279, u280, u281, u282, u283, u284, u285, u286, u287,
      u288, u289, u290, u291, u292, u293], []⟩ wx) :
    code4.wp Try.prog (Exit.then KK NoExit) ⟨#[.int .i64 a0, .slice (some ad) n c, u2, u3, u4, .pointer (some ⟨T, 0, none⟩), .int .i64 room, .slice A7 m c7, .slice A8 m c8, u9, .pointer (some ⟨P, 0, none⟩), .int .i64 L,
      .bool false, u13, u14, u15, u16, u17, u18, u19, u20, u21, u22, u23,
      u24, u25, u26, u27, u28, u29, u30, u31, u32, u33, .slice (some ad) n c, .int .i64 n,
      .int .i64 j, u37, u38, u39, u40, u41, u42, u43, u44, u45, u46, u47,
      u48, u49, u50, u51, u52, u53, u54, u55, u56, u57, u58, u59,
      u60, u61, u62, u63, u64, u65, u66, u67, .pointer (some ⟨P, 0, none⟩), .int .i64 D, u70, u71,
      u72, u73, u74, u75, u76, u77, u78, u79, u80, u81, u82, u83,
      u84, u85, u86, u87, u88, u89, u90, u91, u92, u93, u94, u95,
      u96, u97, u98, u99, u100, u101, u102, u103, u104, u105, u106, u107,
      u108, u109, u110, u111, u112, u113, u114, u115, u116, u117, u118, u119,
      u120, u121, u122, u123, u124, u125, u126, u127, u128, u129, u130, u131,
      u132, u133, u134, u135, u136, u137, u138, u139, u140, u141, u142, u143,
      u144, u145, u146, u147, u148, u149, u150, u151, u152, u153, u154, u155,
      u156, u157, u158, u159, u160, u161, u162, u163, u164, u165, u166, u167,
      u168, u169, u170, u171, u172, u173, u174, u175, u176, u177, u178, u179,
      u180, u181, u182, u183, u184, u185, u186, u187, u188, u189, u190, u191,
      u192, u193, u194, u195, u196, u197, u198, u199, u200, u201, u202, u203,
      u204, u205, u206, u207, u208, u209, u210, u211, u212, u213, u214, u215,
      u216, u217, u218, u219, u220, u221, u222, u223, u224, u225, u226, u227,
      u228, u229, u230, u231, u232, u233, u234, u235, u236, u237, u238, u239,
      u240, u241, u242, u243, u244, u245, u246, u247, u248, u249, u250, u251,
      u252, u253, u254, u255, u256, u257, u258, u259, u260, u261, u262, u263,
      u264, u265, u266, u267, u268, u269, u270, u271, u272, u273, u274, u275,
      u276, u277, u278, u279, u280, u281, u282, u283, u284, u285, u286, u287,
      u288, u289, u290, u291, u292, u293], []⟩ wc := by
  have hp0 : wc.cell? ⟨P, 0, none⟩ = some (.int .i64 D) := HPC.out.cell 0
  have hp1 : wc.cell? ⟨P, 1, none⟩ = some (.int .i64 K) := HPC.out.cell 1
  have hp2 : wc.cell? ⟨P, 2, none⟩ = some (.int .i64 V) := HPC.out.cell 2
  have HJ := Lib.hid hJ
  clear hJ
  have HKK := hKK
  clear hKK
  conv => arg 2; whnf
  have P0 := Lib.hid (TI.get_no HRC.out.tab K HH.out)
  go_wp2_with fail
  refine P0.out.mono ?_
  rintro e w5 ⟨rfl, hb5⟩
  have HR8 := Lib.hid (HRC.out.below hb5)
  clear hb5 hp0 hp1 hp2
  go_simp
  go_wp2
  exact Met.intro (HJ.out _ _ _ _ _ _ _ _ _ _ _ _ _ _ _ _ _ _ _ _ _ _ _ _ _ _ _ _ _ _ _ _ _ _ _ _ _ _ _ _ _ _ _ _ _ _ _ _ _ _ _ _ _ _ _ _ _ _ _ _ _ _ _ _ _ _ _ _ _ _ _ _ _ _ _ _ _ _ _ _ _ _ _ _ _ _ _ _ _ _ _ _ _ _ _ _ _ _ _ _ _ _ _ _ _ _ _ _ _ _ _ _ _ _ _ _ _ _ _ _ _ _ _ _ _ _ _ _ _ _ _ _ _ _ _ _ _ _ _ _ _ _ _ _ _ _ _ _ _ _ _ _ _ _ _ _ _ _ _ _ _ _ _ _ _ _ _ _ _ _ _ _ _ _ _ _ _ _ _ _ _ _ _ _ _ _ _ _ _ _ _ _ _ _ _ _ _ _ _ _ _ _ _ _ _ _ _ _ _ _ _ _ _ (by omega) HR8)

set_option maxHeartbeats 0 in
set_option maxRecDepth 100000 in
theorem br3yes {w wc : World} {T room m L j n P c c7 c8 : Nat} {ps : List TI.PR} {A7 A8 : Option Addr} {D K V a0 : Int} {ad : Addr} {h12 : Bool}
    (hm : m ≤ j) (hLm : L ≤ m) (hj : j ≤ n) (hlt : j < n) (hn6 : n ≤ 200) (HLO : Hid (lo Cmp.cmpI K ps = L)) (HH : Hid (hit Cmp.cmpI K ps = h12))
    (HRC : Hid (Rl w wc T room ps m A7 c7 A8 c8)) (HPC : Hid (Row wc P 28 [.int .i64 D, .int .i64 K, .int .i64 V]))
    (d0 : (D == 0) = false) (d1 : (D == 1) = false) (d2 : (D == 2) = false) (d3 : (D == 3) = true) (hL3 : L < m)
    (J KK : Act → World → Prop) (hKK : ∀ (a' : Act) (w' : World), Met J a' w' → KK a' w')
    (u2 u3 u4 u9 u13 u14 u15 u16 u17 u18 u19 u20 u21 u22 u23 u24 u25 u26 u27 u28 u29 u30 u31 u32 u33 u37 u38 u39 u40 u41 u42 u43 u44 u45 u46 u47 u48 u49 u50 u51 u52 u53 u54 u55 u56 u57 u58 u59 u60 u61 u62 u63 u64 u65 u66 u67 u70 u71 u72 u73 u74 u75 u76 u77 u78 u79 u80 u81 u82 u83 u84 u85 u86 u87 u88 u89 u90 u91 u92 u93 u94 u95 u96 u97 u98 u99 u100 u101 u102 u103 u104 u105 u106 u107 u108 u109 u110 u111 u112 u113 u114 u115 u116 u117 u118 u119 u120 u121 u122 u123 u124 u125 u126 u127 u128 u129 u130 u131 u132 u133 u134 u135 u136 u137 u138 u139 u140 u141 u142 u143 u144 u145 u146 u147 u148 u149 u150 u151 u152 u153 u154 u155 u156 u157 u158 u159 u160 u161 u162 u163 u164 u165 u166 u167 u168 u169 u170 u171 u172 u173 u174 u175 u176 u177 u178 u179 u180 u181 u182 u183 u184 u185 u186 u187 u188 u189 u190 u191 u192 u193 u194 u195 u196 u197 u198 u199 u200 u201 u202 u203 u204 u205 u206 u207 u208 u209 u210 u211 u212 u213 u214 u215 u216 u217 u218 u219 u220 u221 u222 u223 u224 u225 u226 u227 u228 u229 u230 u231 u232 u233 u234 u235 u236 u237 u238 u239 u240 u241 u242 u243 u244 u245 u246 u247 u248 u249 u250 u251 u252 u253 u254 u255 u256 u257 u258 u259 u260 u261 u262 u263 u264 u265 u266 u267 u268 u269 u270 u271 u272 u273 u274 u275 u276 u277 u278 u279 u280 u281 u282 u283 u284 u285 u286 u287 u288 u289 u290 u291 u292 u293 : Value)
    (hJ : ∀ (m' : Nat) (ps' : List TI.PR) (A5 A6 : Option Addr) (c5 c6 : Nat) (y4 y13 y14 y15 y16 y17 y18 y19 y20 y21 y22 y70 y71 y72 y73 y74 y75 y76 y77 y78 y79 y80 y81 y82 y83 y84 y85 y86 y87 y88 y89 y90 y91 y92 y93 y94 y95 y96 y97 y98 y99 y100 y101 y102 y103 y104 y105 y106 y107 y108 y109 y110 y111 y112 y113 y114 y115 y116 y117 y118 y119 y120 y121 y122 y123 y124 y125 y126 y127 y128 y129 y130 y131 y132 y133 y134 y135 y136 y137 y138 y139 y140 y141 y142 y143 y144 y145 y146 y147 y148 y149 y150 y151 y152 y153 y154 y155 y156 y157 y158 y159 y160 y161 y162 y163 y164 y165 y166 y167 y168 y169 y170 y171 y172 y173 y174 y175 y176 y177 y178 y179 y180 y181 y182 y183 y184 y185 y186 y187 y188 y189 y190 y191 y192 y193 y194 y195 y196 y197 y198 y199 y200 y201 y202 y203 y204 y205 y206 y207 y208 y209 y210 y211 y212 y213 y214 y215 y216 y217 y218 y219 y220 y221 y222 y223 y224 y225 y226 y227 y228 y229 y230 y231 y232 y233 y234 y235 y236 y237 y238 y239 y240 y241 y242 y243 y244 y245 y246 y247 y248 y249 y250 y251 y252 y253 y254 y255 y256 y257 y258 y259 y260 y261 y262 y263 y264 : Value) (wx : World), m' ≤ j + 1 → Hid (Rl w wx T room ps' m' A5 c5 A6 c6) →
      J ⟨#[.int .i64 a0, .slice (some ad) n c, u2, u3, y4, .pointer (some ⟨T, 0, none⟩), .int .i64 room, .slice A5 m' c5, .slice A6 m' c6, u9, .pointer (some ⟨P, 0, none⟩), .int .i64 L,
      .bool h12, y13, y14, y15, y16, y17, y18, y19, y20, y21, y22, u23,
      u24, u25, u26, u27, u28, u29, u30, u31, u32, u33, .slice (some ad) n c, .int .i64 n,
      .int .i64 j, u37, u38, u39, u40, u41, u42, u43, u44, u45, u46, u47,
      u48, u49, u50, u51, u52, u53, u54, u55, u56, u57, u58, u59,
      u60, u61, u62, u63, u64, u65, u66, u67, .pointer (some ⟨P, 0, none⟩), .int .i64 D, y70, y71,
      y72, y73, y74, y75, y76, y77, y78, y79, y80, y81, y82, y83,
      y84, y85, y86, y87, y88, y89, y90, y91, y92, y93, y94, y95,
      y96, y97, y98, y99, y100, y101, y102, y103, y104, y105, y106, y107,
      y108, y109, y110, y111, y112, y113, y114, y115, y116, y117, y118, y119,
      y120, y121, y122, y123, y124, y125, y126, y127, y128, y129, y130, y131,
      y132, y133, y134, y135, y136, y137, y138, y139, y140, y141, y142, y143,
      y144, y145, y146, y147, y148, y149, y150, y151, y152, y153, y154, y155,
      y156, y157, y158, y159, y160, y161, y162, y163, y164, y165, y166, y167,
      y168, y169, y170, y171, y172, y173, y174, y175, y176, y177, y178, y179,
      y180, y181, y182, y183, y184, y185, y186, y187, y188, y189, y190, y191,
      y192, y193, y194, y195, y196, y197, y198, y199, y200, y201, y202, y203,
      y204, y205, y206, y207, y208, y209, y210, y211, y212, y213, y214, y215,
      y216, y217, y218, y219, y220, y221, y222, y223, y224, y225, y226, y227,
      y228, y229, y230, y231, y232, y233, y234, y235, y236, y237, y238, y239,
      y240, y241, y242, y243, y244, y245, y246, y247, y248, y249, y250, y251,
      y252, y253, y254, y255, y256, y257, y258, y259, y260, y261, y262, y263,
      y264, u265, u266, u267, u268, u269, u270, u271, u272, u273, u274, u275,
      u276, u277, u278, u279, u280, u281, u282, u283, u284, u285, u286, u287,
      u288, u289, u290, u291, u292, u293], []⟩ wx) :
    code4.wp Try.prog (Exit.then KK NoExit) ⟨#[.int .i64 a0, .slice (some ad) n c, u2, u3, u4, .pointer (some ⟨T, 0, none⟩), .int .i64 room, .slice A7 m c7, .slice A8 m c8, u9, .pointer (some ⟨P, 0, none⟩), .int .i64 L,
      .bool h12, u13, u14, u15, u16, u17, u18, u19, u20, u21, u22, u23,
      u24, u25, u26, u27, u28, u29, u30, u31, u32, u33, .slice (some ad) n c, .int .i64 n,
      .int .i64 j, u37, u38, u39, u40, u41, u42, u43, u44, u45, u46, u47,
      u48, u49, u50, u51, u52, u53, u54, u55, u56, u57, u58, u59,
      u60, u61, u62, u63, u64, u65, u66, u67, .pointer (some ⟨P, 0, none⟩), .int .i64 D, u70, u71,
      u72, u73, u74, u75, u76, u77, u78, u79, u80, u81, u82, u83,
      u84, u85, u86, u87, u88, u89, u90, u91, u92, u93, u94, u95,
      u96, u97, u98, u99, u100, u101, u102, u103, u104, u105, u106, u107,
      u108, u109, u110, u111, u112, u113, u114, u115, u116, u117, u118, u119,
      u120, u121, u122, u123, u124, u125, u126, u127, u128, u129, u130, u131,
      u132, u133, u134, u135, u136, u137, u138, u139, u140, u141, u142, u143,
      u144, u145, u146, u147, u148, u149, u150, u151, u152, u153, u154, u155,
      u156, u157, u158, u159, u160, u161, u162, u163, u164, u165, u166, u167,
      u168, u169, u170, u171, u172, u173, u174, u175, u176, u177, u178, u179,
      u180, u181, u182, u183, u184, u185, u186, u187, u188, u189, u190, u191,
      u192, u193, u194, u195, u196, u197, u198, u199, u200, u201, u202, u203,
      u204, u205, u206, u207, u208, u209, u210, u211, u212, u213, u214, u215,
      u216, u217, u218, u219, u220, u221, u222, u223, u224, u225, u226, u227,
      u228, u229, u230, u231, u232, u233, u234, u235, u236, u237, u238, u239,
      u240, u241, u242, u243, u244, u245, u246, u247, u248, u249, u250, u251,
      u252, u253, u254, u255, u256, u257, u258, u259, u260, u261, u262, u263,
      u264, u265, u266, u267, u268, u269, u270, u271, u272, u273, u274, u275,
      u276, u277, u278, u279, u280, u281, u282, u283, u284, u285, u286, u287,
      u288, u289, u290, u291, u292, u293], []⟩ wc := by
  have hp0 : wc.cell? ⟨P, 0, none⟩ = some (.int .i64 D) := HPC.out.cell 0
  have hp1 : wc.cell? ⟨P, 1, none⟩ = some (.int .i64 K) := HPC.out.cell 1
  have hp2 : wc.cell? ⟨P, 2, none⟩ = some (.int .i64 V) := HPC.out.cell 2
  have HJ := Lib.hid hJ
  clear hJ
  have HKK := hKK
  clear hKK
  conv => arg 2; whnf
  obtain ⟨p, hpp⟩ : ∃ p, ps[L]? = some p := ⟨ps[L]'(by have h3 := HRC.out.len; omega), List.getElem?_eq_getElem _⟩
  have P0 := Lib.hid (TI.from_yes HRC.out.tab K p (by rw [HLO.out]; exact hpp))
  have hLl : (L : Int) < (m : Int) := by omega
  have gL : decide ((L : Int) < (m : Int)) = true := by simpa using hLl
  have HV := Lib.hid hpp
  clear hpp
  go_wp2_with fail
  refine P0.out.mono ?_
  rintro e w5 ⟨rfl, hb5⟩
  obtain ⟨ad8, rfl, hc8⟩ := HRC.out.val hb5 HV.out
  obtain ⟨ad7, x7, v7, rfl, hp7, hc7⟩ := HRC.out.key hb5 hL3
  rw [HV.out] at hp7
  injection hp7 with hp7
  subst hp7
  have HR8 := Lib.hid (HRC.out.below hb5)
  clear hb5 hp0 hp1 hp2
  go_simp
  go_wp2
  exact Met.intro (HJ.out _ _ _ _ _ _ _ _ _ _ _ _ _ _ _ _ _ _ _ _ _ _ _ _ _ _ _ _ _ _ _ _ _ _ _ _ _ _ _ _ _ _ _ _ _ _ _ _ _ _ _ _ _ _ _ _ _ _ _ _ _ _ _ _ _ _ _ _ _ _ _ _ _ _ _ _ _ _ _ _ _ _ _ _ _ _ _ _ _ _ _ _ _ _ _ _ _ _ _ _ _ _ _ _ _ _ _ _ _ _ _ _ _ _ _ _ _ _ _ _ _ _ _ _ _ _ _ _ _ _ _ _ _ _ _ _ _ _ _ _ _ _ _ _ _ _ _ _ _ _ _ _ _ _ _ _ _ _ _ _ _ _ _ _ _ _ _ _ _ _ _ _ _ _ _ _ _ _ _ _ _ _ _ _ _ _ _ _ _ _ _ _ _ _ _ _ _ _ _ _ _ _ _ _ _ _ _ _ _ _ _ _ _ (by omega) HR8)
end Go.Proofs.Ytnijiimljpbgpaa.PL
