/-
  RowDone from its region 27: a message is cut.
-/
import Derived.Test.YtchlbbndfhibgaaGreatDoorRdS
import Derived.Deep.RegionHeld3
import Derived.Deep.DeepCutAuto
set_option linter.unusedVariables false
set_option linter.unusedSimpArgs false
namespace Go.Proofs.YtchlbbndfhibgaaGreatDoor.RdC
open Go.RowKit Go.Proofs.YtchlbbndfhibgaaGreatDoor.BxD Go.Proofs.YtchlbbndfhibgaaGreatDoor.BxKit Go.Proofs.YtchlbbndfhibgaaGreatDoor.BxA Go.Proofs.YtchlbbndfhibgaaGreatDoor.BxB Go.Proofs.YtchlbbndfhibgaaGreatDoor.BxR Go.Proofs.YtchlbbndfhibgaaGreatDoor.BxH Go.Proofs.YtchlbbndfhibgaaGreatDoor.BxF Go.Proofs.YtchlbbndfhibgaaGreatDoor.BxV Go.Proofs.YtchlbbndfhibgaaGreatDoor.RwD Go.Proofs.YtchlbbndfhibgaaGreatDoor.RwM Go.Proofs.YtchlbbndfhibgaaGreatDoor.RwF Go.Proofs.YtchlbbndfhibgaaGreatDoor.RwKit Go.Proofs.YtchlbbndfhibgaaGreatDoor.RdF Go.Proofs.YtchlbbndfhibgaaGreatDoor.RdD Go.Proofs.YtchlbbndfhibgaaGreatDoor.RpD Go.Proofs.YtchlbbndfhibgaaGreatDoor.RdS

set_option maxHeartbeats 8000000 in
set_option maxRecDepth 1000000 in
theorem part {b : Box} {u md d fl k how : Int} {id tx : ByteArray} {WA MA KA A : Option Addr} {wn wcp mn mcp kn kc n cp : Nat} {words : List ByteArray} {w : World} (ht : RwW15.Tab w) (h1 : StrsAt w w.heap.size WA wn b.words) (h2 : MsgsAt w w.heap.size MA mn b.msgs) (h4 : StrsAt w w.heap.size A n words) (hwc : wn ≤ wcp) (hmc : mn ≤ mcp) (hcp : n ≤ cp) (hn : n ≤ 8796093022208) (z2 : id.size ≤ 140737488355328) (z3 : tx.size ≤ 140737488355328) (he : mbE b = 0) (hfw : Fw n words) {u' : Int} {wd : World} (hfi : 0 ≤ findI b.msgs u') (hs : St w wd #[.string b.id, .int .i64 b.valid, .int .i64 b.next, .int .i64 b.high, .slice WA wn wcp, .slice MA mn mcp] #[.int .i64 u, .int .i64 md, .int .i64 d, .string id, .int .i64 fl, .slice KA kn kc, .string tx]) {c7 c8 c9 c10 c11 c12 c13 c14 c15 c16 c17 c19 c20 c21 c22 c23 c24 c25 c26 c27 c28 c29 c30 c31 c32 c33 c34 c35 c36 c37 c38 c39 c40 c41 c42 c43 c44 c45 c46 c47 c48 c49 c50 c51 c52 c53 c54 c55 c56 c57 c58 c59 c60 c61 c62 c63 c64 c65 c66 c67 c68 c69 c70 c71 c72 c73 c74 c75 c76 c77 c78 c79 c80 c81 c82 c83 c84 c85 c86 c87 c88 c89 c90 c91 c92 c93 c94 c95 c96 c97 c98 c99 c100 c101 c102 c103 c104 c105 c106 c107 c108 c109 c110 c111 c112 c113 c114 c115 c116 c117 c118 c119 c120 c121 c122 c123 c124 c125 c126 c127 c128 c129 c130 c131 c132 c133 c134 c135 c136 c137 c138 c139 c140 c141 c142 c143 c144 c145 c146 c147 c148 c149 c150 c151 c152 c153 c154 c155 c156 c157 c158 c159 c160 c161 c162 c163 c164 c165 c166 c167 c168 c169 c170 c171 c172 c173 c174 c175 c176 c177 c178 c179 c180 c181 c182 c183 c184 c185 c186 c187 c188 c189 c190 c191 c192 c193 c194 c195 c196 c197 c198 c199 c200 c201 c202 c203 c204 c205 c206 c207 c208 c209 c210 c211 c212 c213 c214 c215 c216 c217 c218 c219 c220 c221 c222 c223 c224 c225 c226 c227 c228 c229 c230 c231 c232 c233 c234 c235 c236 c237 c238 c239 c240 c241 c242 c243 c244 c245 c246 c247 c248 c249 c250 c251 c252 c253 c254 c255 c256 c257 c258 c259 c260 c261 c262 c263 c264 c265 c266 c267 c268 c269 c270 c271 c272 c273 c274 c275 c276 c277 c278 c279 c280 c281 c282 c283 c284 c285 c286 c287 c288 c289 c290 c291 c292 c293 c294 c295 c296 c297 c298 c299 c300 c301 c302 c303 c304 c305 c306 c307 c308 c309 c310 c311 c312 c313 c314 c315 c316 c317 c318 c319 c320 c321 c322 c323 c324 c325 c326 c327 c328 c329 c330 c331 c332 c333 c334 c335 c336 c337 c338 c339 c340 c341 c342 c343 c344 c345 c346 c347 c348 c349 c350 : Value} :
    Code.wp Tryz.prog from27 (bodyPost Tryz.prog Tryz.f3 fun e w' => e = .returned (.bool true) ∧ Below w.heap.size w w') ⟨#[.agg #[.string b.id, .int .i64 b.valid, .int .i64 b.next, .int .i64 b.high, .slice WA wn wcp, .slice MA mn mcp], .agg #[.int .i64 u, .int .i64 md, .int .i64 d, .string id, .int .i64 fl, .slice KA kn kc, .string tx], .slice A n cp, .int .i64 k, .int .i64 how, .pointer (some { block := w.heap.size, off := 0 }), .pointer (some { block := w.heap.size + 1, off := 0 }), c7, c8, c9, c10, c11, c12, c13, c14, c15, c16, c17, .int .i64 u', c19, c20, c21, c22, c23, c24, c25, c26, c27, c28, c29, c30, c31, c32, c33, c34, c35, c36, c37, c38, c39, c40, c41, c42, c43, c44, c45, c46, c47, c48, c49, c50, c51, c52, c53, c54, c55, c56, c57, c58, c59, c60, c61, c62, c63, c64, c65, c66, c67, c68, c69, c70, c71, c72, c73, c74, c75, c76, c77, c78, c79, c80, c81, c82, c83, c84, c85, c86, c87, c88, c89, c90, c91, c92, c93, c94, c95, c96, c97, c98, c99, c100, c101, c102, c103, c104, c105, c106, c107, c108, c109, c110, c111, c112, c113, c114, c115, c116, c117, c118, c119, c120, c121, c122, c123, c124, c125, c126, c127, c128, c129, c130, c131, c132, c133, c134, c135, c136, c137, c138, c139, c140, c141, c142, c143, c144, c145, c146, c147, c148, c149, c150, c151, c152, c153, c154, c155, c156, c157, c158, c159, c160, c161, c162, c163, c164, c165, c166, c167, c168, c169, c170, c171, c172, c173, c174, c175, c176, c177, c178, c179, c180, c181, c182, c183, c184, c185, c186, c187, c188, c189, c190, c191, c192, c193, c194, c195, c196, c197, c198, c199, c200, c201, c202, c203, c204, c205, c206, c207, c208, c209, c210, c211, c212, c213, c214, c215, c216, c217, c218, c219, c220, c221, c222, c223, c224, c225, c226, c227, c228, c229, c230, c231, c232, c233, c234, c235, c236, c237, c238, c239, c240, c241, c242, c243, c244, c245, c246, c247, c248, c249, c250, c251, c252, c253, c254, c255, c256, c257, c258, c259, c260, c261, c262, c263, c264, c265, c266, c267, c268, c269, c270, c271, c272, c273, c274, c275, c276, c277, c278, c279, c280, c281, c282, c283, c284, c285, c286, c287, c288, c289, c290, c291, c292, c293, c294, c295, c296, c297, c298, c299, c300, c301, c302, c303, c304, c305, c306, c307, c308, c309, c310, c311, c312, c313, c314, c315, c316, c317, c318, c319, c320, c321, c322, c323, c324, c325, c326, c327, c328, c329, c330, c331, c332, c333, c334, c335, c336, c337, c338, c339, c340, c341, c342, c343, c344, c345, c346, c347, c348, c349, c350], []⟩ wd := by
  have HX := Lib.hid h1
  have HM := Lib.hid h2
  have HZ := Lib.hid h4
  have HT := Lib.hid ht
  have HWC := Lib.hid hwc
  have HMC := Lib.hid hmc
  have HAW := Lib.hid (fun (wr : World) (hb : Below w.heap.size w wr) => RwAw.awake (ht.below hb (Nat.le_refl _)))
  have HE := Lib.hid he
  have HFW := Lib.hid hfw
  have HHD := Lib.hid ((mb_iff b).1 he)
  clear ht h1 h2 h4 hwc hmc he hfw
  conv => arg 2; whnf
  have HSd := Lib.hid hs
  clear hs
  obtain ⟨eC, heC⟩ : ∃ eC, eC = cutE b [u'] := ⟨_, rfl⟩
  have hst := HSd.out.go ((Below.refl _ _).alloc (Nat.le_refl _) (.cells #[.int .i64 u'] 3))
  have kc := RwW12.cut_any (b := b) (wc := wcp) (mcp := mcp) (cp := 1) (StrsAt.more (StrsAt.below HX.out hst.bel (Nat.le_refl _)) hst.bel.size) (MsgsAt.more (MsgsAt.below HM.out hst.bel (Nat.le_refl _)) hst.bel.size) HWC.out HMC.out (Nat.le_refl _) (ints_one u') (Nat.le_refl _)
  rw [← heC] at kc
  have KC := Lib.hid kc
  have HST := Lib.hid hst
  have HEC := Lib.hid heC
  clear kc hst heC
  obtain ⟨b0, b1, b2, b3, b4, b5, _⟩ := six_at HSd.out.bb
  go_upto_region 28 with (go_at_call 21; go_loud (
     refine KC.out.mono ?_
     rintro e w2 ⟨L4, ln4, lc4, rfl, hlc4, hl4, hb4⟩
     have HSe := Lib.hid (HST.out.go hb4)
     have HL4 := Lib.hid hl4
     clear hl4 hb4 b0 b1 b2 b3 b4 b5))
  clear KC HST HSd
  obtain ⟨b0, b1, b2, b3, b4, b5, _⟩ := six_at HSe.out.bb
  by_cases hC : eC = 0
  case neg =>
    obtain ⟨k1, k2⟩ := cut_not (by rw [← HEC.out]; exact hC) HE.out hfi
    have hne : eC = 9 := by rw [HEC.out, k1]
    subst hne
    have hbh := b3
    rw [k2] at hbh
    clear b3 hC
    have HBl := Lib.hid HSe.out.bel
    go_wp2_with (go_at_call 12; go_loud (refine (HAW.out _ HBl.out).mono ?_; rintro e w9 ⟨rfl, hb9⟩; have HB9 := Lib.hid (HBl.out.trans (hb9.mono HBl.out.size)); clear hb9))
    go_ret
    exact ⟨rfl, HB9.out⟩
  subst hC
  obtain ⟨k1, k2, k3⟩ := cut_all HEC.out.symm HE.out hfi
  have kl := RdS.allq (b := b) (wc := wcp) (mcp := mcp) (cp := lc4) (StrsAt.more (StrsAt.below HX.out HSe.out.bel (Nat.le_refl _)) HSe.out.bel.size) (MsgsAt.more (MsgsAt.below HM.out HSe.out.bel (Nat.le_refl _)) HSe.out.bel.size) HWC.out HMC.out (Nat.le_refl _) HL4.out hlc4 RwApi.cut_few
  rw [k1] at kl
  have KL := Lib.hid kl
  have HK2 := Lib.hid k2
  have HK3 := Lib.hid k3
  clear kl k1 k2 k3 HEC
  go_upto_region 30 with (go_at_call 14; go_loud (
     refine KL.out.mono ?_
     rintro e w3 ⟨CA, cn, cc, NA, nn, nc, rfl, hcc, hnc, hl5, hb5⟩
     have hb50 := HSe.out.bel.trans (hb5.mono HSe.out.bel.size)
     have HC := Lib.hid (Sb.new (w := w) (c := cutC b [u']) hb50 hb5.size hcc hnc hl5)
     have HS3 := Lib.hid (HSe.out.go (hb5.alloc hb5.size (.cells #[.string (cutC b [u']).id, .int .i64 (cutC b [u']).valid, .int .i64 (cutC b [u']).next, .int .i64 (cutC b [u']).high, .slice CA cn cc, .slice NA nn nc] 25)))
     clear hl5 hb5 hb50 hcc hnc b0 b1 b2 b3 b4 b5))
  clear KL HSe HL4
  obtain ⟨Q, hQ⟩ : ∃ Q, Q = w3.heap.size := ⟨_, rfl⟩
  rw [← hQ] at HC ⊢
  clear hQ
  generalize (World.alloc w3 _) = w4 at HC HS3 ⊢
  obtain ⟨_, _, _, p4, _⟩ := head_parts HHD.out.1
  have KI := Lib.hid (find_any (uid := u') (bid := b.id) (bv := b.valid) (bn := b.next) (bh := b.high + 1) (WA := CA) (wn := cn) (wc := cc) (mc := nc) HC.out.ms (Nat.le_refl _))
  have KI := Lib.hid (show Calls Tryz.prog 20 #[.agg #[.string b.id, .int .i64 b.valid, .int .i64 b.next, .int .i64 (b.high + 1), .slice CA cn cc, .slice NA nn nc], .int .i64 u'] w4 (fun e w' => e = .returned (.int .i64 (-1)) ∧ Below w4.heap.size w4 w') from KI.out.mono (fun e w' h => ⟨by rw [h.1, HK3.out], h.2⟩))
  have v1 : IntKind.i64.wrap (b.high + 1) = b.high + 1 := IntWalk.i64_in _ (by omega)
  have v2 : (b.high + 1 == b.high + 1) = true := by simp
  have v3 : (b.next == b.next) = true := by simp
  obtain ⟨q0, q1, q2, q3, q4, q5⟩ := kfacts HC.out.blk
  go_wp2_with (first
    | (go_at_call 20; go_loud (
       refine KI.out.mono ?_
       rintro e w5 ⟨rfl, hb5⟩
       have HS5 := Lib.hid (HS3.out.go hb5)
       have HC5 := Lib.hid (HC.out.go hb5)
       have KY := Lib.hid (show Calls Tryz.prog 10 #[.agg #[.string b.id, .int .i64 b.valid, .int .i64 b.next, .int .i64 (b.high + 1), .slice CA cn cc, .slice NA nn nc]] w5 (fun e w' => e = .returned (.int .i64 0) ∧ Below w5.heap.size w5 w') from (may_box (bid := b.id) (bv := b.valid) (bn := b.next) (bh := b.high + 1) (wc := cc) (mc := nc) HC5.out.ws HC5.out.ms (Nat.le_refl _) HC5.out.hwc).mono (fun e w' h => ⟨by rw [h.1]; exact congrArg (fun z : Int => Ending.returned (.int .i64 z)) HK2.out, h.2⟩))
       clear hb5 q0 q1 q2 q3 q4 q5
       obtain ⟨q0, q1, q2, q3, q4, q5⟩ := kfacts HC5.out.blk))
    | (go_at_call 10; go_loud (
       refine KY.out.mono ?_
       rintro e w6 ⟨rfl, hb6⟩
       have HS6 := Lib.hid (HS5.out.go hb6)
       have HC6 := Lib.hid (HC5.out.go hb6)
       have HBl := Lib.hid HS6.out.bel
       clear hb6 q0 q1 q2 q3 q4 q5
       obtain ⟨b0, b1, b2, b3, b4, b5, _⟩ := six_at HS6.out.bb
       obtain ⟨q0, q1, q2, q3, q4, q5⟩ := kfacts HC6.out.blk))
    | (go_at_call 12; go_loud (refine (HAW.out _ HBl.out).mono ?_; rintro e w9 ⟨rfl, hb9⟩; have HB9 := Lib.hid (HBl.out.trans (hb9.mono HBl.out.size)); clear hb9)))
  go_ret
  exact ⟨rfl, HB9.out⟩
end Go.Proofs.YtchlbbndfhibgaaGreatDoor.RdC
