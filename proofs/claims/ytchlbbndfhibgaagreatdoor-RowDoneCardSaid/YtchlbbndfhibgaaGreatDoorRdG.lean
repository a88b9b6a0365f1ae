/-
  RowDone from its region 3: Add.
-/
import Derived.Test.YtchlbbndfhibgaaGreatDoorRdA
import Derived.Deep.RegionHeld3
import Derived.Deep.DeepCutAuto
set_option linter.unusedVariables false
set_option linter.unusedSimpArgs false
namespace Go.Proofs.YtchlbbndfhibgaaGreatDoor.RdG
open Go.RowKit Go.Proofs.YtchlbbndfhibgaaGreatDoor.BxD Go.Proofs.YtchlbbndfhibgaaGreatDoor.BxKit Go.Proofs.YtchlbbndfhibgaaGreatDoor.BxA Go.Proofs.YtchlbbndfhibgaaGreatDoor.BxB Go.Proofs.YtchlbbndfhibgaaGreatDoor.BxR Go.Proofs.YtchlbbndfhibgaaGreatDoor.BxH Go.Proofs.YtchlbbndfhibgaaGreatDoor.BxF Go.Proofs.YtchlbbndfhibgaaGreatDoor.BxV Go.Proofs.YtchlbbndfhibgaaGreatDoor.RwD Go.Proofs.YtchlbbndfhibgaaGreatDoor.RwM Go.Proofs.YtchlbbndfhibgaaGreatDoor.RwF Go.Proofs.YtchlbbndfhibgaaGreatDoor.RwKit Go.Proofs.YtchlbbndfhibgaaGreatDoor.RdF Go.Proofs.YtchlbbndfhibgaaGreatDoor.RdD Go.Proofs.YtchlbbndfhibgaaGreatDoor.RpD Go.Proofs.YtchlbbndfhibgaaGreatDoor.RdS

set_option maxHeartbeats 8000000 in
set_option maxRecDepth 1000000 in
theorem part {b : Box} {u md d fl k how : Int} {id tx : ByteArray} {WA MA KA A : Option Addr} {wn wcp mn mcp kn kc n cp : Nat} {words : List ByteArray} {w : World} (ht : RwW15.Tab w) (h1 : StrsAt w w.heap.size WA wn b.words) (h2 : MsgsAt w w.heap.size MA mn b.msgs) (h4 : StrsAt w w.heap.size A n words) (hwc : wn ≤ wcp) (hmc : mn ≤ mcp) (hcp : n ≤ cp) (hn : n ≤ 8796093022208) (z2 : id.size ≤ 140737488355328) (z3 : tx.size ≤ 140737488355328) (he : mbE b = 0) (hfw : Fw n words) {wd : World} (hs : St w wd #[.string b.id, .int .i64 b.valid, .int .i64 b.next, .int .i64 b.high, .slice WA wn wcp, .slice MA mn mcp] #[.int .i64 u, .int .i64 md, .int .i64 d, .string id, .int .i64 fl, .slice KA kn kc, .string tx]) {c7 c8 c9 c10 c11 c12 c13 c14 c15 c16 c17 c18 c19 c20 c21 c22 c23 c24 c25 c26 c27 c28 c29 c30 c31 c32 c33 c34 c35 c36 c37 c38 c39 c40 c41 c42 c43 c44 c45 c46 c47 c48 c49 c50 c51 c52 c53 c54 c55 c56 c57 c58 c59 c60 c61 c62 c63 c64 c65 c66 c67 c68 c69 c70 c71 c72 c73 c74 c75 c76 c77 c78 c79 c80 c81 c82 c83 c84 c85 c86 c87 c88 c89 c90 c91 c92 c93 c94 c95 c96 c97 c98 c99 c100 c101 c102 c103 c104 c105 c106 c107 c108 c109 c110 c111 c112 c113 c114 c115 c116 c117 c118 c119 c120 c121 c122 c123 c124 c125 c126 c127 c128 c129 c130 c131 c132 c133 c134 c135 c136 c137 c138 c139 c140 c141 c142 c143 c144 c145 c146 c147 c148 c149 c150 c151 c152 c153 c154 c155 c156 c157 c158 c159 c160 c161 c162 c163 c164 c165 c166 c167 c168 c169 c170 c171 c172 c173 c174 c175 c176 c177 c178 c179 c180 c181 c182 c183 c184 c185 c186 c187 c188 c189 c190 c191 c192 c193 c194 c195 c196 c197 c198 c199 c200 c201 c202 c203 c204 c205 c206 c207 c208 c209 c210 c211 c212 c213 c214 c215 c216 c217 c218 c219 c220 c221 c222 c223 c224 c225 c226 c227 c228 c229 c230 c231 c232 c233 c234 c235 c236 c237 c238 c239 c240 c241 c242 c243 c244 c245 c246 c247 c248 c249 c250 c251 c252 c253 c254 c255 c256 c257 c258 c259 c260 c261 c262 c263 c264 c265 c266 c267 c268 c269 c270 c271 c272 c273 c274 c275 c276 c277 c278 c279 c280 c281 c282 c283 c284 c285 c286 c287 c288 c289 c290 c291 c292 c293 c294 c295 c296 c297 c298 c299 c300 c301 c302 c303 c304 c305 c306 c307 c308 c309 c310 c311 c312 c313 c314 c315 c316 c317 c318 c319 c320 c321 c322 c323 c324 c325 c326 c327 c328 c329 c330 c331 c332 c333 c334 c335 c336 c337 c338 c339 c340 c341 c342 c343 c344 c345 c346 c347 c348 c349 c350 : Value} :
    Code.wp Tryz.prog from3 (bodyPost Tryz.prog Tryz.f3 fun e w' => e = .returned (.bool true) ∧ Below w.heap.size w w') ⟨#[.agg #[.string b.id, .int .i64 b.valid, .int .i64 b.next, .int .i64 b.high, .slice WA wn wcp, .slice MA mn mcp], .agg #[.int .i64 u, .int .i64 md, .int .i64 d, .string id, .int .i64 fl, .slice KA kn kc, .string tx], .slice A n cp, .int .i64 k, .int .i64 how, .pointer (some { block := w.heap.size, off := 0 }), .pointer (some { block := w.heap.size + 1, off := 0 }), c7, c8, c9, c10, c11, c12, c13, c14, c15, c16, c17, c18, c19, c20, c21, c22, c23, c24, c25, c26, c27, c28, c29, c30, c31, c32, c33, c34, c35, c36, c37, c38, c39, c40, c41, c42, c43, c44, c45, c46, c47, c48, c49, c50, c51, c52, c53, c54, c55, c56, c57, c58, c59, c60, c61, c62, c63, c64, c65, c66, c67, c68, c69, c70, c71, c72, c73, c74, c75, c76, c77, c78, c79, c80, c81, c82, c83, c84, c85, c86, c87, c88, c89, c90, c91, c92, c93, c94, c95, c96, c97, c98, c99, c100, c101, c102, c103, c104, c105, c106, c107, c108, c109, c110, c111, c112, c113, c114, c115, c116, c117, c118, c119, c120, c121, c122, c123, c124, c125, c126, c127, c128, c129, c130, c131, c132, c133, c134, c135, c136, c137, c138, c139, c140, c141, c142, c143, c144, c145, c146, c147, c148, c149, c150, c151, c152, c153, c154, c155, c156, c157, c158, c159, c160, c161, c162, c163, c164, c165, c166, c167, c168, c169, c170, c171, c172, c173, c174, c175, c176, c177, c178, c179, c180, c181, c182, c183, c184, c185, c186, c187, c188, c189, c190, c191, c192, c193, c194, c195, c196, c197, c198, c199, c200, c201, c202, c203, c204, c205, c206, c207, c208, c209, c210, c211, c212, c213, c214, c215, c216, c217, c218, c219, c220, c221, c222, c223, c224, c225, c226, c227, c228, c229, c230, c231, c232, c233, c234, c235, c236, c237, c238, c239, c240, c241, c242, c243, c244, c245, c246, c247, c248, c249, c250, c251, c252, c253, c254, c255, c256, c257, c258, c259, c260, c261, c262, c263, c264, c265, c266, c267, c268, c269, c270, c271, c272, c273, c274, c275, c276, c277, c278, c279, c280, c281, c282, c283, c284, c285, c286, c287, c288, c289, c290, c291, c292, c293, c294, c295, c296, c297, c298, c299, c300, c301, c302, c303, c304, c305, c306, c307, c308, c309, c310, c311, c312, c313, c314, c315, c316, c317, c318, c319, c320, c321, c322, c323, c324, c325, c326, c327, c328, c329, c330, c331, c332, c333, c334, c335, c336, c337, c338, c339, c340, c341, c342, c343, c344, c345, c346, c347, c348, c349, c350], []⟩ wd := by
  have HX := Lib.hid h1
  have HM := Lib.hid h2
  have HZ := Lib.hid h4
  have HT := Lib.hid ht
  have HWC := Lib.hid hwc
  have HMC := Lib.hid hmc
  have HAW := Lib.hid (fun (wr : World) (hb : Below w.heap.size w wr) => RwAw.awake (ht.below hb (Nat.le_refl _)))
  have HE := Lib.hid he
  have HFW := Lib.hid hfw
  have HHD := Lib.hid ((mb_iff b).1 he)
  clear ht h1 h2 h4 hwc hmc he hfw
  conv => arg 2; whnf
  conv => arg 4; dsimp only
  have HS1 := Lib.hid hs
  clear hs
  obtain ⟨b0, b1, b2, b3, b4, b5, _⟩ := six_at HS1.out.bb
  obtain ⟨m0, m1, m2, m3, m4, m5, m6⟩ := seven_at HS1.out.mm
  obtain ⟨eA, heA⟩ : ∃ eA, eA = addE b d id fl words tx := ⟨_, rfl⟩
  have ka := RwW15.add_any (date := d) (flags := fl) (id := id) (text := tx) (b := b) (mcp := mcp) (wc := wcp) (cp := cp) (HT.out.below HS1.out.bel (Nat.le_refl _)) (StrsAt.below HX.out HS1.out.bel (Nat.le_refl _)) (MsgsAt.below HM.out HS1.out.bel (Nat.le_refl _)) HWC.out HMC.out HS1.out.bel.size (StrsAt.below HZ.out HS1.out.bel (Nat.le_refl _)) hcp hn HFW.out z2 z3
  rw [← heA] at ka
  have KAdd := Lib.hid ka
  have HEA := Lib.hid heA
  clear ka heA
  go_upto_region 3 with fail
  go_cut [11, 12] (fun s11 s12 wx => ∃ (L2 : Option Addr) (ln lc : Nat), s11 = .slice L2 ln lc ∧ s12 = .int .i64 eA ∧ ln ≤ lc ∧ Hid (St w wx #[.string b.id, .int .i64 b.valid, .int .i64 b.next, .int .i64 b.high, .slice WA wn wcp, .slice MA mn mcp] #[.int .i64 u, .int .i64 md, .int .i64 d, .string id, .int .i64 fl, .slice KA kn kc, .string tx]) ∧ Hid (RowsAt wx wx.heap.size L2 ln (RwW15.addP b d id fl words tx)))
  case first =>
    go_wp2_with (go_at_call 13; go_loud (
       refine KAdd.out.mono ?_
       rintro e w2 ⟨L2, ln, lc, rfl, hlc, hl, hb2⟩
       have HS2 := Lib.hid (HS1.out.go hb2)
       have HL := Lib.hid hl
       clear hl hb2 b0 b1 b2 b3 b4 b5 m0 m1 m2 m3 m4 m5 m6))
    go_meet
    exact ⟨L2, ln, lc, rfl, rfl, hlc, HS2, HL⟩
  case rest =>
    obtain ⟨L2, ln, lc, rfl, rfl, hlc, HS2, HL⟩ := hcut
    apply_assumption
    exact RdA.part HT.out HX.out HM.out HZ.out HWC.out HMC.out hcp hn z2 z3 HE.out HFW.out HEA.out hlc HL.out HS2.out
end Go.Proofs.YtchlbbndfhibgaaGreatDoor.RdG
