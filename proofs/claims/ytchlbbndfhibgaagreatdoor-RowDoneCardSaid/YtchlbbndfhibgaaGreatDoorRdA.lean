/-
  RowDone from its region 4: a message is added.
-/
import Derived.Test.YtchlbbndfhibgaaGreatDoorRdB
import Derived.Deep.RegionHeld3
import Derived.Deep.DeepCutAuto
set_option linter.unusedVariables false
set_option linter.unusedSimpArgs false
namespace Go.Proofs.YtchlbbndfhibgaaGreatDoor.RdA
open Go.RowKit Go.Proofs.YtchlbbndfhibgaaGreatDoor.BxD Go.Proofs.YtchlbbndfhibgaaGreatDoor.BxKit Go.Proofs.YtchlbbndfhibgaaGreatDoor.BxA Go.Proofs.YtchlbbndfhibgaaGreatDoor.BxB Go.Proofs.YtchlbbndfhibgaaGreatDoor.BxR Go.Proofs.YtchlbbndfhibgaaGreatDoor.BxH Go.Proofs.YtchlbbndfhibgaaGreatDoor.BxF Go.Proofs.YtchlbbndfhibgaaGreatDoor.BxV Go.Proofs.YtchlbbndfhibgaaGreatDoor.RwD Go.Proofs.YtchlbbndfhibgaaGreatDoor.RwM Go.Proofs.YtchlbbndfhibgaaGreatDoor.RwF Go.Proofs.YtchlbbndfhibgaaGreatDoor.RwKit Go.Proofs.YtchlbbndfhibgaaGreatDoor.RdF Go.Proofs.YtchlbbndfhibgaaGreatDoor.RdD Go.Proofs.YtchlbbndfhibgaaGreatDoor.RpD Go.Proofs.YtchlbbndfhibgaaGreatDoor.RdS

noncomputable def from4 : Code := tl from3
set_option maxHeartbeats 8000000 in
set_option maxRecDepth 1000000 in
theorem part {b : Box} {u md d fl k how : Int} {id tx : ByteArray} {WA MA KA A : Option Addr} {wn wcp mn mcp kn kc n cp : Nat} {words : List ByteArray} {w : World} (ht : RwW15.Tab w) (h1 : StrsAt w w.heap.size WA wn b.words) (h2 : MsgsAt w w.heap.size MA mn b.msgs) (h4 : StrsAt w w.heap.size A n words) (hwc : wn ≤ wcp) (hmc : mn ≤ mcp) (hcp : n ≤ cp) (hn : n ≤ 8796093022208) (z2 : id.size ≤ 140737488355328) (z3 : tx.size ≤ 140737488355328) (he : mbE b = 0) (hfw : Fw n words) {wd : World} {L2 : Option Addr} {ln lc : Nat} {eA : Int} (heA : eA = addE b d id fl words tx) (hlc : ln ≤ lc) (hl : RowsAt wd wd.heap.size L2 ln (RwW15.addP b d id fl words tx)) (hs : St w wd #[.string b.id, .int .i64 b.valid, .int .i64 b.next, .int .i64 b.high, .slice WA wn wcp, .slice MA mn mcp] #[.int .i64 u, .int .i64 md, .int .i64 d, .string id, .int .i64 fl, .slice KA kn kc, .string tx]) {c7 c8 c9 c10 c13 c14 c15 c16 c17 c18 c19 c20 c21 c22 c23 c24 c25 c26 c27 c28 c29 c30 c31 c32 c33 c34 c35 c36 c37 c38 c39 c40 c41 c42 c43 c44 c45 c46 c47 c48 c49 c50 c51 c52 c53 c54 c55 c56 c57 c58 c59 c60 c61 c62 c63 c64 c65 c66 c67 c68 c69 c70 c71 c72 c73 c74 c75 c76 c77 c78 c79 c80 c81 c82 c83 c84 c85 c86 c87 c88 c89 c90 c91 c92 c93 c94 c95 c96 c97 c98 c99 c100 c101 c102 c103 c104 c105 c106 c107 c108 c109 c110 c111 c112 c113 c114 c115 c116 c117 c118 c119 c120 c121 c122 c123 c124 c125 c126 c127 c128 c129 c130 c131 c132 c133 c134 c135 c136 c137 c138 c139 c140 c141 c142 c143 c144 c145 c146 c147 c148 c149 c150 c151 c152 c153 c154 c155 c156 c157 c158 c159 c160 c161 c162 c163 c164 c165 c166 c167 c168 c169 c170 c171 c172 c173 c174 c175 c176 c177 c178 c179 c180 c181 c182 c183 c184 c185 c186 c187 c188 c189 c190 c191 c192 c193 c194 c195 c196 c197 c198 c199 c200 c201 c202 c203 c204 c205 c206 c207 c208 c209 c210 c211 c212 c213 c214 c215 c216 c217 c218 c219 c220 c221 c222 c223 c224 c225 c226 c227 c228 c229 c230 c231 c232 c233 c234 c235 c236 c237 c238 c239 c240 c241 c242 c243 c244 c245 c246 c247 c248 c249 c250 c251 c252 c253 c254 c255 c256 c257 c258 c259 c260 c261 c262 c263 c264 c265 c266 c267 c268 c269 c270 c271 c272 c273 c274 c275 c276 c277 c278 c279 c280 c281 c282 c283 c284 c285 c286 c287 c288 c289 c290 c291 c292 c293 c294 c295 c296 c297 c298 c299 c300 c301 c302 c303 c304 c305 c306 c307 c308 c309 c310 c311 c312 c313 c314 c315 c316 c317 c318 c319 c320 c321 c322 c323 c324 c325 c326 c327 c328 c329 c330 c331 c332 c333 c334 c335 c336 c337 c338 c339 c340 c341 c342 c343 c344 c345 c346 c347 c348 c349 c350 : Value} :
    Code.wp Tryz.prog from4 (bodyPost Tryz.prog Tryz.f3 fun e w' => e = .returned (.bool true) ∧ Below w.heap.size w w') ⟨#[.agg #[.string b.id, .int .i64 b.valid, .int .i64 b.next, .int .i64 b.high, .slice WA wn wcp, .slice MA mn mcp], .agg #[.int .i64 u, .int .i64 md, .int .i64 d, .string id, .int .i64 fl, .slice KA kn kc, .string tx], .slice A n cp, .int .i64 k, .int .i64 how, .pointer (some { block := w.heap.size, off := 0 }), .pointer (some { block := w.heap.size + 1, off := 0 }), c7, c8, c9, c10, .slice L2 ln lc, .int .i64 eA, c13, c14, c15, c16, c17, c18, c19, c20, c21, c22, c23, c24, c25, c26, c27, c28, c29, c30, c31, c32, c33, c34, c35, c36, c37, c38, c39, c40, c41, c42, c43, c44, c45, c46, c47, c48, c49, c50, c51, c52, c53, c54, c55, c56, c57, c58, c59, c60, c61, c62, c63, c64, c65, c66, c67, c68, c69, c70, c71, c72, c73, c74, c75, c76, c77, c78, c79, c80, c81, c82, c83, c84, c85, c86, c87, c88, c89, c90, c91, c92, c93, c94, c95, c96, c97, c98, c99, c100, c101, c102, c103, c104, c105, c106, c107, c108, c109, c110, c111, c112, c113, c114, c115, c116, c117, c118, c119, c120, c121, c122, c123, c124, c125, c126, c127, c128, c129, c130, c131, c132, c133, c134, c135, c136, c137, c138, c139, c140, c141, c142, c143, c144, c145, c146, c147, c148, c149, c150, c151, c152, c153, c154, c155, c156, c157, c158, c159, c160, c161, c162, c163, c164, c165, c166, c167, c168, c169, c170, c171, c172, c173, c174, c175, c176, c177, c178, c179, c180, c181, c182, c183, c184, c185, c186, c187, c188, c189, c190, c191, c192, c193, c194, c195, c196, c197, c198, c199, c200, c201, c202, c203, c204, c205, c206, c207, c208, c209, c210, c211, c212, c213, c214, c215, c216, c217, c218, c219, c220, c221, c222, c223, c224, c225, c226, c227, c228, c229, c230, c231, c232, c233, c234, c235, c236, c237, c238, c239, c240, c241, c242, c243, c244, c245, c246, c247, c248, c249, c250, c251, c252, c253, c254, c255, c256, c257, c258, c259, c260, c261, c262, c263, c264, c265, c266, c267, c268, c269, c270, c271, c272, c273, c274, c275, c276, c277, c278, c279, c280, c281, c282, c283, c284, c285, c286, c287, c288, c289, c290, c291, c292, c293, c294, c295, c296, c297, c298, c299, c300, c301, c302, c303, c304, c305, c306, c307, c308, c309, c310, c311, c312, c313, c314, c315, c316, c317, c318, c319, c320, c321, c322, c323, c324, c325, c326, c327, c328, c329, c330, c331, c332, c333, c334, c335, c336, c337, c338, c339, c340, c341, c342, c343, c344, c345, c346, c347, c348, c349, c350], []⟩ wd := by
  have HX := Lib.hid h1
  have HM := Lib.hid h2
  have HZ := Lib.hid h4
  have HT := Lib.hid ht
  have HWC := Lib.hid hwc
  have HMC := Lib.hid hmc
  have HAW := Lib.hid (fun (wr : World) (hb : Below w.heap.size w wr) => RwAw.awake (ht.below hb (Nat.le_refl _)))
  have HE := Lib.hid he
  have HFW := Lib.hid hfw
  have HHD := Lib.hid ((mb_iff b).1 he)
  clear ht h1 h2 h4 hwc hmc he hfw
  conv => arg 2; whnf
  have HS2 := Lib.hid hs
  have HL := Lib.hid hl
  have HEA := Lib.hid heA
  clear hs hl heA
  go_upto_if 64 with fail
  go_cut [13] (fun _ wx => Hid (St w wx #[.string b.id, .int .i64 b.valid, .int .i64 b.next, .int .i64 b.high, .slice WA wn wcp, .slice MA mn mcp] #[.int .i64 u, .int .i64 md, .int .i64 d, .string id, .int .i64 fl, .slice KA kn kc, .string tx]))
  case first =>
    by_cases hA : eA = 0
    case neg =>
      have hne : (eA == 0) = false := by simpa using hA
      clear hA
      go_wp2_with fail
      go_meet
      exact HS2
    subst hA
    have HEZ := Lib.hid HEA.out.symm
    have hl := HL.out
    unfold RwW15.addP at hl
    rw [if_pos HEZ.out] at hl
    have HLL := Lib.hid hl
    have hlen := hl.len
    have hl65 := (add_back HEZ.out).1
    clear hl HL HEA
    have ka := RdS.allq (b := b) (wc := wcp) (mcp := mcp) (cp := lc) (StrsAt.more (StrsAt.below HX.out HS2.out.bel (Nat.le_refl _)) HS2.out.bel.size) (MsgsAt.more (MsgsAt.below HM.out HS2.out.bel (Nat.le_refl _)) HS2.out.bel.size) HWC.out HMC.out (Nat.le_refl _) HLL.out hlc (fun r hr => by have := (add_few HEZ.out r hr).1; omega)
    rw [add_all HEZ.out] at ka
    have KL := Lib.hid ka
    clear ka
    obtain ⟨b0, b1, b2, b3, b4, b5, _⟩ := six_at HS2.out.bb
    go_upto_region 6 with (go_at_call 14; go_loud (
       refine KL.out.mono ?_
       rintro e w3 ⟨CA, cn, cc, NA, nn, nc, rfl, hcc, hnc, hl3, hb3⟩
       have hb30 := HS2.out.bel.trans (hb3.mono HS2.out.bel.size)
       have HC := Lib.hid (Sb.new (w := w) (c := addC b d id fl words tx) hb30 hb3.size hcc hnc hl3)
       have hbx := hb3.alloc hb3.size (.cells #[.string (addC b d id fl words tx).id, .int .i64 (addC b d id fl words tx).valid, .int .i64 (addC b d id fl words tx).next, .int .i64 (addC b d id fl words tx).high, .slice CA cn cc, .slice NA nn nc] 25)
       have HS3 := Lib.hid (HS2.out.go hbx)
       have HL3 := Lib.hid (RowsAt.more (RowsAt.below HLL.out hbx (Nat.le_refl _)) hbx.size)
       clear hl3 hb3 hb30 hbx hcc hnc b0 b1 b2 b3 b4 b5))
    clear KL HLL
    obtain ⟨Q, hQ⟩ : ∃ Q, Q = w3.heap.size := ⟨_, rfl⟩
    rw [← hQ] at HC ⊢
    clear hQ
    generalize (World.alloc w3 _) = w4 at HC HS3 HL3 ⊢
    have hnn : nn = mn + 1 := by
      have h1 := HC.out.ms.len
      have h2 := HM.out.len
      have h3 : (addC b d id fl words tx).msgs.length = b.msgs.length + 1 := by show (b.msgs ++ [_]).length = _; simp
      omega
    subst hnn
    obtain ⟨_, _, _, a4, a5, a6, a7⟩ := addE_parts HEZ.out
    obtain ⟨_, _, _, p4, p5⟩ := head_parts HHD.out.1
    have hmn := HM.out.max
    have n1 : IntKind.i64.wrap (b.next + 1) = b.next + 1 := IntWalk.i64_in _ (by omega)
    have n2 : IntKind.i64.wrap (b.high + 1) = b.high + 1 := IntWalk.i64_in _ (by omega)
    have n3 : IntKind.i64.wrap ((mn : Int) + 1) = (mn : Int) + 1 := IntWalk.i64_in _ (by omega)
    have n4 : IntKind.i64.wrap ((mn : Int) + 1 - 1) = (mn : Int) := by rw [show (mn : Int) + 1 - 1 = mn by omega]; exact IntWalk.i64_in _ (by omega)
    have n5 : IntKind.i64.wrap (mn : Int) = (mn : Int) := IntWalk.i64_in _ (by omega)
    have v1 : (b.next + 1 != b.next + 1) = false := by simp
    have v2 : (b.high + 1 != b.high + 1) = false := by simp
    have v3 : ((mn : Int) + 1 != (mn : Int) + 1) = false := by simp
    have KB := Lib.hid (RpY.bytes_any (cp := lc) HL3.out (Nat.le_refl _) (fun r hr => by obtain ⟨x1, x2, x3, x4⟩ := add_few HEZ.out r hr; exact ⟨by omega, by omega, by omega, by omega⟩))
    go_upto_region 7 with (first
      | (go_at_call 16; go_loud (
         refine KB.out.mono ?_
         rintro e w5 ⟨YA, yn, yc, rfl, hyc, hyn, hby, hb5⟩
         have kp := RpP.parse_any (cp := yc) hby (Nat.le_refl _) (by omega)
         rw [(add_back HEZ.out).2] at kp
         have KP := Lib.hid kp
         have HS5 := Lib.hid (HS3.out.go hb5)
         have HC5 := Lib.hid (HC.out.go hb5)
         have HL5 := Lib.hid (RowsAt.more (RowsAt.below HL3.out hb5 (Nat.le_refl _)) hb5.size)
         clear kp hby hb5))
      | (go_at_call 15; go_loud (
         refine KP.out.mono ?_
         rintro e w6 ⟨ZA, zn, zc, rfl, hzc, hzr, hb6⟩
         have HS6 := Lib.hid (HS5.out.go hb6)
         have HC6 := Lib.hid (HC5.out.go hb6)
         have ks0 := RpT.sameRows_any (cp := zc) (cp' := lc) hzr (RowsAt.more (RowsAt.below HL5.out hb6 (Nat.le_refl _)) hb6.size) (Nat.le_refl _) (Nat.le_refl _)
         rw [decide_eq_true rfl] at ks0
         have KS := Lib.hid ks0
         clear hzr hb6 ks0)))
    clear KB KP HS3 HS5 HC HC5 HL3 HL5
    go_upto_region 9 with (first
      | (go_at_call 17; go_loud (
         refine KS.out.mono ?_
         rintro e w7 ⟨rfl, hb7⟩
         have HS7 := Lib.hid (HS6.out.go hb7)
         have HC7 := Lib.hid (HC6.out.go hb7)
         obtain ⟨q0, q1, q2, q3, q4, q5⟩ := cfacts HC7.out.blk
         have KY := Lib.hid (show Calls Tryz.prog 10 #[.agg #[.string b.id, .int .i64 b.valid, .int .i64 (b.next + 1), .int .i64 (b.high + 1), .slice CA cn cc, .slice NA (mn + 1) nc]] w7 (fun e w' => e = .returned (.int .i64 0) ∧ Below w7.heap.size w7 w') from (may_box (bid := b.id) (bv := b.valid) (bn := b.next + 1) (bh := b.high + 1) (wc := cc) (mc := nc) HC7.out.ws HC7.out.ms (Nat.le_refl _) HC7.out.hwc).mono (fun e w' h => ⟨by rw [h.1]; exact congrArg (fun z : Int => Ending.returned (.int .i64 z)) (add_done HEZ.out).2, h.2⟩))
         clear hb7))
      | (go_at_call 10; go_loud (
         refine KY.out.mono ?_
         rintro e w8 ⟨rfl, hb8⟩
         have HS8 := Lib.hid (HS7.out.go hb8)
         have HC8 := Lib.hid (HC7.out.go hb8)
         clear hb8 q0 q1 q2 q3 q4 q5
         obtain ⟨b0, b1, b2, b3, b4, b5, _⟩ := six_at HS8.out.bb
         obtain ⟨q0, q1, q2, q3, q4, q5⟩ := cfacts HC8.out.blk)))
    clear KS KY HS6 HS7 HC6 HC7
    obtain ⟨ad, u', md', d', id', fl', ks', tx', K', kn', kc', rfl, hab', e1, g0, g1, g2, g3, g4, g5, g6, hkc', hks', _, _⟩ := MsgsAt.sp HC8.out.ms (Below.refl _ _) (Nat.le_refl _) (show mn < mn + 1 by omega)
    have e2 : (addC b d id fl words tx).msgs[mn]? = some (addM b d id fl words tx) := by
      show (b.msgs ++ [_])[mn]? = _
      have := HM.out.len
      rw [List.getElem?_append_right (by omega), this, Nat.sub_self]
      rfl
    have e3 := Option.some.inj (e1.symm.trans e2)
    have e4 : ks' = (addM b d id fl words tx).keys := congrArg Msg.keys e3
    have x1 : b.next = u' := (congrArg Msg.uid e3).symm
    have x3 : d = d' := (congrArg Msg.date e3).symm
    have x5 : fl = fl' := (congrArg Msg.flags e3).symm
    have x7 : tx = tx' := (congrArg Msg.text e3).symm
    subst x1 x3 x5 x7
    clear e1 e2 e3
    have hk60 : kn' ≤ 60000 := by
      have h1 := hks'.len
      have h2 := (keys_fit (PtD.mm_parts a7).2.2.2.2.2.1 a4).2
      rw [← e4] at h2
      omega
    have i1 : (0 : Int) ≤ (mn : Int) := by omega
    have i2 : (mn : Int) < (mn : Int) + 1 := by omega
    have HIK := Lib.hid hks'
    clear hks'
    go_upto_region 10 with fail
    have hbn := (Below.refl w8.heap.size w8).alloc (Nat.le_refl _) (.cells #[.int .i64 b.next, .int .i64 md', .int .i64 d, .string id', .int .i64 fl, .slice K' kn' kc', .string tx] 28)
    have HN := Lib.hid (heap_alloc_new w8 (.cells #[.int .i64 b.next, .int .i64 md', .int .i64 d, .string id', .int .i64 fl, .slice K' kn' kc', .string tx] 28))
    have HS9 := Lib.hid (HS8.out.go hbn)
    have HC9 := Lib.hid (HC8.out.go hbn)
    have HK9 := Lib.hid (IntsAt.below HIK.out hbn (Nat.le_refl _))
    have hs9 := hbn.size
    clear hbn HS8 HC8 HIK b0 b1 b2 b3 b4 b5 q0 q1 q2 q3 q4 q5 g0 g1 g2 g3 g4 g5 g6 i1 i2
    obtain ⟨P, hP⟩ : ∃ P, P = w8.heap.size := ⟨_, rfl⟩
    rw [← hP] at HN HK9 hs9 ⊢
    generalize (World.alloc w8 _) = w9 at HN HS9 HC9 HK9 hs9 ⊢
    clear hP
    obtain ⟨b0, b1, b2, b3, b4, b5, _⟩ := six_at HS9.out.bb
    obtain ⟨m0, m1, m2, m3, m4, m5, m6⟩ := seven_at HS9.out.mm
    obtain ⟨q0, q1, q2, q3, q4, q5⟩ := cfacts HC9.out.blk
    obtain ⟨t0, t1, t2, t3, t4, t5, t6⟩ := seven_at HN.out
    have kw := words_any (bid := b.id) (bv := b.valid) (bn := b.next + 1) (bh := b.high + 1) (u := b.next) (md := md') (d := d) (id := id') (fl := fl) (tx := tx) (wc := cc) (mc := nc) (kc := kc') (MA := some ad) (mn := mn + 1) HC9.out.ws HK9.out (Nat.le_refl _) hs9 hk60
    have HWL := Lib.hid (show (wordsOf (addC b d id fl words tx).words ks').length = n by rw [e4, add_words HEZ.out]; exact HZ.out.len)
    have KW := Lib.hid kw
    have z1 : (b.next != b.next) = false := by simp
    have z2' : (fl != fl) = false := by simp
    have z3' : (d != d) = false := by simp
    have z4 : ((n : Int) != (n : Int)) = false := by simp
    clear kw e4
    go_wp2_with (go_at_call 18; go_loud (
       refine KW.out.mono ?_
       rintro e wf ⟨WA', wn', wc', rfl, _, hws, hbf⟩
       have hwn : wn' = n := hws.len.symm.trans HWL.out
       subst hwn
       have HSf := Lib.hid (HS9.out.go hbf)
       clear hws hbf b0 b1 b2 b3 b4 b5 q0 q1 q2 q3 q4 q5 m0 m1 m2 m3 m4 m5 m6 t0 t1 t2 t3 t4 t5 t6))
    go_meet
    exact HSf
  case rest =>
    apply_assumption
    exact RdB.part HT.out HX.out HM.out HZ.out HWC.out HMC.out hcp hn z2 z3 HE.out HFW.out hcut.out
end Go.Proofs.YtchlbbndfhibgaaGreatDoor.RdA
