/-
  RowDone from its region 12: flags.
-/
import Derived.Test.YtchlbbndfhibgaaGreatDoorRdC
import Derived.Deep.RegionHeld3
import Derived.Deep.DeepCutAuto
set_option linter.unusedVariables false
set_option linter.unusedSimpArgs false
namespace Go.Proofs.YtchlbbndfhibgaaGreatDoor.RdB
open Go.RowKit Go.Proofs.YtchlbbndfhibgaaGreatDoor.BxD Go.Proofs.YtchlbbndfhibgaaGreatDoor.BxKit Go.Proofs.YtchlbbndfhibgaaGreatDoor.BxA Go.Proofs.YtchlbbndfhibgaaGreatDoor.BxB Go.Proofs.YtchlbbndfhibgaaGreatDoor.BxR Go.Proofs.YtchlbbndfhibgaaGreatDoor.BxH Go.Proofs.YtchlbbndfhibgaaGreatDoor.BxF Go.Proofs.YtchlbbndfhibgaaGreatDoor.BxV Go.Proofs.YtchlbbndfhibgaaGreatDoor.RwD Go.Proofs.YtchlbbndfhibgaaGreatDoor.RwM Go.Proofs.YtchlbbndfhibgaaGreatDoor.RwF Go.Proofs.YtchlbbndfhibgaaGreatDoor.RwKit Go.Proofs.YtchlbbndfhibgaaGreatDoor.RdF Go.Proofs.YtchlbbndfhibgaaGreatDoor.RdD Go.Proofs.YtchlbbndfhibgaaGreatDoor.RpD Go.Proofs.YtchlbbndfhibgaaGreatDoor.RdS

set_option maxHeartbeats 8000000 in
set_option maxRecDepth 1000000 in
theorem part {b : Box} {u md d fl k how : Int} {id tx : ByteArray} {WA MA KA A : Option Addr} {wn wcp mn mcp kn kc n cp : Nat} {words : List ByteArray} {w : World} (ht : RwW15.Tab w) (h1 : StrsAt w w.heap.size WA wn b.words) (h2 : MsgsAt w w.heap.size MA mn b.msgs) (h4 : StrsAt w w.heap.size A n words) (hwc : wn ≤ wcp) (hmc : mn ≤ mcp) (hcp : n ≤ cp) (hn : n ≤ 8796093022208) (z2 : id.size ≤ 140737488355328) (z3 : tx.size ≤ 140737488355328) (he : mbE b = 0) (hfw : Fw n words) {wd : World} (hs : St w wd #[.string b.id, .int .i64 b.valid, .int .i64 b.next, .int .i64 b.high, .slice WA wn wcp, .slice MA mn mcp] #[.int .i64 u, .int .i64 md, .int .i64 d, .string id, .int .i64 fl, .slice KA kn kc, .string tx]) {c7 c8 c9 c10 c11 c12 c13 c14 c15 c16 c17 c18 c19 c20 c21 c22 c23 c24 c25 c26 c27 c28 c29 c30 c31 c32 c33 c34 c35 c36 c37 c38 c39 c40 c41 c42 c43 c44 c45 c46 c47 c48 c49 c50 c51 c52 c53 c54 c55 c56 c57 c58 c59 c60 c61 c62 c63 c64 c65 c66 c67 c68 c69 c70 c71 c72 c73 c74 c75 c76 c77 c78 c79 c80 c81 c82 c83 c84 c85 c86 c87 c88 c89 c90 c91 c92 c93 c94 c95 c96 c97 c98 c99 c100 c101 c102 c103 c104 c105 c106 c107 c108 c109 c110 c111 c112 c113 c114 c115 c116 c117 c118 c119 c120 c121 c122 c123 c124 c125 c126 c127 c128 c129 c130 c131 c132 c133 c134 c135 c136 c137 c138 c139 c140 c141 c142 c143 c144 c145 c146 c147 c148 c149 c150 c151 c152 c153 c154 c155 c156 c157 c158 c159 c160 c161 c162 c163 c164 c165 c166 c167 c168 c169 c170 c171 c172 c173 c174 c175 c176 c177 c178 c179 c180 c181 c182 c183 c184 c185 c186 c187 c188 c189 c190 c191 c192 c193 c194 c195 c196 c197 c198 c199 c200 c201 c202 c203 c204 c205 c206 c207 c208 c209 c210 c211 c212 c213 c214 c215 c216 c217 c218 c219 c220 c221 c222 c223 c224 c225 c226 c227 c228 c229 c230 c231 c232 c233 c234 c235 c236 c237 c238 c239 c240 c241 c242 c243 c244 c245 c246 c247 c248 c249 c250 c251 c252 c253 c254 c255 c256 c257 c258 c259 c260 c261 c262 c263 c264 c265 c266 c267 c268 c269 c270 c271 c272 c273 c274 c275 c276 c277 c278 c279 c280 c281 c282 c283 c284 c285 c286 c287 c288 c289 c290 c291 c292 c293 c294 c295 c296 c297 c298 c299 c300 c301 c302 c303 c304 c305 c306 c307 c308 c309 c310 c311 c312 c313 c314 c315 c316 c317 c318 c319 c320 c321 c322 c323 c324 c325 c326 c327 c328 c329 c330 c331 c332 c333 c334 c335 c336 c337 c338 c339 c340 c341 c342 c343 c344 c345 c346 c347 c348 c349 c350 : Value} :
    Code.wp Tryz.prog from12 (bodyPost Tryz.prog Tryz.f3 fun e w' => e = .returned (.bool true) ∧ Below w.heap.size w w') ⟨#[.agg #[.string b.id, .int .i64 b.valid, .int .i64 b.next, .int .i64 b.high, .slice WA wn wcp, .slice MA mn mcp], .agg #[.int .i64 u, .int .i64 md, .int .i64 d, .string id, .int .i64 fl, .slice KA kn kc, .string tx], .slice A n cp, .int .i64 k, .int .i64 how, .pointer (some { block := w.heap.size, off := 0 }), .pointer (some { block := w.heap.size + 1, off := 0 }), c7, c8, c9, c10, c11, c12, c13, c14, c15, c16, c17, c18, c19, c20, c21, c22, c23, c24, c25, c26, c27, c28, c29, c30, c31, c32, c33, c34, c35, c36, c37, c38, c39, c40, c41, c42, c43, c44, c45, c46, c47, c48, c49, c50, c51, c52, c53, c54, c55, c56, c57, c58, c59, c60, c61, c62, c63, c64, c65, c66, c67, c68, c69, c70, c71, c72, c73, c74, c75, c76, c77, c78, c79, c80, c81, c82, c83, c84, c85, c86, c87, c88, c89, c90, c91, c92, c93, c94, c95, c96, c97, c98, c99, c100, c101, c102, c103, c104, c105, c106, c107, c108, c109, c110, c111, c112, c113, c114, c115, c116, c117, c118, c119, c120, c121, c122, c123, c124, c125, c126, c127, c128, c129, c130, c131, c132, c133, c134, c135, c136, c137, c138, c139, c140, c141, c142, c143, c144, c145, c146, c147, c148, c149, c150, c151, c152, c153, c154, c155, c156, c157, c158, c159, c160, c161, c162, c163, c164, c165, c166, c167, c168, c169, c170, c171, c172, c173, c174, c175, c176, c177, c178, c179, c180, c181, c182, c183, c184, c185, c186, c187, c188, c189, c190, c191, c192, c193, c194, c195, c196, c197, c198, c199, c200, c201, c202, c203, c204, c205, c206, c207, c208, c209, c210, c211, c212, c213, c214, c215, c216, c217, c218, c219, c220, c221, c222, c223, c224, c225, c226, c227, c228, c229, c230, c231, c232, c233, c234, c235, c236, c237, c238, c239, c240, c241, c242, c243, c244, c245, c246, c247, c248, c249, c250, c251, c252, c253, c254, c255, c256, c257, c258, c259, c260, c261, c262, c263, c264, c265, c266, c267, c268, c269, c270, c271, c272, c273, c274, c275, c276, c277, c278, c279, c280, c281, c282, c283, c284, c285, c286, c287, c288, c289, c290, c291, c292, c293, c294, c295, c296, c297, c298, c299, c300, c301, c302, c303, c304, c305, c306, c307, c308, c309, c310, c311, c312, c313, c314, c315, c316, c317, c318, c319, c320, c321, c322, c323, c324, c325, c326, c327, c328, c329, c330, c331, c332, c333, c334, c335, c336, c337, c338, c339, c340, c341, c342, c343, c344, c345, c346, c347, c348, c349, c350], []⟩ wd := by
  have HX := Lib.hid h1
  have HM := Lib.hid h2
  have HZ := Lib.hid h4
  have HT := Lib.hid ht
  have HWC := Lib.hid hwc
  have HMC := Lib.hid hmc
  have HAW := Lib.hid (fun (wr : World) (hb : Below w.heap.size w wr) => RwAw.awake (ht.below hb (Nat.le_refl _)))
  have HE := Lib.hid he
  have HFW := Lib.hid hfw
  have HHD := Lib.hid ((mb_iff b).1 he)
  clear ht h1 h2 h4 hwc hmc he hfw
  conv => arg 2; whnf
  have HSa := Lib.hid hs
  clear hs
  obtain ⟨b0, b1, b2, b3, b4, b5, _⟩ := six_at HSa.out.bb
  by_cases hm0 : mn = 0
  · subst hm0
    have HBl := Lib.hid HSa.out.bel
    go_wp2_with (go_at_call 12; go_loud (refine (HAW.out _ HBl.out).mono ?_; rintro e w9 ⟨rfl, hb9⟩; have HB9 := Lib.hid (HBl.out.trans (hb9.mono HBl.out.size)); clear hb9))
    go_ret
    exact ⟨rfl, HB9.out⟩
  have hz0 : ((mn : Int) == 0) = false := by rw [beq_eq_false_iff_ne]; omega
  have hmm := HM.out.max
  have hu : IntKind.u64.wrap (mn : Int) = (mn : Int) := by rw [show IntKind.u64.wrap (mn : Int) = (mn : Int) % 18446744073709551616 from rfl]; omega
  obtain ⟨j, hj, hjj⟩ : ∃ j : Nat, j < mn ∧ wrap64 ((IntKind.u64.wrap k).tmod (mn : Int)) = (j : Int) := by
    have h0 : 0 ≤ IntKind.u64.wrap k := by rw [show IntKind.u64.wrap k = k % 18446744073709551616 from rfl]; exact Int.emod_nonneg _ (by decide)
    have h1 := Int.tmod_nonneg (mn : Int) h0
    have h2 := Int.tmod_lt_of_pos (IntKind.u64.wrap k) (show (0 : Int) < (mn : Int) by omega)
    refine ⟨((IntKind.u64.wrap k).tmod (mn : Int)).toNat, by omega, ?_⟩
    rw [Int.toNat_of_nonneg h1]
    exact IntWalk.wrap64_in _ (by omega)
  obtain ⟨ad, u', md', d', id', fl', ks', tx', K', kn', kc', rfl, hab', e1, g0, g1, g2, g3, g4, g5, g6, hkc', hks', _, _⟩ := MsgsAt.sp HM.out HSa.out.bel (Nat.le_refl _) hj
  have i1 : (0 : Int) ≤ (j : Int) := by omega
  have i2 : (j : Int) < (mn : Int) := by omega
  go_upto_region 14 with fail
  go_quiet (fail)
  have HSq := Lib.hid (HSa.out.go (below_drewN (Below.refl _ _) nq))
  generalize (World.drewN wd nq) = wb at HSq ⊢
  clear HSa b0 b1 b2 b3 b4 b5 g0 g1 g2 g3 g4 g5 g6 hu hz0 hjj i1 i2 hks' hkc'
  obtain ⟨b0, b1, b2, b3, b4, b5, _⟩ := six_at HSq.out.bb
  obtain ⟨m0, m1, m2, m3, m4, m5, m6⟩ := seven_at HSq.out.mm
  obtain ⟨ht1, ht2⟩ := theM_at HHD.out.2.2.2.2.2 e1
  have HTM := Lib.hid (show theM b.msgs u' = some ⟨u', md', d', id', fl', ks', tx'⟩ from ht1)
  have HJU := Lib.hid (show findI b.msgs u' = j from ht2)
  have HE1 := Lib.hid e1
  clear ht1 ht2 e1
  obtain ⟨eF, heF⟩ : ∃ eF, eF = flE b u' fl words how := ⟨_, rfl⟩
  have kf := RwApi2.flags_any (b := b) (u := u') (flags := fl) (how := how) (wc := wcp) (mc := mcp) (cp := cp) (show RwApi.Tab wb from HT.out.below HSq.out.bel (Nat.le_refl _)) (StrsAt.below HX.out HSq.out.bel (Nat.le_refl _)) (MsgsAt.below HM.out HSq.out.bel (Nat.le_refl _)) HWC.out HMC.out HSq.out.bel.size (StrsAt.below HZ.out HSq.out.bel (Nat.le_refl _)) hcp hn HFW.out
  rw [← heF] at kf
  have KF := Lib.hid kf
  have HEF := Lib.hid heF
  clear kf heF
  go_upto_if 192 with (go_at_call 19; go_loud (
     refine KF.out.mono ?_
     rintro e w2 ⟨L3, ln3, lc3, rfl, hlc3, hl3, hb3⟩
     have HSc := Lib.hid (HSq.out.go hb3)
     have HL3 := Lib.hid hl3
     clear hl3 hb3 b0 b1 b2 b3 b4 b5 m0 m1 m2 m3 m4 m5 m6))
  clear KF HSq
  go_cut [19] (fun _ wx => Hid (St w wx #[.string b.id, .int .i64 b.valid, .int .i64 b.next, .int .i64 b.high, .slice WA wn wcp, .slice (some ad) mn mcp] #[.int .i64 u, .int .i64 md, .int .i64 d, .string id, .int .i64 fl, .slice KA kn kc, .string tx]))
  case first =>
    by_cases hF : eF = 0
    case neg =>
      have hne : (eF == 0) = false := by simpa using hF
      clear hF
      go_wp2_with fail
      go_meet
      exact HSc
    subst hF
    have HFZ := Lib.hid HEF.out.symm
    have kl := RdS.allq (b := b) (wc := wcp) (mcp := mcp) (cp := lc3) (StrsAt.more (StrsAt.below HX.out HSc.out.bel (Nat.le_refl _)) HSc.out.bel.size) (MsgsAt.more (MsgsAt.below HM.out HSc.out.bel (Nat.le_refl _)) HSc.out.bel.size) HWC.out HMC.out (Nat.le_refl _) HL3.out hlc3 (flP_few HE.out)
    rw [all_flags HFZ.out HTM.out] at kl
    have KL := Lib.hid kl
    have hl3n : ln3 = (flL b u' fl words how).length := by
      have := HL3.out.len
      unfold RwApi2.flP RwW17.flP at this
      rw [if_pos HFZ.out] at this
      exact this.symm
    obtain ⟨y1, y2, y3, y4, y5, y6⟩ := flC_flags HFZ.out HTM.out
    obtain ⟨y7, y8, _⟩ := flC_at (flags := fl) (words := words) (how := how) HE.out HE1.out rfl
    have HFI := Lib.hid (fl_find HFZ.out HE1.out rfl HTM.out)
    have HFD := Lib.hid (fl_done HFZ.out HTM.out).2
    have HFA := Lib.hid (fl_again HFZ.out HTM.out)
    have hhow := (flE_parts HFZ.out).2.2.2.1
    obtain ⟨fc, hfc⟩ : ∃ fc, fc = flC b ⟨u', md', d', id', fl', ks', tx'⟩ u' fl words how := ⟨_, rfl⟩
    obtain ⟨bt, hbt⟩ : ∃ bt, bt = flBits ⟨u', md', d', id', fl', ks', tx'⟩ fl how := ⟨_, rfl⟩
    obtain ⟨bb, hbb1, hbb2, hbb3⟩ : ∃ bb : Bool, decide (b.high < fc.high) = bb ∧ decide (0 < (ln3 : Int)) = bb ∧ decide (0 < ln3) = bb := by
      have hnn : ∀ bb : Bool, decide (0 < (ln3 : Int)) = bb → decide (0 < ln3) = bb := fun bb h => by rw [← h]; exact decide_eq_decide.2 (by omega)
      suffices h : decide (0 < (ln3 : Int)) = decide (b.high < fc.high) from ⟨_, rfl, h, hnn _ h⟩
      rw [hfc, y5]
      by_cases hsm : flSame b ⟨u', md', d', id', fl', ks', tx'⟩ fl words how
      · rw [if_pos hsm, decide_eq_false (show ¬ (b.high < b.high + 0) by omega), decide_eq_false (show ¬ (0 < (ln3 : Int)) by have := y6.2 hsm; omega)]
      · have h3 : (flL b u' fl words how).length ≠ 0 := fun h => hsm (y6.1 h)
        rw [if_neg hsm, decide_eq_true (show b.high < b.high + 1 by omega), decide_eq_true (show 0 < (ln3 : Int) by omega)]
    rw [← hfc] at KL HFI HFD HFA y7 y8
    rw [← hbt] at y1 y2 y3 y4
    have HY7 := Lib.hid y7
    have HY1 := Lib.hid y1
    clear kl hl3n y5 y6 y7 hfc hbt HFZ HEF
    obtain ⟨b0, b1, b2, b3, b4, b5, _⟩ := six_at HSc.out.bb
    go_upto_region 18 with (go_at_call 14; go_loud (
       refine KL.out.mono ?_
       rintro e w3 ⟨CA, cn, cc, NA, nn, nc, rfl, hcc, hnc, hl4, hb4⟩
       have hb40 := HSc.out.bel.trans (hb4.mono HSc.out.bel.size)
       have HC := Lib.hid (Sb.new (w := w) (c := fc) hb40 hb4.size hcc hnc hl4)
       have hbx := hb4.alloc hb4.size (.cells #[.string fc.id, .int .i64 fc.valid, .int .i64 fc.next, .int .i64 fc.high, .slice CA cn cc, .slice NA nn nc] 25)
       have HS3 := Lib.hid (HSc.out.go hbx)
       clear hl4 hb4 hb40 hbx hcc hnc b0 b1 b2 b3 b4 b5))
    clear KL HSc HL3
    obtain ⟨Q, hQ⟩ : ∃ Q, Q = w3.heap.size := ⟨_, rfl⟩
    rw [← hQ] at HC ⊢
    clear hQ
    generalize (World.alloc w3 _) = w4 at HC HS3 ⊢
    have hnn : nn = mn := by
      have h1 := HC.out.ms.len
      have h2 := HM.out.len
      omega
    subst hnn
    have v1 : ¬ ((j : Int) < 0) := by omega
    have v2 : (j : Int) < (nn : Int) := by omega
    have v3 : (0 : Int) ≤ (j : Int) := by omega
    have v4 : ((nn : Int) != (nn : Int)) = false := by simp
    have KI := Lib.hid (find_any (uid := u') (bid := fc.id) (bv := fc.valid) (bn := fc.next) (bh := fc.high) (WA := CA) (wn := cn) (wc := cc) (mc := nc) HC.out.ms (Nat.le_refl _))
    have KI := Lib.hid (show Calls Tryz.prog 20 #[.agg #[.string fc.id, .int .i64 fc.valid, .int .i64 fc.next, .int .i64 fc.high, .slice CA cn cc, .slice NA nn nc], .int .i64 u'] w4 (fun e w' => e = .returned (.int .i64 (j : Int)) ∧ Below w4.heap.size w4 w') from KI.out.mono (fun e w' h => ⟨by rw [h.1, HFI.out], h.2⟩))
    obtain ⟨q0, q1, q2, q3, q4, q5, _⟩ := six_at HC.out.blk
    go_upto_region 19 with (go_at_call 20; go_loud (
       refine KI.out.mono ?_
       rintro e w5 ⟨rfl, hb5⟩
       have HS5 := Lib.hid (HS3.out.go hb5)
       have HC5 := Lib.hid (HC.out.go hb5)
       clear hb5 q0 q1 q2 q3 q4 q5))
    clear KI HS3 HC
    have KY := Lib.hid (show Calls Tryz.prog 10 #[.agg #[.string fc.id, .int .i64 fc.valid, .int .i64 fc.next, .int .i64 fc.high, .slice CA cn cc, .slice NA nn nc]] w5 (fun e w' => e = .returned (.int .i64 0) ∧ Below w5.heap.size w5 w') from (may_box (bid := fc.id) (bv := fc.valid) (bn := fc.next) (bh := fc.high) (wc := cc) (mc := nc) HC5.out.ws HC5.out.ms (Nat.le_refl _) HC5.out.hwc).mono (fun e w' h => ⟨by rw [h.1]; exact congrArg (fun z : Int => Ending.returned (.int .i64 z)) HFD.out, h.2⟩))
    obtain ⟨q0, q1, q2, q3, q4, q5, _⟩ := six_at HC5.out.blk
    go_upto_region 21 with (go_at_call 10; go_loud (
       refine KY.out.mono ?_
       rintro e w6 ⟨rfl, hb6⟩
       have HS6 := Lib.hid (HS5.out.go hb6)
       have HC6 := Lib.hid (HC5.out.go hb6)
       clear hb6 q0 q1 q2 q3 q4 q5
       obtain ⟨b0, b1, b2, b3, b4, b5, _⟩ := six_at HS6.out.bb
       obtain ⟨q0, q1, q2, q3, q4, q5, _⟩ := six_at HC6.out.blk))
    clear KY HS5 HC5
    obtain ⟨ae, eu, em', ed, ei, ef, ek, et, eK, ekn, ekc, rfl, hae, z1', c0, c1, c2, c3, c4, c5, c6, _, _, _, _⟩ := MsgsAt.sp HC6.out.ms (Below.refl _ _) (Nat.le_refl _) hj
    have hef : ef = bt := by
      have := Option.some.inj (z1'.symm.trans HY7.out)
      have := congrArg Msg.flags this
      exact this.trans HY1.out
    subst hef
    clear z1'
    obtain ⟨m0, m1, m2, m3, m4, m5, m6⟩ := seven_at HS6.out.mm
    go_upto_region 22 with fail
    clear c0 c1 c2 c3 c4 c5 c6 v1 v2 v3 v4
    have hw : how = 0 ∨ how = 1 ∨ how = 2 := by omega
    have kf2 := RwApi2.flags_any (b := fc) (u := u') (flags := fl) (how := how) (wc := cc) (mc := nc) (cp := cp) (show RwApi.Tab w6 from HT.out.below HS6.out.bel (Nat.le_refl _)) HC6.out.ws HC6.out.ms HC6.out.hwc HC6.out.hmc (Nat.le_refl _) (StrsAt.more (StrsAt.below HZ.out HS6.out.bel (Nat.le_refl _)) HS6.out.bel.size) hcp hn HFW.out
    rw [show RwApi2.flP fc u' fl words how = [] by unfold RwApi2.flP RwW17.flP; rw [if_pos HFA.out.1]; exact HFA.out.2, HFA.out.1] at kf2
    have KF2 := Lib.hid kf2
    have xx : (bb != bb) = false := by simp
    clear kf2 hhow
    rcases hw with rfl | rfl | rfl
    · have e0 : fl = ef := (y2 rfl).symm
      subst e0
      have xf : (fl != fl) = false := by simp
      go_wp2_with (go_at_call 19; go_loud (
         refine KF2.out.mono ?_
         rintro e w7 ⟨L5, ln5, lc5, rfl, _, hl5, hb7⟩
         have h5 : 0 = ln5 := hl5.len
         subst h5
         have HSz := Lib.hid (HS6.out.go hb7)
         clear hl5 hb7 b0 b1 b2 b3 b4 b5 q0 q1 q2 q3 q4 q5 m0 m1 m2 m3 m4 m5 m6))
      go_meet
      exact HSz
    · have e0 : bits .and .i64 ef fl = fl := y3 rfl
      have xf : (fl != fl) = false := by simp
      go_wp2_with (go_at_call 19; go_loud (
         refine KF2.out.mono ?_
         rintro e w7 ⟨L5, ln5, lc5, rfl, _, hl5, hb7⟩
         have h5 : 0 = ln5 := hl5.len
         subst h5
         have HSz := Lib.hid (HS6.out.go hb7)
         clear hl5 hb7 b0 b1 b2 b3 b4 b5 q0 q1 q2 q3 q4 q5 m0 m1 m2 m3 m4 m5 m6))
      go_meet
      exact HSz
    · have e0 : bits .and .i64 ef fl = 0 := y4 rfl
      go_wp2_with (go_at_call 19; go_loud (
         refine KF2.out.mono ?_
         rintro e w7 ⟨L5, ln5, lc5, rfl, _, hl5, hb7⟩
         have h5 : 0 = ln5 := hl5.len
         subst h5
         have HSz := Lib.hid (HS6.out.go hb7)
         clear hl5 hb7 b0 b1 b2 b3 b4 b5 q0 q1 q2 q3 q4 q5 m0 m1 m2 m3 m4 m5 m6))
      go_meet
      exact HSz
  case rest =>
    have hfi : 0 ≤ findI b.msgs u' := by have := HJU.out; omega
    apply_assumption
    exact RdC.part HT.out HX.out HM.out HZ.out HWC.out HMC.out hcp hn z2 z3 HE.out HFW.out hfi hcut.out
end Go.Proofs.YtchlbbndfhibgaaGreatDoor.RdB
