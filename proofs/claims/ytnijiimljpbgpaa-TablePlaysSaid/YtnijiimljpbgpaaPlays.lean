/-
  What a table does: any calls, over any room (TablePlays), for every int and every row of calls.
-/
import Derived.Test.YtnijiimljpbgpaaBrS
import Derived.Test.YtnijiimljpbgpaaCalls
import Derived.Deep.QuietTactic
import Derived.BigQuiet
import Derived.Deep.DeepCutAuto
import Derived.Deep.CutBlock
import Derived.Deep.RegionHeld3
set_option linter.unusedVariables false
set_option linter.unusedSimpArgs false
namespace Go.Proofs.Ytnijiimljpbgpaa.tablePlays
open Go.ChangeShapes Go.WideShapes Go.ChangeAt Go.RowKit Go.Proofs.Ytnijiimljpbgpaa.Kit Go.Proofs.Ytnijiimljpbgpaa.Arg Go.Proofs.Ytnijiimljpbgpaa.PL

theorem drewN_of {B : Nat} {a b : World} (h : Below B a b) (q : Nat) : Hid (Below B a (b.drewN q)) := h.trans ⟨rfl, rfl, rfl, Nat.le_refl _, fun _ _ => rfl⟩

set_option maxHeartbeats 0 in
set_option maxRecDepth 100000 in
theorem walk (a0 : Int) (A : Option Addr) (n c : Nat) (w : World) (hz : CallsAt w A n) (hnc : n ≤ maxLen) :
    Calls Try.prog 3 #[.int .i64 a0, .slice A n c] w fun e w' => e = .returned (.bool true) ∧ Below w.heap.size w w' := by
  have HZ := Lib.hid hz
  clear hz
  by_cases hbig : 200 < n
  · unfold maxLen at hnc
    go_enter Try.func3, Try.ntmps3
    go_wp2_with (go_at_call 9; refine (AW.awake _).mono ?_; rintro e w' ⟨rfl, hb⟩)
    go_ret
    exact ⟨rfl, hb⟩
  · have hn6 : n ≤ 200 := by omega
    clear hnc
    have HNEW := Lib.hid (TI.new a0 w w.heap.size (Nat.le_refl _))
    obtain ⟨T, hT⟩ : ∃ T, T = w.heap.size := ⟨_, rfl⟩
    rw [← hT] at HNEW
    have HTT := Lib.hid hT
    clear hT
    go_enter Try.func3, Try.ntmps3
    go_wp2_with fail
    refine HNEW.out.mono ?_
    rintro e w1 ⟨rfl, ht1, hb1⟩
    have HR1 := Lib.hid (show Rl w w1 T (TI.rm a0) [] 0 none 0 none 0 from ⟨ht1, hb1, rfl, World.ownsRow_nil _ _ _ _, World.ownsRow_nil _ _ _ _, fun g hg => by cases hg⟩)
    clear ht1 hb1 HNEW
    go_upto_region 4 with fail
    go_cut [6] (fun s6 wx => s6 = .int .i64 (TI.rm a0 : Nat) ∧ wx = w1)
    case first =>
     as_aux_lemma =>
      go_wp2
      all_goals (go_meet; exact ⟨by congr 1; unfold TI.rm; omega, rfl⟩)
    obtain ⟨rfl, rfl⟩ := hcut
    as_aux_lemma =>
      generalize TI.rm a0 = room at HR1 ⊢
      go_wp2
      go_loopw [7, 8, 36] (fun s7 s8 s36 wr => ∃ (j m : Nat) (ps : List TI.PR) (A7 A8 : Option Addr) (c7 c8 : Nat), j ≤ n ∧ m ≤ j ∧ s36 = .int .i64 j ∧ s7 = .slice A7 m c7 ∧ s8 = .slice A8 m c8 ∧ Hid (Rl w wr T room ps m A7 c7 A8 c8)) (fun _ _ s36 _ => n - (intOf s36).toNat)
      case atStart => exact ⟨0, 0, [], none, none, 0, 0, Nat.zero_le _, Nat.le_refl _, rfl, rfl, rfl, HR1⟩
      case round =>
        clear HR1
        obtain ⟨j, m, ps, A7, A8, c7, c8, hj, hm, rfl, rfl, rfl, HR⟩ := hrel
        by_cases hlt : j < n
        · obtain ⟨ad, rfl, D, K, V, hd1, hd2, hd3⟩ := HZ.out.at_ HR.out.bel (Nat.le_of_eq HTT.out.symm) hlt
          obtain ⟨wo, rfl⟩ : ∃ wo : World, wo = wr := ⟨_, rfl⟩
          have hP : Row (wo.alloc (.cells #[.int .i64 D, .int .i64 K, .int .i64 V] 28)) wo.heap.size 28 [.int .i64 D, .int .i64 K, .int .i64 V] := heap_alloc_new wo _
          have hb0 : Below wo.heap.size wo (wo.alloc (.cells #[.int .i64 D, .int .i64 K, .int .i64 V] 28)) := TI.below_alloc wo _
          have HRB := Lib.hid (HR.out.below hb0)
          obtain ⟨wb, hwb⟩ : ∃ wb, wb = wo.alloc (.cells #[.int .i64 D, .int .i64 K, .int .i64 V] 28) := ⟨_, rfl⟩
          obtain ⟨P, hPe⟩ : ∃ P, P = wo.heap.size := ⟨_, rfl⟩
          rw [← hwb, ← hPe] at hP
          rw [← hwb] at HRB
          have HWB := Lib.hid hwb
          have HPE := Lib.hid hPe
          have HP := Lib.hid hP
          have HB0 := Lib.hid (Below.refl wb.heap.size wb)
          clear hP hb0 hwb hPe HR
          go_upto_block 2 with fail
          rw [← HWB.out, ← HPE.out]
          obtain ⟨L, hL⟩ : ∃ L, lo Cmp.cmpI K ps = L := ⟨_, rfl⟩
          have HLO := Lib.hid hL
          have hLm : L ≤ m := by have h1 := lo_le Cmp.cmpI K ps; have h2 := HRB.out.len; omega
          clear hL
          go_cut [11] (fun s11 wx => s11 = .int .i64 (L : Nat) ∧ Hid (Below wb.heap.size wb wx))
          case first =>
           as_aux_lemma =>
            go_wp2
            go_loopw [11] (fun s11 wx => ∃ i : Nat, i ≤ L ∧ s11 = .int .i64 i ∧ Hid (Below wb.heap.size wb wx)) (fun s11 _ => m - (intOf s11).toNat)
            case atStart => exact ⟨0, Nat.zero_le _, rfl, HB0⟩
            case round =>
              clear HB0
              obtain ⟨i, hi, rfl, hBi⟩ := hrel
              have hcP : wr.cell? ⟨P, 1, none⟩ = some (.int .i64 K) := (HP.out.below hBi.out HP.out.lt).cell 1
              by_cases him : i < m
              · obtain ⟨ad7, x, v, rfl, hp, hc7⟩ := HRB.out.key hBi.out him
                have g1 : decide ((i : Int) < (m : Int)) = true := by simp; omega
                have HPP := Lib.hid hp
                clear hp
                by_cases hxk : x < K
                · have g2 : decide (x < K) = true := by simpa using hxk
                  have hnext : i + 1 ≤ L := by rw [← HLO.out]; exact scan_up (by rw [HLO.out]; exact hi) HPP.out hxk
                  go_wp2
                  go_quiet (fail)
                  go_wp2
                  go_roundw
                  case rel => exact ⟨i + 1, hnext, by go_num, drewN_of hBi.out _⟩
                  case measure => simp [intOf]; omega
                · have g2 : decide (x < K) = false := by simpa using hxk
                  have hend : i = L := by rw [← HLO.out]; exact scan_at (by rw [HLO.out]; exact hi) HPP.out hxk
                  obtain rfl : L = i := hend.symm
                  go_wp2
                  go_quiet (fail)
                  go_wp2
                  go_meet
                  exact ⟨rfl, drewN_of hBi.out _⟩
              · have g1 : decide ((i : Int) < (m : Int)) = false := by simp; omega
                obtain rfl : L = i := by omega
                go_wp2
                go_quiet (fail)
                go_wp2
                go_meet
                exact ⟨rfl, drewN_of hBi.out _⟩
          obtain ⟨rfl, HB2⟩ := hcut
          as_aux_lemma =>
            go_wp2_with fail
            obtain ⟨h12, hh12⟩ : ∃ b, hit Cmp.cmpI K ps = b := ⟨_, rfl⟩
            have HH := Lib.hid hh12
            clear hh12
            go_upto_region 12 with fail
            go_cut [12] (fun s12 wx => s12 = .bool h12 ∧ Hid (Below wb.heap.size wb wx))
            case first =>
             as_aux_lemma =>
              have hcP : wc.cell? ⟨P, 1, none⟩ = some (.int .i64 K) := (HP.out.below HB2.out HP.out.lt).cell 1
              by_cases him : L < m
              · obtain ⟨ad7, x, v, rfl, hp, hc7⟩ := HRB.out.key HB2.out him
                have g1 : decide ((L : Int) < (m : Int)) = true := by simp; omega
                have hx : h12 = (x == K) := by rw [← HH.out]; exact hit_at (by rw [HLO.out]; exact hp)
                have HX := Lib.hid hx
                have hLi : (L : Int) < (m : Int) := by omega
                clear hp hx
                by_cases hxk : x = K
                · have g2 : (x == K) = true := by simpa using hxk
                  clear hxk
                  go_quiet (fail)
                  go_wp2
                  go_meet
                  exact ⟨by rw [HX.out, g2], drewN_of HB2.out _⟩
                · have g2 : (x == K) = false := by simpa using hxk
                  clear hxk
                  go_quiet (fail)
                  go_wp2
                  go_meet
                  exact ⟨by rw [HX.out, g2], drewN_of HB2.out _⟩
              · have g1 : decide ((L : Int) < (m : Int)) = false := by simp; omega
                have hx : h12 = false := by rw [← HH.out]; exact hit_end (by rw [HLO.out, HRB.out.len]; omega)
                subst hx
                go_quiet (fail)
                go_wp2
                go_meet
                exact ⟨rfl, drewN_of HB2.out _⟩
            clear HB2
            obtain ⟨rfl, HB3⟩ := hcut
            as_aux_lemma =>
              have HRC := Lib.hid (HRB.out.below HB3.out)
              have HPC := Lib.hid (HP.out.below HB3.out HP.out.lt)
              have hp0 : wc.cell? ⟨P, 0, none⟩ = some (.int .i64 D) := HPC.out.cell 0
              have hp1 : wc.cell? ⟨P, 1, none⟩ = some (.int .i64 K) := HPC.out.cell 1
              have hp2 : wc.cell? ⟨P, 2, none⟩ = some (.int .i64 V) := HPC.out.cell 2
              clear HB3 HRB HP
              go_upto_block 4 with fail
              go_cut [7, 8] (fun s7 s8 wx => ∃ (m' : Nat) (ps' : List TI.PR) (A5 A6 : Option Addr) (c5 c6 : Nat), m' ≤ j + 1 ∧ s7 = .slice A5 m' c5 ∧ s8 = .slice A6 m' c6 ∧ Hid (Rl w wx T room ps' m' A5 c5 A6 c6))
              case first =>
               as_aux_lemma =>
                change code4.wp Try.prog _ _ _
                refine wp_mono (Q := Exit.then ?K NoExit) ?first ?second
                case second =>
                  intro e a' w' hq
                  cases e <;> first | exact hq | exact hq.elim
                case first =>
                  refine sw hm hLm hj hlt hn6 HLO HH HRC HPC _ _ (fun _ _ h => h) _ _ _ _ _ _ _ _ _ _ _ _ _ _ _ _ _ _ _ _ _ _ _ _ _ _ _ _ _ _ _ _ _ _ _ _ _ _ _ _ _ _ _ _ _ _ _ _ _ _ _ _ _ _ _ _ _ _ _ _ _ _ _ _ _ _ _ _ _ _ _ _ _ _ _ _ _ _ _ _ _ _ _ _ _ _ _ _ _ _ _ _ _ _ _ _ _ _ _ _ _ _ _ _ _ _ _ _ _ _ _ _ _ _ _ _ _ _ _ _ _ _ _ _ _ _ _ _ _ _ _ _ _ _ _ _ _ _ _ _ _ _ _ _ _ _ _ _ _ _ _ _ _ _ _ _ _ _ _ _ _ _ _ _ _ _ _ _ _ _ _ _ _ _ _ _ _ _ _ _ _ _ _ _ _ _ _ _ _ _ _ _ _ _ _ _ _ _ _ _ _ _ _ _ _ _ _ _ _ _ _ _ _ _ _ _ _ _ _ _ _ _ _ _ _ _ _ _ _ _ _ _ _ _ _ _ _ _ _ _ _ _ _ _ _ _ _ _ _ _ _ _ _ _ _ _ _ _ _ _ _ _ _ _ _ _ _ _ _ _ _ _ _ _ _ _ _ _ _ _ ?_
                  intro m' ps' A5 A6 c5 c6 y4 y13 y14 y15 y16 y17 y18 y19 y20 y21 y22 y70 y71 y72 y73 y74 y75 y76 y77 y78 y79 y80 y81 y82 y83 y84 y85 y86 y87 y88 y89 y90 y91 y92 y93 y94 y95 y96 y97 y98 y99 y100 y101 y102 y103 y104 y105 y106 y107 y108 y109 y110 y111 y112 y113 y114 y115 y116 y117 y118 y119 y120 y121 y122 y123 y124 y125 y126 y127 y128 y129 y130 y131 y132 y133 y134 y135 y136 y137 y138 y139 y140 y141 y142 y143 y144 y145 y146 y147 y148 y149 y150 y151 y152 y153 y154 y155 y156 y157 y158 y159 y160 y161 y162 y163 y164 y165 y166 y167 y168 y169 y170 y171 y172 y173 y174 y175 y176 y177 y178 y179 y180 y181 y182 y183 y184 y185 y186 y187 y188 y189 y190 y191 y192 y193 y194 y195 y196 y197 y198 y199 y200 y201 y202 y203 y204 y205 y206 y207 y208 y209 y210 y211 y212 y213 y214 y215 y216 y217 y218 y219 y220 y221 y222 y223 y224 y225 y226 y227 y228 y229 y230 y231 y232 y233 y234 y235 y236 y237 y238 y239 y240 y241 y242 y243 y244 y245 y246 y247 y248 y249 y250 y251 y252 y253 y254 y255 y256 y257 y258 y259 y260 y261 y262 y263 y264 wx hm' HR8
                  go_wp2
                  go_meet
                  exact ⟨_, _, _, _, _, _, hm', rfl, rfl, HR8⟩
              clear hp0 hp1 hp2 HRC HPC
              obtain ⟨m', ps', A5, A6, c5, c6, hm', rfl, rfl, HR8⟩ := hcut
              as_aux_lemma =>
                have LN := TI.len_ HR8.out.tab
                rw [HR8.out.len] at LN
                have LN := Lib.hid LN
                go_wp2_with (go_at_call 17; refine LN.out.mono ?_; rintro e w9 ⟨rfl, rfl⟩)
                go_roundw
                case rel => exact ⟨j + 1, _, _, _, _, _, _, by omega, by omega, by go_num, rfl, rfl, HR8⟩
                case measure => simp [intOf]; omega
        · obtain rfl : n = j := by omega
          as_aux_lemma =>
            have K1 := Lib.hid (TI.keys_ HR.out.tab)
            go_wp2_with fail
            refine K1.out.mono ?_
            rintro e w3 hp
            obtain ⟨A3, c3, rfl, ho3, hb3⟩ := hp
            have HI3 := Lib.hid (ints_of_owns (zs := ps.map (·.1)) (by rw [List.map_map]; exact ho3))
            have HI7 := Lib.hid (ints_of_owns (zs := ps.map (·.1)) (TI.owns_below hb3 HR.out.o7))
            have HR3 := Lib.hid (HR.out.below hb3)
            rw [HR.out.len] at HI3 ⊢
            have HBS := Lib.hid (Below.refl w3.heap.size w3)
            clear ho3 hb3 K1 HR hlt
            go_wp2
            go_loopw [280] (fun s280 wx => ∃ i : Nat, i ≤ m ∧ s280 = .int .i64 i ∧ Hid (Below w3.heap.size w3 wx)) (fun s280 _ => m - (intOf s280).toNat)
            case atStart => exact ⟨0, Nat.zero_le _, rfl, HBS⟩
            case round =>
              clear HBS
              obtain ⟨i, hi, rfl, hBi⟩ := hrel
              by_cases hlt2 : i < m
              · obtain ⟨ad3, x, rfl, hx, hc3⟩ := HI3.out.at_ hBi.out (Nat.le_refl _) hlt2
                obtain ⟨ad7, y, rfl, hy, hc7⟩ := HI7.out.at_ hBi.out (Nat.le_refl _) hlt2
                rw [hx] at hy
                injection hy with hy
                subst hy
                have hii : (i : Int) < (m : Int) := by omega
                clear hx
                go_wp2
                go_quiet (fail)
                go_wp2
                go_roundw
                case rel => exact ⟨i + 1, by omega, by go_num, drewN_of hBi.out _⟩
                case measure => simp [intOf]; omega
              · obtain rfl : m = i := by omega
                go_wp2_with (go_at_call 9; refine (AW.awake _).mono ?_; rintro e w' ⟨rfl, hb⟩)
                go_ret
                refine ⟨rfl, ?_⟩
                have h1 := HR3.out.bel.trans (hBi.out.mono HR3.out.tab.base_le)
                rw [HTT.out] at h1
                exact h1.trans (hb.mono h1.size)

set_option maxRecDepth 100000 in
theorem lifted (os : Os) (started : os.Started) (H : Type) (enc : TypeId × Value → H) :
    ReturnsInHanded {} Try.checked os 3 .any (Rows.tablePlaysSpec.pre6 enc Try.prog Try.f3 Rows.tablePlaysRow.domain false) (Rows.tablePlaysSpec.post enc Try.prog Try.f3 false true false false) := by
  refine returnsInHanded_of_change (C := Try.checked) Law.own started (by kernel_rfl) Try.func3
    (ChangeSpec.witness6 (enc := enc) (C := Try.checked) false ⟨#[], #[.int .i64 0, .slice none 0 0], []⟩ 8 (by kernel_rfl) (by kernel_rfl) (by kernel_rfl) (by kernel_rfl)) ?_
  intro W base args ds gs before hval hW hcnd _
  have hW' := hW
  obtain ⟨p, q, hA, hV, rfl, hfz, hnd⟩ := hW
  rw [Try.params3] at hA hval
  obtain ⟨v0, v1, d0, d1, p0, p1, rfl, rfl, rfl, h0, h1⟩ := trodAll_two hA
  obtain ⟨rfl, rfl⟩ := trodVars_none hV
  obtain ⟨a0, rfl, rfl, rfl, w0⟩ := open_int Try.underlying3 (hval 0 3 v0 rfl rfl) h0
  obtain ⟨ad, len, cap, rfl⟩ := okWide_slice Try.underlying22 (hval 1 22 v1 rfl rfl)
  obtain ⟨hzs, hlen⟩ := open_calls h1
  refine (walk a0 ad len cap W hzs hlen).mono fun e W' ⟨he, hb⟩ => ?_
  subst he
  exact ⟨_, rfl, Law.law_post (by kernel_rfl) (by kernel_rfl) rfl hW' rfl rfl rfl hb⟩

theorem tablePlays_holds : Rows.TablePlaysSaid :=
  OpenClaim.holds_of_wide 3 Try.f3 rfl rfl rfl rfl rfl rfl rfl ⟨rfl, rfl, rfl, rfl, rfl⟩ rfl rfl rfl rfl rfl (by kernel_rfl) Try.func3 (by kernel_rfl)
    (of_decide_eq_true (by kernel_rfl)) (by unfold Func.isWrapper; first | (rw [if_pos (by decide +kernel)]; kernel_rfl) | (rw [if_neg (by decide +kernel)]; exact ⟨rfl, rfl⟩))
    (fun os started H enc _ => lifted os started H enc)
#print axioms tablePlays_holds
end Go.Proofs.Ytnijiimljpbgpaa.tablePlays
