/-
  What is cut is gone, what is put again is there, others are as they were (TableCuts), for every []int and every int.
-/
import Derived.Test.YtnijiimljpbgpaaAwake
import Derived.Test.YtnijiimljpbgpaaPutI
import Derived.Test.YtnijiimljpbgpaaRdI
import Derived.Test.YtnijiimljpbgpaaCutI
import Derived.Test.YtnijiimljpbgpaaKeysI
import Derived.Test.YtnijiimljpbgpaaKitC
import Derived.Test.YtnijiimljpbgpaaLaw
namespace Go.Proofs.Ytnijiimljpbgpaa.tableCuts
open Go.ChangeShapes Go.WideShapes Go.ChangeAt Go.RowKit Go.Proofs.Ytnijiimljpbgpaa.Kit Go.Proofs.Ytnijiimljpbgpaa.Arg

/-- What the second half of the law goes on with: the table without k, the names as they were. -/
structure Rest (wr : World) (w : World) (T : Nat) (k : Int) (ps : List TI.PR) (A2 : Option Addr) (m c2 : Nat) : Prop where
  tab : TI.Tab wr T T 1000 (cut Cmp.cmpI k ps)
  bel : Below T w wr
  own : ∃ b, wr.ownsRow b 3 1 (.slice A2 m c2) m ((ps.map (·.1)).map (fun z => Value.int .i64 z))
  srt : Srt Cmp.cmpI ps
  len : ps.length = m

theorem Rest.below {wr wr' w : World} {T : Nat} {k : Int} {ps : List TI.PR} {A2 : Option Addr} {m c2 : Nat} (h : Rest wr w T k ps A2 m c2) (hb : Below wr.heap.size wr wr') : Rest wr' w T k ps A2 m c2 := by
  obtain ⟨h1, h2, ⟨b, h3⟩, h4, h5⟩ := h
  exact ⟨h1.below hb, h2.trans (hb.mono h1.base_le), ⟨b, TI.owns_below hb h3⟩, h4, h5⟩

set_option maxHeartbeats 2000000 in
set_option maxRecDepth 100000 in
theorem walk (A : Option Addr) (n c : Nat) (zs : List Int) (k : Int) (w : World) (hz : IntsAt w A n zs) (hn : n ≤ maxLen) :
    Calls Try.prog 6 #[.slice A n c, .int .i64 k] w fun e w' => e = .returned (.bool true) ∧ Below w.heap.size w w' := by
  have HZ := Lib.hid hz
  clear hz
  by_cases hbig : 100 < n
  · unfold maxLen at hn
    go_enter Try.func6, Try.ntmps6
    go_wp2_with (go_at_call 9; refine (AW.awake _).mono ?_; rintro e w' ⟨rfl, hb⟩)
    go_ret
    exact ⟨rfl, hb⟩
  · have hn6 : n ≤ 100 := by omega
    clear hn
    have HNEW := Lib.hid (TI.new 1000 w w.heap.size (Nat.le_refl _))
    go_enter Try.func6, Try.ntmps6
    go_wp2_with fail
    refine HNEW.out.mono ?_
    rintro e w1 ⟨rfl, ht1, hb1⟩
    rw [show TI.rm 1000 = 1000 by decide] at ht1
    have HT1 := Lib.hid ht1
    have HB1 := Lib.hid hb1
    clear ht1 hb1 HNEW
    obtain ⟨T, hT⟩ : ∃ T, T = w.heap.size := ⟨_, rfl⟩
    rw [← hT] at HT1 HB1 ⊢
    have HTT := Lib.hid hT
    clear hT
    go_wp2
    go_loopw [28] (fun s28 wr => ∃ (j : Nat) (ps : List TI.PR), j ≤ n ∧ s28 = .int .i64 j ∧ ps.length ≤ j ∧ Hid (TI.Tab wr T T 1000 ps) ∧ Hid (Below T w wr)) (fun s28 _ => n - (intOf s28).toNat)
    case atStart => exact ⟨0, [], Nat.zero_le _, rfl, Nat.le_refl _, HT1, HB1⟩
    case round =>
      clear HT1 HB1
      obtain ⟨j, ps, hj, rfl, hpl, hTab, hB⟩ := hrel
      by_cases hlt : j < n
      · obtain ⟨ad, x, rfl, hx, hc1⟩ := HZ.out.at_ hB.out (Nat.le_of_eq HTT.out.symm) hlt
        have hput := TI.put_any hTab.out x (j : Int)
        rw [show (hit Cmp.cmpI x ps || decide (ps.length < 1000)) = true by simp; omega] at hput
        have P := Lib.hid hput
        have hbl := hTab.out.base_le
        clear hx hput
        go_wp2_with fail
        refine P.out.mono ?_
        rintro e w2 ⟨rfl, hT2, hF2⟩
        have HT2 := Lib.hid hT2
        have HB2 := Lib.hid (hB.out.trans (hF2.below hbl))
        have hpl2 : (put Cmp.cmpI x (j : Int) ps).length ≤ j + 1 := Nat.le_trans length_put_le (by omega)
        clear hT2 hF2
        go_wp2
        go_roundw
        case rel => exact ⟨j + 1, _, by omega, by go_num, hpl2, HT2, HB2⟩
        case measure => simp [intOf]; omega
      · obtain rfl : n = j := by omega
        have HK := Lib.hid (TI.keys_ hTab.out)
        go_wp2_with fail
        refine HK.out.mono ?_
        rintro e w2 hp
        obtain ⟨A2, c2, rfl, ho, hb2⟩ := hp
        have HO2 := Lib.hid (show w2.ownsRow wr.heap.size 3 1 (.slice A2 ps.length c2) ps.length ((ps.map (·.1)).map (fun z => Value.int .i64 z)) by rw [List.map_map]; exact ho)
        have HT2 := Lib.hid (hTab.out.below hb2)
        have HB2 := Lib.hid (hB.out.trans (hb2.mono hTab.out.base_le))
        have HS := Lib.hid hTab.out.srt
        have HL := Lib.hid (TI.len_ HT2.out)
        clear ho hb2 HK
        obtain ⟨m, hm⟩ : ∃ m, ps.length = m := ⟨_, rfl⟩
        rw [hm] at HO2 HL hpl ⊢
        have HM := Lib.hid hm
        clear hm hlt
        go_wp2_with fail
        refine HL.out.mono ?_
        rintro e w3 ⟨rfl, rfl⟩
        cases hh : hit Cmp.cmpI k ps with
        | true =>
          obtain ⟨v, hv⟩ := (hit_iff Cmp.ordI).1 hh
          have G := Lib.hid (TI.get_yes HT2.out k v hv)
          have hm1 : 1 ≤ m := by have := hit_lt hh; have := HM.out; omega
          have HH := Lib.hid hh
          clear hv hh
          go_wp2_with fail
          refine G.out.mono ?_
          rintro e w3 ⟨rfl, hb3⟩
          have HT3 := Lib.hid (HT2.out.below hb3)
          have HB3 := Lib.hid (HB2.out.trans (hb3.mono HT2.out.base_le))
          have HO3 := Lib.hid (TI.owns_below hb3 HO2.out)
          clear hb3
          have C := Lib.hid (TI.cut_yes HT3.out k HH.out)
          go_wp2_with fail
          refine C.out.mono ?_
          rintro e w4 ⟨rfl, hT4, hF4⟩
          have hR4 : Rest w4 w T k ps A2 m c2 := ⟨hT4, HB3.out.trans (hF4.below HT3.out.base_le), ⟨_, hF4.owns HO3.out (by decide) (by decide)⟩, HS.out, HM.out⟩
          have HR4 := Lib.hid hR4
          have C2 := Lib.hid (TI.cut_no hT4 k (hit_cut_self Cmp.ordI HS.out))
          clear hR4 hT4 hF4
          go_wp2_with fail
          refine C2.out.mono ?_
          rintro e w5 ⟨rfl, hb5⟩
          have HR5 := Lib.hid (HR4.out.below hb5)
          have hl5 : (cut Cmp.cmpI k ps).length = m - 1 := by rw [length_cut, if_pos HH.out, HM.out]
          have L5 := TI.len_ HR5.out.tab
          rw [hl5] at L5
          have L5 := Lib.hid L5
          have hm2 : ((m - 1 : Nat) : Int) = (m : Int) - 1 := by omega
          rw [hm2] at L5
          clear hb5 hl5 hm2
          go_wp2_with fail
          refine L5.out.mono ?_
          rintro e w6 ⟨rfl, rfl⟩
          have HR6 := HR5
          go_wp2
          go_loopw [78] (fun s78 wr => ∃ i : Nat, i ≤ m ∧ s78 = .int .i64 i ∧ Hid (Rest wr w T k ps A2 m c2)) (fun s78 _ => m - (intOf s78).toNat)
          case atStart => exact ⟨0, Nat.zero_le _, rfl, HR6⟩
          case round =>
            clear HR6
            obtain ⟨i, hi, rfl, HR⟩ := hrel
            by_cases hlt : i < m
            · obtain ⟨b, hown⟩ := HR.out.own
              obtain ⟨ad2, x, rfl, hx, hc2⟩ := (ints_of_owns hown).at_ (Below.refl _ _) (Nat.le_refl _) hlt
              obtain ⟨p, hp, rfl⟩ : ∃ p, ps[i]? = some p ∧ p.1 = x := by
                rw [List.getElem?_map] at hx
                cases hq : ps[i]? with
                | none => rw [hq] at hx; cases hx
                | some p => rw [hq] at hx; injection hx with hx; exact ⟨p, rfl, hx⟩
              obtain ⟨x, v⟩ := p
              simp only at hc2
              have hmem := List.mem_of_getElem? hp
              clear hown hx hp
              by_cases hxk : x = k
              · subst hxk
                have G := Lib.hid (TI.get_no HR.out.tab x (hit_cut_self Cmp.ordI HR.out.srt))
                have hxx : (x != x) = false := by simp
                clear hmem
                go_wp2_with fail
                refine G.out.mono ?_
                rintro e w7 ⟨rfl, hb7⟩
                have HR7 := Lib.hid (HR.out.below hb7)
                clear hb7
                go_wp2
                go_roundw
                case rel => exact ⟨i + 1, by omega, by go_num, HR7⟩
                case measure => simp [intOf]; omega
              · have G := Lib.hid (TI.get_yes HR.out.tab x v (hit_cut_other Cmp.ordI HR.out.srt hmem hxk).2)
                have hxx : (x != k) = true := by simpa using hxk
                clear hmem
                go_wp2_with fail
                refine G.out.mono ?_
                rintro e w7 ⟨rfl, hb7⟩
                have HR7 := Lib.hid (HR.out.below hb7)
                clear hb7
                go_wp2
                go_roundw
                case rel => exact ⟨i + 1, by omega, by go_num, HR7⟩
                case measure => simp [intOf]; omega
            · obtain rfl : m = i := by omega
              rcases from_cut HR.out.srt k with ⟨p, hp, hkp, hlo⟩ | ⟨hno, hlo⟩
              · obtain ⟨q, hq⟩ : ∃ q, (cut Cmp.cmpI k ps)[lo Cmp.cmpI k (cut Cmp.cmpI k ps)]? = some q := ⟨_, List.getElem?_eq_getElem hlo⟩
                have F := Lib.hid (TI.from_yes HR.out.tab k q hq)
                have hm0 : 0 < m := by have := HR.out.len; have := (List.getElem?_eq_some_iff.1 hp).1; omega
                rw [HR.out.len] at hp
                have HP := Lib.hid hp
                clear hlo hp hq
                go_wp2_with fail
                refine F.out.mono ?_
                rintro e w8 ⟨rfl, hb8⟩
                have HR8 := Lib.hid (HR.out.below hb8)
                clear hb8
                obtain ⟨b, hown⟩ := HR8.out.own
                obtain ⟨ad2, x, rfl, hx, hc2⟩ := (ints_of_owns hown).at_ (Below.refl _ _) (Nat.le_refl _) (j := m - 1) (by omega)
                rw [List.getElem?_map, HP.out] at hx
                injection hx with hx
                subst hx
                have hmi : ((m : Int) - 1) = ((m - 1 : Nat) : Int) := by omega
                have hmi2 : ((m : Int) - 1).toNat = m - 1 := by omega
                have hmi3 : (0 : Int) ≤ (m : Int) - 1 := by omega
                have hmi4 : (1 : Int) ≤ (m : Int) := by omega
                have hmi5 : (0 : Int) < (m : Int) := by omega
                clear hown hmi
                go_wp2_with fail
                have P := Lib.hid (TI.put_new HR8.out.tab k 7 (hit_cut_self Cmp.ordI HR8.out.srt) (by have h1 := HR8.out.len; have h2 := length_cut (cm := Cmp.cmpI) (k := k) (ps := ps); split at h2 <;> omega))
                go_wp2_with fail
                refine P.out.mono ?_
                rintro e w9 ⟨rfl, hT9, hF9⟩
                have HB9 := Lib.hid (HR8.out.bel.trans (hF9.below HR8.out.tab.base_le))
                have hput : ins Cmp.cmpI k 7 (cut Cmp.cmpI k ps) = put Cmp.cmpI k 7 (cut Cmp.cmpI k ps) := by unfold put; rw [hit_cut_self Cmp.ordI HR8.out.srt]; rfl
                rw [hput] at hT9
                have hg9 := hit_of_mem Cmp.ordI hT9.srt (put_mem (cm := Cmp.cmpI) (k := k) (v := (7 : Int)) (ps := cut Cmp.cmpI k ps))
                have G9 := Lib.hid (TI.get_yes hT9 k 7 hg9.2)
                have hbl9 := hT9.base_le
                clear hput hg9 hT9 hF9
                go_wp2_with fail
                refine G9.out.mono ?_
                rintro e w10 ⟨rfl, hb10⟩
                have HB10 := Lib.hid (HB9.out.trans (hb10.mono hbl9))
                clear hb10
                go_wp2_with fail
                refine (AW.awake _).mono ?_
                rintro e w11 ⟨rfl, hb11⟩
                have HB11 := Lib.hid hb11
                clear hb11
                go_wp2
                go_ret
                refine ⟨rfl, ?_⟩
                have h1 := HB10.out
                rw [HTT.out] at h1
                exact h1.trans (HB11.out.mono h1.size)
              · by_cases hm0 : m = 0
                · subst hm0
                  have F := Lib.hid (TI.from_no HR.out.tab k hlo)
                  clear hno hlo
                  go_wp2_with fail
                  refine F.out.mono ?_
                  rintro e w8 ⟨rfl, hb8⟩
                  have HR8 := Lib.hid (HR.out.below hb8)
                  clear hb8
                  have P := Lib.hid (TI.put_new HR8.out.tab k 7 (hit_cut_self Cmp.ordI HR8.out.srt) (by have h1 := HR8.out.len; have h2 := length_cut (cm := Cmp.cmpI) (k := k) (ps := ps); split at h2 <;> omega))
                  go_wp2_with fail
                  refine P.out.mono ?_
                  rintro e w9 ⟨rfl, hT9, hF9⟩
                  have HB9 := Lib.hid (HR8.out.bel.trans (hF9.below HR8.out.tab.base_le))
                  have hput : ins Cmp.cmpI k 7 (cut Cmp.cmpI k ps) = put Cmp.cmpI k 7 (cut Cmp.cmpI k ps) := by unfold put; rw [hit_cut_self Cmp.ordI HR8.out.srt]; rfl
                  rw [hput] at hT9
                  have hg9 := hit_of_mem Cmp.ordI hT9.srt (put_mem (cm := Cmp.cmpI) (k := k) (v := (7 : Int)) (ps := cut Cmp.cmpI k ps))
                  have G9 := Lib.hid (TI.get_yes hT9 k 7 hg9.2)
                  have hbl9 := hT9.base_le
                  clear hput hg9 hT9 hF9
                  go_wp2_with fail
                  refine G9.out.mono ?_
                  rintro e w10 ⟨rfl, hb10⟩
                  have HB10 := Lib.hid (HB9.out.trans (hb10.mono hbl9))
                  clear hb10
                  go_wp2_with fail
                  refine (AW.awake _).mono ?_
                  rintro e w11 ⟨rfl, hb11⟩
                  have HB11 := Lib.hid hb11
                  clear hb11
                  go_wp2
                  go_ret
                  refine ⟨rfl, ?_⟩
                  have h1 := HB10.out
                  rw [HTT.out] at h1
                  exact h1.trans (HB11.out.mono h1.size)
                · have F := Lib.hid (TI.from_no HR.out.tab k hlo)
                  have hlast : ∃ p, ps[m - 1]? = some p := ⟨ps[m - 1]'(by have := HR.out.len; omega), List.getElem?_eq_getElem _⟩
                  obtain ⟨p, hp⟩ := hlast
                  have hkp := hno p (by rw [HR.out.len]; exact hp)
                  have HP := Lib.hid hp
                  clear hno hlo hp
                  go_wp2_with fail
                  refine F.out.mono ?_
                  rintro e w8 ⟨rfl, hb8⟩
                  have HR8 := Lib.hid (HR.out.below hb8)
                  clear hb8
                  obtain ⟨b, hown⟩ := HR8.out.own
                  obtain ⟨ad2, x, rfl, hx, hc2⟩ := (ints_of_owns hown).at_ (Below.refl _ _) (Nat.le_refl _) (j := m - 1) (by omega)
                  rw [List.getElem?_map, HP.out] at hx
                  injection hx with hx
                  subst hx
                  have hmi2 : ((m : Int) - 1).toNat = m - 1 := by omega
                  have hmi3 : (0 : Int) ≤ (m : Int) - 1 := by omega
                  have hmi4 : (1 : Int) ≤ (m : Int) := by omega
                  have hmi5 : (0 : Int) < (m : Int) := by omega
                  have hkp2 : decide (k < p.1) = false := by simpa using hkp
                  clear hown
                  have P := Lib.hid (TI.put_new HR8.out.tab k 7 (hit_cut_self Cmp.ordI HR8.out.srt) (by have h1 := HR8.out.len; have h2 := length_cut (cm := Cmp.cmpI) (k := k) (ps := ps); split at h2 <;> omega))
                  go_wp2_with fail
                  refine P.out.mono ?_
                  rintro e w9 ⟨rfl, hT9, hF9⟩
                  have HB9 := Lib.hid (HR8.out.bel.trans (hF9.below HR8.out.tab.base_le))
                  have hput : ins Cmp.cmpI k 7 (cut Cmp.cmpI k ps) = put Cmp.cmpI k 7 (cut Cmp.cmpI k ps) := by unfold put; rw [hit_cut_self Cmp.ordI HR8.out.srt]; rfl
                  rw [hput] at hT9
                  have hg9 := hit_of_mem Cmp.ordI hT9.srt (put_mem (cm := Cmp.cmpI) (k := k) (v := (7 : Int)) (ps := cut Cmp.cmpI k ps))
                  have G9 := Lib.hid (TI.get_yes hT9 k 7 hg9.2)
                  have hbl9 := hT9.base_le
                  clear hput hg9 hT9 hF9
                  go_wp2_with fail
                  refine G9.out.mono ?_
                  rintro e w10 ⟨rfl, hb10⟩
                  have HB10 := Lib.hid (HB9.out.trans (hb10.mono hbl9))
                  clear hb10
                  go_wp2_with fail
                  refine (AW.awake _).mono ?_
                  rintro e w11 ⟨rfl, hb11⟩
                  have HB11 := Lib.hid hb11
                  clear hb11
                  go_wp2
                  go_ret
                  refine ⟨rfl, ?_⟩
                  have h1 := HB10.out
                  rw [HTT.out] at h1
                  exact h1.trans (HB11.out.mono h1.size)
        | false =>
          have G := Lib.hid (TI.get_no HT2.out k hh)
          have HH := Lib.hid hh
          clear hh
          go_wp2_with fail
          refine G.out.mono ?_
          rintro e w3 ⟨rfl, hb3⟩
          have HT3 := Lib.hid (HT2.out.below hb3)
          have HB3 := Lib.hid (HB2.out.trans (hb3.mono HT2.out.base_le))
          have HO3 := Lib.hid (TI.owns_below hb3 HO2.out)
          clear hb3
          have C := Lib.hid (TI.cut_no HT3.out k HH.out)
          go_wp2_with fail
          refine C.out.mono ?_
          rintro e w4 ⟨rfl, hb4⟩
          have hcut : cut Cmp.cmpI k ps = ps := by unfold cut; rw [HH.out]; rfl
          have hT4 := HT3.out.below hb4
          rw [← hcut] at hT4
          have hR4 : Rest w4 w T k ps A2 m c2 := ⟨hT4, HB3.out.trans (hb4.mono HT3.out.base_le), ⟨_, TI.owns_below hb4 HO3.out⟩, HS.out, HM.out⟩
          have HR4 := Lib.hid hR4
          have C2 := Lib.hid (TI.cut_no hT4 k (hit_cut_self Cmp.ordI HS.out))
          have hl4 : (cut Cmp.cmpI k ps).length = m := by rw [hcut, HM.out]
          have HL4 := Lib.hid hl4
          clear hR4 hT4 hb4 hcut hl4
          go_wp2_with fail
          refine C2.out.mono ?_
          rintro e w5 ⟨rfl, hb5⟩
          have HR5 := Lib.hid (HR4.out.below hb5)
          have L5 := TI.len_ HR5.out.tab
          rw [HL4.out] at L5
          have L5 := Lib.hid L5
          clear hb5
          go_wp2_with fail
          refine L5.out.mono ?_
          rintro e w6 ⟨rfl, rfl⟩
          have HR6 := HR5
          go_wp2
          go_loopw [78] (fun s78 wr => ∃ i : Nat, i ≤ m ∧ s78 = .int .i64 i ∧ Hid (Rest wr w T k ps A2 m c2)) (fun s78 _ => m - (intOf s78).toNat)
          case atStart => exact ⟨0, Nat.zero_le _, rfl, HR6⟩
          case round =>
            clear HR6
            obtain ⟨i, hi, rfl, HR⟩ := hrel
            by_cases hlt : i < m
            · obtain ⟨b, hown⟩ := HR.out.own
              obtain ⟨ad2, x, rfl, hx, hc2⟩ := (ints_of_owns hown).at_ (Below.refl _ _) (Nat.le_refl _) hlt
              obtain ⟨p, hp, rfl⟩ : ∃ p, ps[i]? = some p ∧ p.1 = x := by
                rw [List.getElem?_map] at hx
                cases hq : ps[i]? with
                | none => rw [hq] at hx; cases hx
                | some p => rw [hq] at hx; injection hx with hx; exact ⟨p, rfl, hx⟩
              obtain ⟨x, v⟩ := p
              simp only at hc2
              have hmem := List.mem_of_getElem? hp
              clear hown hx hp
              by_cases hxk : x = k
              · subst hxk
                have G := Lib.hid (TI.get_no HR.out.tab x (hit_cut_self Cmp.ordI HR.out.srt))
                have hxx : (x != x) = false := by simp
                clear hmem
                go_wp2_with fail
                refine G.out.mono ?_
                rintro e w7 ⟨rfl, hb7⟩
                have HR7 := Lib.hid (HR.out.below hb7)
                clear hb7
                go_wp2
                go_roundw
                case rel => exact ⟨i + 1, by omega, by go_num, HR7⟩
                case measure => simp [intOf]; omega
              · have G := Lib.hid (TI.get_yes HR.out.tab x v (hit_cut_other Cmp.ordI HR.out.srt hmem hxk).2)
                have hxx : (x != k) = true := by simpa using hxk
                clear hmem
                go_wp2_with fail
                refine G.out.mono ?_
                rintro e w7 ⟨rfl, hb7⟩
                have HR7 := Lib.hid (HR.out.below hb7)
                clear hb7
                go_wp2
                go_roundw
                case rel => exact ⟨i + 1, by omega, by go_num, HR7⟩
                case measure => simp [intOf]; omega
            · obtain rfl : m = i := by omega
              rcases from_cut HR.out.srt k with ⟨p, hp, hkp, hlo⟩ | ⟨hno, hlo⟩
              · obtain ⟨q, hq⟩ : ∃ q, (cut Cmp.cmpI k ps)[lo Cmp.cmpI k (cut Cmp.cmpI k ps)]? = some q := ⟨_, List.getElem?_eq_getElem hlo⟩
                have F := Lib.hid (TI.from_yes HR.out.tab k q hq)
                have hm0 : 0 < m := by have := HR.out.len; have := (List.getElem?_eq_some_iff.1 hp).1; omega
                rw [HR.out.len] at hp
                have HP := Lib.hid hp
                clear hlo hp hq
                go_wp2_with fail
                refine F.out.mono ?_
                rintro e w8 ⟨rfl, hb8⟩
                have HR8 := Lib.hid (HR.out.below hb8)
                clear hb8
                obtain ⟨b, hown⟩ := HR8.out.own
                obtain ⟨ad2, x, rfl, hx, hc2⟩ := (ints_of_owns hown).at_ (Below.refl _ _) (Nat.le_refl _) (j := m - 1) (by omega)
                rw [List.getElem?_map, HP.out] at hx
                injection hx with hx
                subst hx
                have hmi : ((m : Int) - 1) = ((m - 1 : Nat) : Int) := by omega
                have hmi2 : ((m : Int) - 1).toNat = m - 1 := by omega
                have hmi3 : (0 : Int) ≤ (m : Int) - 1 := by omega
                have hmi4 : (1 : Int) ≤ (m : Int) := by omega
                have hmi5 : (0 : Int) < (m : Int) := by omega
                clear hown hmi
                go_wp2_with fail
                have P := Lib.hid (TI.put_new HR8.out.tab k 7 (hit_cut_self Cmp.ordI HR8.out.srt) (by have h1 := HR8.out.len; have h2 := length_cut (cm := Cmp.cmpI) (k := k) (ps := ps); split at h2 <;> omega))
                go_wp2_with fail
                refine P.out.mono ?_
                rintro e w9 ⟨rfl, hT9, hF9⟩
                have HB9 := Lib.hid (HR8.out.bel.trans (hF9.below HR8.out.tab.base_le))
                have hput : ins Cmp.cmpI k 7 (cut Cmp.cmpI k ps) = put Cmp.cmpI k 7 (cut Cmp.cmpI k ps) := by unfold put; rw [hit_cut_self Cmp.ordI HR8.out.srt]; rfl
                rw [hput] at hT9
                have hg9 := hit_of_mem Cmp.ordI hT9.srt (put_mem (cm := Cmp.cmpI) (k := k) (v := (7 : Int)) (ps := cut Cmp.cmpI k ps))
                have G9 := Lib.hid (TI.get_yes hT9 k 7 hg9.2)
                have hbl9 := hT9.base_le
                clear hput hg9 hT9 hF9
                go_wp2_with fail
                refine G9.out.mono ?_
                rintro e w10 ⟨rfl, hb10⟩
                have HB10 := Lib.hid (HB9.out.trans (hb10.mono hbl9))
                clear hb10
                go_wp2_with fail
                refine (AW.awake _).mono ?_
                rintro e w11 ⟨rfl, hb11⟩
                have HB11 := Lib.hid hb11
                clear hb11
                go_wp2
                go_ret
                refine ⟨rfl, ?_⟩
                have h1 := HB10.out
                rw [HTT.out] at h1
                exact h1.trans (HB11.out.mono h1.size)
              · by_cases hm0 : m = 0
                · subst hm0
                  have F := Lib.hid (TI.from_no HR.out.tab k hlo)
                  clear hno hlo
                  go_wp2_with fail
                  refine F.out.mono ?_
                  rintro e w8 ⟨rfl, hb8⟩
                  have HR8 := Lib.hid (HR.out.below hb8)
                  clear hb8
                  have P := Lib.hid (TI.put_new HR8.out.tab k 7 (hit_cut_self Cmp.ordI HR8.out.srt) (by have h1 := HR8.out.len; have h2 := length_cut (cm := Cmp.cmpI) (k := k) (ps := ps); split at h2 <;> omega))
                  go_wp2_with fail
                  refine P.out.mono ?_
                  rintro e w9 ⟨rfl, hT9, hF9⟩
                  have HB9 := Lib.hid (HR8.out.bel.trans (hF9.below HR8.out.tab.base_le))
                  have hput : ins Cmp.cmpI k 7 (cut Cmp.cmpI k ps) = put Cmp.cmpI k 7 (cut Cmp.cmpI k ps) := by unfold put; rw [hit_cut_self Cmp.ordI HR8.out.srt]; rfl
                  rw [hput] at hT9
                  have hg9 := hit_of_mem Cmp.ordI hT9.srt (put_mem (cm := Cmp.cmpI) (k := k) (v := (7 : Int)) (ps := cut Cmp.cmpI k ps))
                  have G9 := Lib.hid (TI.get_yes hT9 k 7 hg9.2)
                  have hbl9 := hT9.base_le
                  clear hput hg9 hT9 hF9
                  go_wp2_with fail
                  refine G9.out.mono ?_
                  rintro e w10 ⟨rfl, hb10⟩
                  have HB10 := Lib.hid (HB9.out.trans (hb10.mono hbl9))
                  clear hb10
                  go_wp2_with fail
                  refine (AW.awake _).mono ?_
                  rintro e w11 ⟨rfl, hb11⟩
                  have HB11 := Lib.hid hb11
                  clear hb11
                  go_wp2
                  go_ret
                  refine ⟨rfl, ?_⟩
                  have h1 := HB10.out
                  rw [HTT.out] at h1
                  exact h1.trans (HB11.out.mono h1.size)
                · have F := Lib.hid (TI.from_no HR.out.tab k hlo)
                  have hlast : ∃ p, ps[m - 1]? = some p := ⟨ps[m - 1]'(by have := HR.out.len; omega), List.getElem?_eq_getElem _⟩
                  obtain ⟨p, hp⟩ := hlast
                  have hkp := hno p (by rw [HR.out.len]; exact hp)
                  have HP := Lib.hid hp
                  clear hno hlo hp
                  go_wp2_with fail
                  refine F.out.mono ?_
                  rintro e w8 ⟨rfl, hb8⟩
                  have HR8 := Lib.hid (HR.out.below hb8)
                  clear hb8
                  obtain ⟨b, hown⟩ := HR8.out.own
                  obtain ⟨ad2, x, rfl, hx, hc2⟩ := (ints_of_owns hown).at_ (Below.refl _ _) (Nat.le_refl _) (j := m - 1) (by omega)
                  rw [List.getElem?_map, HP.out] at hx
                  injection hx with hx
                  subst hx
                  have hmi2 : ((m : Int) - 1).toNat = m - 1 := by omega
                  have hmi3 : (0 : Int) ≤ (m : Int) - 1 := by omega
                  have hmi4 : (1 : Int) ≤ (m : Int) := by omega
                  have hmi5 : (0 : Int) < (m : Int) := by omega
                  have hkp2 : decide (k < p.1) = false := by simpa using hkp
                  clear hown
                  have P := Lib.hid (TI.put_new HR8.out.tab k 7 (hit_cut_self Cmp.ordI HR8.out.srt) (by have h1 := HR8.out.len; have h2 := length_cut (cm := Cmp.cmpI) (k := k) (ps := ps); split at h2 <;> omega))
                  go_wp2_with fail
                  refine P.out.mono ?_
                  rintro e w9 ⟨rfl, hT9, hF9⟩
                  have HB9 := Lib.hid (HR8.out.bel.trans (hF9.below HR8.out.tab.base_le))
                  have hput : ins Cmp.cmpI k 7 (cut Cmp.cmpI k ps) = put Cmp.cmpI k 7 (cut Cmp.cmpI k ps) := by unfold put; rw [hit_cut_self Cmp.ordI HR8.out.srt]; rfl
                  rw [hput] at hT9
                  have hg9 := hit_of_mem Cmp.ordI hT9.srt (put_mem (cm := Cmp.cmpI) (k := k) (v := (7 : Int)) (ps := cut Cmp.cmpI k ps))
                  have G9 := Lib.hid (TI.get_yes hT9 k 7 hg9.2)
                  have hbl9 := hT9.base_le
                  clear hput hg9 hT9 hF9
                  go_wp2_with fail
                  refine G9.out.mono ?_
                  rintro e w10 ⟨rfl, hb10⟩
                  have HB10 := Lib.hid (HB9.out.trans (hb10.mono hbl9))
                  clear hb10
                  go_wp2_with fail
                  refine (AW.awake _).mono ?_
                  rintro e w11 ⟨rfl, hb11⟩
                  have HB11 := Lib.hid hb11
                  clear hb11
                  go_wp2
                  go_ret
                  refine ⟨rfl, ?_⟩
                  have h1 := HB10.out
                  rw [HTT.out] at h1
                  exact h1.trans (HB11.out.mono h1.size)

set_option maxRecDepth 100000 in
theorem lifted (os : Os) (started : os.Started) (H : Type) (enc : TypeId × Value → H) :
    ReturnsInHanded {} Try.checked os 6 .any (Rows.tableCutsSpec.pre6 enc Try.prog Try.f6 Rows.tableCutsRow.domain false) (Rows.tableCutsSpec.post enc Try.prog Try.f6 false true false false) := by
  refine returnsInHanded_of_change (C := Try.checked) Law.own started (by kernel_rfl) Try.func6
    (ChangeSpec.witness6 (enc := enc) (C := Try.checked) false ⟨#[], #[.slice none 0 0, .int .i64 0], []⟩ 8 (by kernel_rfl) (by kernel_rfl) (by kernel_rfl) (by kernel_rfl)) ?_
  intro W base args ds gs before hval hW hcnd _
  have hW' := hW
  obtain ⟨p, q, hA, hV, rfl, hfz, hnd⟩ := hW
  rw [Try.params6] at hA hval
  obtain ⟨v0, v1, d0, d1, p0, p1, rfl, rfl, rfl, h0, h1⟩ := trodAll_two hA
  obtain ⟨rfl, rfl⟩ := trodVars_none hV
  obtain ⟨ad, len, cap, rfl⟩ := okWide_slice Try.underlying26 (hval 0 26 v0 rfl rfl)
  obtain ⟨a1, rfl, rfl, rfl, w1⟩ := open_int Try.underlying3 (hval 1 3 v1 rfl rfl) h1
  obtain ⟨zs, hzs, hlen⟩ := Law.open_ints_at h0
  refine (walk ad len cap zs a1 W hzs hlen).mono fun e W' ⟨he, hb⟩ => ?_
  subst he
  exact ⟨_, rfl, Law.law_post (by kernel_rfl) (by kernel_rfl) rfl hW' rfl rfl rfl hb⟩

theorem tableCuts_holds : Rows.TableCutsSaid :=
  OpenClaim.holds_of_wide 6 Try.f6 rfl rfl rfl rfl rfl rfl rfl ⟨rfl, rfl, rfl, rfl, rfl⟩ rfl rfl rfl rfl rfl (by kernel_rfl) Try.func6 (by kernel_rfl)
    (of_decide_eq_true (by kernel_rfl)) (by unfold Func.isWrapper; first | (rw [if_pos (by decide +kernel)]; kernel_rfl) | (rw [if_neg (by decide +kernel)]; exact ⟨rfl, rfl⟩))
    (fun os started H enc _ => lifted os started H enc)
#print axioms tableCuts_holds
end Go.Proofs.Ytnijiimljpbgpaa.tableCuts
