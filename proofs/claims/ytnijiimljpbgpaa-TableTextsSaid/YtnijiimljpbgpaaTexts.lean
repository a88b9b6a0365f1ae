/-
  Whatever texts are put in whatever order, the table is in order, each once (TableTexts), for every []string and every int.
-/
import Derived.Test.YtnijiimljpbgpaaAwake
import Derived.Test.YtnijiimljpbgpaaTextsA
import Derived.Test.YtnijiimljpbgpaaLaw
import Derived.Deep.RegionLaw
namespace Go.Proofs.Ytnijiimljpbgpaa.tableTexts
open Go.ChangeShapes Go.WideShapes Go.ChangeAt Go.RowKit Go.Proofs.Ytnijiimljpbgpaa.Kit Go.Proofs.Ytnijiimljpbgpaa.Arg

theorem sinfo : (Try.prog.info? 9).map (fun i => (i.zero, i.size, i.bytes)) = some (some (.string ⟨#[]⟩), 1, 16) := by kernel_rfl

theorem add_add (a : Addr) (i j : Nat) : (a.add i).add j = a.add (i + j) := by
  unfold Addr.add
  by_cases hi : i = 0 <;> by_cases hj : j = 0 <;> simp [hi, hj, Nat.add_assoc]

/-- the two appends of the law's own statement: what stands from k on, then what stands ahead of k -/
theorem turned (A : Option Addr) (n c kk : Nat) (zs : List ByteArray) (w W : World) (hz : StrsAt w A n zs) (hb : Below w.heap.size w W) (hk : kk ≤ n) (hnc : n ≤ c) (hn : n ≤ 100) :
    ∃ A1 c1 W1 A2 c2 W2,
      (Builtin.append_ #[39, 39] 39 #[.slice (some ⟨W.heap.size, 0, none⟩) 0 0, .slice (if c = kk then A else Option.map (fun x => x.add kk) A) (n - kk) (c - kk)]).run Try.prog (W.alloc (.cells #[] 9)).drew = .ok (.slice A1 (n - kk) c1) W1 ∧
      (Builtin.append_ #[39, 39] 39 #[.slice A1 (n - kk) c1, .slice A kk c]).run Try.prog W1 = .ok (.slice A2 n c2) W2 ∧
      W2.ownsRow W.heap.size 9 1 (.slice A2 n c2) n ((zs.drop kk ++ zs.take kk).map (fun z => Value.string z)) ∧ Below W.heap.size W W2 := by
  obtain ⟨i0, hi0, hz0, hz1, hz2⟩ := info_parts sinfo
  obtain ⟨hzl, hzc⟩ := hz
  have hown0 : ((W.alloc (.cells #[] 9)).drew).ownsRow W.heap.size 9 1 (.slice (some ⟨W.heap.size, 0, none⟩) 0 0) 0 [] := World.ownsRow_made W #[] 0 (Nat.le_refl _) (Nat.zero_le _) rfl
  have hone : ∀ l : List ByteArray, ∀ u ∈ l.map (fun z => Value.string z), u.oneCell' = true := by
    intro l u hu
    obtain ⟨z, _, rfl⟩ := List.mem_map.1 hu
    rfl
  have hold : ∀ (ad : Addr) (W' : World), ad.block < w.heap.size → Below w.heap.size w W' → (∀ j z, zs[j]? = some z → w.cell? (ad.add j) = some (.string z)) → ∀ j z, zs[j]? = some z → W'.cell? (ad.add j) = some (.string z) := by
    intro ad W' h1 h2 h3 j z hj
    rw [h2.cell (p := ad.add j) (by rw [add_block]; exact h1)]
    exact h3 j z hj
  have hba : Below w.heap.size w (W.alloc (.cells #[] 9)).drew := (hb.alloc hb.size _).drew
  obtain ⟨A1, c1, W1, hr1, ho1, hg1⟩ := run_append_seq (P := Try.prog) (W.alloc (.cells #[] 9)).drew W.heap.size 39 39 9 i0 _ 1 16 Try.underlying39 hi0 hz0 hz1 hz2 rfl (by decide) _ 0 [] hown0
    (if c = kk then A else Option.map (fun x => x.add kk) A) (n - kk) (c - kk) ((zs.drop kk).map (fun z => Value.string z)) (by simp; omega)
    (fun hpos => by
      obtain ⟨ad, rfl, hlt, hcell⟩ := hzc (by omega)
      rw [if_neg (by omega)]
      refine ⟨ad.add kk, rfl, fun j u hu => ?_⟩
      rw [List.getElem?_map, List.getElem?_drop] at hu
      cases hq : zs[kk + j]? with
      | none => rw [hq] at hu; cases hu
      | some z =>
        rw [hq] at hu
        injection hu with hu
        subst hu
        rw [add_add]
        exact hold ad _ hlt hba hcell _ _ hq)
    (hone _) (by unfold maxLen; omega) (by omega) (Nat.le_trans (Nat.le_succ _) (by simp))
  rw [Nat.zero_add, List.nil_append] at ho1
  rw [Nat.zero_add] at hr1
  have hb1 : Below W.heap.size W W1 := by
    have h0 : Below W.heap.size W (W.alloc (.cells #[] 9)).drew := ((Below.refl _ _).alloc (Nat.le_refl _) _).drew
    exact h0.grown hg1 (Nat.le_trans (Nat.le_succ _) (by simp)) (fun g hgv => by injection hgv with hgv; simp at hgv; omega)
  have hbw1 : Below w.heap.size w W1 := hb.trans (hb1.mono hb.size)
  obtain ⟨A2, c2, W2, hr2, ho2, hg2⟩ := run_append_seq (P := Try.prog) W1 W.heap.size 39 39 9 i0 _ 1 16 Try.underlying39 hi0 hz0 hz1 hz2 rfl (by decide) _ (n - kk) _ ho1
    A kk c ((zs.take kk).map (fun z => Value.string z)) (by simp; omega)
    (fun hpos => by
      obtain ⟨ad, rfl, hlt, hcell⟩ := hzc (by omega)
      refine ⟨ad, rfl, fun j u hu => ?_⟩
      rw [List.getElem?_map, List.getElem?_take] at hu
      split at hu
      · cases hq : zs[j]? with
        | none => rw [hq] at hu; cases hu
        | some z =>
          rw [hq] at hu
          injection hu with hu
          subst hu
          exact hold ad _ hlt hbw1 hcell _ _ hq
      · cases hu)
    (hone _) (by unfold maxLen; omega) (by omega) hb1.size
  rw [show n - kk + kk = n by omega] at hr2 ho2
  rw [← List.map_append] at ho2
  exact ⟨A1, c1, W1, A2, c2, W2, hr1, hr2, ho2, hb1.grown hg2 hb1.size (fun g hgv => (ho1.lt g hgv).1)⟩

set_option maxHeartbeats 2000000 in
set_option maxRecDepth 100000 in
theorem walk (A : Option Addr) (n c : Nat) (zs : List ByteArray) (a1 : Int) (w : World) (hz : StrsAt w A n zs) (hnc : n ≤ c) (hcm : c ≤ maxLen) :
    Calls Try.prog 4 #[.slice A n c, .int .i64 a1] w fun e w' => e = .returned (.bool true) ∧ Below w.heap.size w w' := by
  have HZ := Lib.hid hz
  clear hz
  have hc : c ≤ 9223372036854775807 := by unfold maxLen at hcm; omega
  clear hcm
  by_cases hbig : 100 < n
  · go_enter Try.func4, Try.ntmps4
    go_wp2_with (go_at_call 9; refine (AW.awake _).mono ?_; rintro e w' ⟨rfl, hb⟩)
    go_ret
    exact ⟨rfl, hb⟩
  · have hn6 : n ≤ 100 := by omega
    have HN1 := Lib.hid (TS.new_row 200 w)
    go_enter Try.func4, Try.ntmps4
    go_wp2_with fail
    refine HN1.out.mono ?_
    rintro e w1 ⟨rfl, hrow1, hb1⟩
    have hrow1' := hrow1
    rw [show TS.rm 200 = 200 by decide] at hrow1
    have HR1 := Lib.hid hrow1
    have HB1 := Lib.hid hb1
    have HN2 := Lib.hid (TS.new_row 200 w1)
    clear hrow1 hrow1' hb1 HN1
    go_wp2_with fail
    refine HN2.out.mono ?_
    rintro e w2 ⟨rfl, hrow2, hb2⟩
    rw [show TS.rm 200 = 200 by decide] at hrow2
    have HR2 := Lib.hid hrow2
    have hlt12 : w.heap.size < w1.heap.size := HR1.out.lt
    have HR1' := Lib.hid (HR1.out.below hb2 hlt12)
    have HB2 := Lib.hid (HB1.out.trans (hb2.mono (Nat.le_of_lt hlt12)))
    clear hrow2 hb2 HN2
    obtain ⟨T, hT⟩ : ∃ T, T = w.heap.size := ⟨_, rfl⟩
    obtain ⟨T2, hT2⟩ : ∃ T2, T2 = w1.heap.size := ⟨_, rfl⟩
    rw [← hT] at HR1' HB2 hlt12 ⊢
    rw [← hT2] at HR2 hlt12 ⊢
    have HTT := Lib.hid hT
    clear hT hT2 HR1 HB1
    go_wp2
    obtain ⟨kk, hkk, hkk2⟩ : ∃ kk : Nat, wrap64 ((IntKind.u64.wrap a1).tmod (↑n + 1)) = (kk : Int) ∧ kk ≤ n := by
      have h0 : 0 ≤ IntKind.u64.wrap a1 := by rw [IntKind.wrap_u64]; omega
      have h1 : (IntKind.u64.wrap a1).tmod (↑n + 1) = IntKind.u64.wrap a1 % (↑n + 1) := Int.tmod_eq_emod_of_nonneg h0
      have h2 := Int.emod_nonneg (IntKind.u64.wrap a1) (show (n : Int) + 1 ≠ 0 by omega)
      have h3 := Int.emod_lt_of_pos (IntKind.u64.wrap a1) (show (0 : Int) < (n : Int) + 1 by omega)
      refine ⟨(IntKind.u64.wrap a1 % (↑n + 1)).toNat, ?_, by omega⟩
      rw [h1]
      unfold wrap64
      omega
    rw [hkk]
    have hk1 : (kk : Int) ≤ (n : Int) := by omega
    have hk2 : kk ≤ c := by omega
    have hbW : Below w.heap.size w w2 := by rw [← HTT.out]; exact HB2.out
    obtain ⟨A1, c1, W1, A2, c2, W2, hr1, hr2, ho2, hb2⟩ := turned A n c kk zs w w2 HZ.out hbW hkk2 hnc hn6
    have h10 : TS.L1 w W2 T T2 A2 n c2 (zs.drop kk ++ zs.take kk) 0 [] :=
      ⟨TS.tab_of_row (HR1'.out.below hb2 HR1'.out.lt) (by decide) (by have := hb2.size; have := HR1'.out.lt; omega), HR2.out.below hb2 HR2.out.lt, ⟨_, ho2⟩, HB2.out.trans (hb2.mono (by have := HR1'.out.lt; omega)), fun x => by simp, fun p hp => (List.not_mem_nil hp).elim, Nat.le_refl _, hlt12⟩
    have H10 := Lib.hid h10
    have hrsl : Hid ((zs.drop kk ++ zs.take kk).length = n) := by show _ = _; have := HZ.out.1; simp; omega
    have hrsm : Hid (∀ x, x ∈ zs.drop kk ++ zs.take kk ↔ x ∈ zs) := by
      intro x
      rw [List.mem_append]
      constructor
      · rintro (h | h)
        · exact List.mem_of_mem_drop h
        · exact List.mem_of_mem_take h
      · intro h
        rw [← List.take_append_drop kk zs] at h
        exact (List.mem_append.1 h).symm
    generalize zs.drop kk ++ zs.take kk = rs at H10 hrsl hrsm
    clear h10 ho2 hb2 hbW HR1' HR2 HB2 hkk
    go_region_law (first
      | (refine step_append_eq rfl (.tmp 36) (.tmp 39) 39 39 rfl (.slice (some ⟨w2.heap.size, 0, none⟩) 0 0) (.slice (if c = kk then A else Option.map (fun x => x.add kk) A) (n - kk) (c - kk)) (by simp [Act.eval, Act.put]) (by simp [Act.eval, Act.put]) hr1 ?_)
      | (refine step_append_eq rfl (.tmp 40) (.tmp 43) 39 39 rfl (.slice A1 (n - kk) c1) (.slice A kk c) (by simp [Act.eval, Act.put]) (by simp [Act.eval, Act.put]) hr2 ?_))
    clear hr1 hr2
    go_wp2
    all_goals
      (try generalize Option.map (fun x => x.add kk) A = A39)
      go_loopw [46] (fun s46 wr => ∃ (j : Nat) (ps : List TS.PR), j ≤ n ∧ s46 = .int .i64 j ∧ Hid (TS.L1 w wr T T2 A2 n c2 rs j ps)) (fun s46 _ => n - (intOf s46).toNat)
      case atStart => exact ⟨0, [], Nat.zero_le _, rfl, H10⟩
      case round =>
        clear H10
        obtain ⟨j, ps, hj, rfl, HL⟩ := hrel
        by_cases hlt : j < n
        · obtain ⟨b, hown⟩ := HL.out.own
          obtain ⟨ad, x, rfl, hx, hc1⟩ := (strs_of_owns hown).at_ (Below.refl _ _) (Nat.le_refl _) hlt
          have hput := TS.put_any HL.out.tab x x
          have hpl := HL.out.len
          rw [show (hit Cmp.cmpS x ps || decide (ps.length < 200)) = true by simp; omega] at hput
          have P := Lib.hid hput
          have HX := Lib.hid hx
          clear hx hput hown
          go_wp2_with fail
          refine P.out.mono ?_
          rintro e w3 ⟨rfl, hT3, hF3⟩
          have HL3 := Lib.hid (HL.out.step HX.out hT3 hF3)
          clear hT3 hF3
          go_wp2
          go_roundw
          case rel => exact ⟨j + 1, _, by omega, by go_num, HL3⟩
          case measure => simp [intOf]; omega
        · obtain rfl : n = j := by omega
          have H20 := Lib.hid (HL.out.half zs)
          have HNP : Hid (∀ x, x ∈ ps.map (·.1) ↔ x ∈ zs) := by
            intro x
            rw [HL.out.nam, List.take_of_length_le (Nat.le_of_eq hrsl.out), hrsm.out]
          have HVP := Lib.hid HL.out.val
          obtain ⟨B, hB⟩ : ∃ B, B = wr.heap.size := ⟨_, rfl⟩
          rw [← hB] at H20
          clear hB HL hlt
          go_wp2
          go_loopw [57] (fun s57 wr => ∃ (j : Nat) (qs : List TS.PR), j ≤ n ∧ s57 = .int .i64 j ∧ Hid (TS.L2 w wr T T2 B ps zs j qs)) (fun s57 _ => n - (intOf s57).toNat)
          case atStart => exact ⟨0, [], Nat.zero_le _, rfl, H20⟩
          case round =>
            clear H20
            obtain ⟨j, qs, hj, rfl, HL⟩ := hrel
            by_cases hlt : j < n
            · obtain ⟨ad, x, rfl, hx, hc1⟩ := HZ.out.at_ HL.out.bel (Nat.le_of_eq HTT.out.symm) hlt
              have hput := TS.put_any HL.out.tab x x
              have hpl := HL.out.len
              rw [show (hit Cmp.cmpS x qs || decide (qs.length < 200)) = true by simp; omega] at hput
              have P := Lib.hid hput
              have HX := Lib.hid hx
              clear hx hput
              go_wp2_with fail
              refine P.out.mono ?_
              rintro e w3 ⟨rfl, hT3, hF3⟩
              have HL3 := Lib.hid (HL.out.step HX.out hT3 hF3)
              clear hT3 hF3
              go_wp2
              go_roundw
              case rel => exact ⟨j + 1, _, by omega, by go_num, HL3⟩
              case measure => simp [intOf]; omega
            · obtain rfl : n = j := by omega
              have hnames : ps.map (·.1) = qs.map (·.1) := names_ext Cmp.ordS _ _ (srt_names HL.out.low.srt) (srt_names HL.out.tab.srt) (fun x => by
                rw [HNP.out, HL.out.nam, List.take_of_length_le (Nat.le_of_eq HZ.out.1)])
              have hql : qs.length = ps.length := by have := congrArg List.length hnames; simpa using this.symm
              have HNM := Lib.hid hnames
              have HT := Lib.hid HL.out.low.tab
              have K1 := Lib.hid (TS.keys_ HT.out)
              have HSP := Lib.hid HL.out.low.srt
              have hpl : ps.length ≤ 200 := HL.out.low.len
              clear hnames hlt
              go_wp2_with fail
              refine K1.out.mono ?_
              rintro e w3 hp
              obtain ⟨A3, c3, rfl, ho3, hb3⟩ := hp
              have HO3 := Lib.hid ho3
              have HB3 := Lib.hid hb3
              have K2 := Lib.hid (TS.keys_ (HL.out.tab.below hb3))
              clear ho3 hb3 K1
              go_wp2_with fail
              refine K2.out.mono ?_
              rintro e w4 hp
              obtain ⟨A4, c4, rfl, ho4, hb4⟩ := hp
              have HT4 := Lib.hid ((HT.out.below HB3.out).below hb4)
              have HI3 := Lib.hid (strs_of_owns (zs := ps.map (·.1)) (by rw [List.map_map]; exact TS.owns_below hb4 HO3.out))
              have HI4 := Lib.hid (strs_of_owns (zs := qs.map (·.1)) (by rw [List.map_map]; exact ho4))
              rw [← HNM.out] at HI4
              rw [hql] at HI4 ⊢
              have HBT := Lib.hid (HL.out.bel.trans ((HB3.out.trans (hb4.mono HB3.out.size)).mono HT.out.base_le))
              have HBS := Lib.hid (Below.refl w4.heap.size w4)
              clear ho4 hb4 K2 HO3 HB3 hql HL
              have LT := Lib.hid (TS.len_ HT4.out)
              obtain ⟨m, hm⟩ : ∃ m, ps.length = m := ⟨_, rfl⟩
              rw [hm] at HI3 HI4 LT hpl ⊢
              have HM := Lib.hid hm
              clear hm
              have hmm : ((m : Int) != (m : Int)) = false := by simp
              go_wp2_with (go_at_call 22; refine LT.out.mono ?_; rintro e w5 ⟨rfl, rfl⟩)
              clear LT
              go_loopw [84] (fun s84 wr => ∃ i : Nat, i ≤ m ∧ s84 = .int .i64 i ∧ Hid (Below w4.heap.size w4 wr)) (fun s84 _ => m - (intOf s84).toNat)
              case atStart => exact ⟨0, Nat.zero_le _, rfl, HBS⟩
              case round =>
                clear HBS
                obtain ⟨i, hi, rfl, hBr⟩ := hrel
                have hTr := Lib.hid (HT4.out.below hBr.out)
                by_cases hlt : i < m
                · obtain ⟨ad3, x, rfl, hx, hc3⟩ := HI3.out.at_ hBr.out (Nat.le_refl _) hlt
                  obtain ⟨⟨x', v⟩, hp, rfl⟩ : ∃ p, ps[i]? = some p ∧ p.1 = x := by
                    rw [List.getElem?_map] at hx
                    cases hq : ps[i]? with
                    | none => rw [hq] at hx; cases hx
                    | some p => rw [hq] at hx; injection hx with hx; exact ⟨p, rfl, hx⟩
                  simp only at hx hc3
                  have hvx : v = x' := HVP.out _ (List.mem_of_getElem? hp)
                  subst hvx
                  have hg := hit_of_mem Cmp.ordS HSP.out (List.mem_of_getElem? hp)
                  have G := Lib.hid (TS.get_yes hTr.out v v hg.2)
                  have HP := Lib.hid hp
                  have HX := Lib.hid hx
                  clear hg hp hx
                  go_wp2_with fail
                  refine G.out.mono ?_
                  rintro e w5 ⟨rfl, hb5⟩
                  have HB5 := Lib.hid (hBr.out.trans (hb5.mono hBr.out.size))
                  clear hb5
                  have hc4 : ∃ ad, A4 = some ad ∧ w5.cell? (ad.add i) = some (.string v) := by
                    obtain ⟨ad, y, e, hy, hc⟩ := HI4.out.at_ HB5.out (Nat.le_refl _) hlt
                    rw [HX.out] at hy
                    injection hy with hy
                    subst hy
                    exact ⟨ad, e, hc⟩
                  obtain ⟨ad4, rfl, hc4⟩ := hc4
                  cases i with
                  | zero =>
                    have hc40 : w5.cell? ad4 = some (.string v) := by
                      have e : ad4.add 0 = ad4 := by simp [Addr.add]
                      rw [e] at hc4
                      exact hc4
                    go_wp2
                    go_roundw
                    case rel => exact ⟨0 + 1, by omega, by go_num, HB5⟩
                    case measure => simp [intOf]; omega
                  | succ i' =>
                    obtain ⟨ad3', y, e2, hy, hc5⟩ := HI3.out.at_ HB5.out (Nat.le_refl _) (j := i') (by omega)
                    injection e2 with e2
                    subst e2
                    obtain ⟨⟨y', v'⟩, hp', rfl⟩ : ∃ p, ps[i']? = some p ∧ p.1 = y := by
                      rw [List.getElem?_map] at hy
                      cases hq : ps[i']? with
                      | none => rw [hq] at hy; cases hy
                      | some p => rw [hq] at hy; injection hy with hy; exact ⟨p, rfl, hy⟩
                    simp only at hc5
                    have hab : Cmp.cmpS y' v < 0 := by
                      obtain ⟨h1, e1⟩ := List.getElem?_eq_some_iff.1 hp'
                      obtain ⟨h2, e2⟩ := List.getElem?_eq_some_iff.1 HP.out
                      have := List.pairwise_iff_getElem.1 HSP.out i' (i' + 1) h1 h2 (by omega)
                      rwa [e1, e2] at this
                    obtain ⟨hq1, hq2⟩ := text_above hab
                    have hc41 : w5.cell? { block := ad4.block, off := ad4.off + (i' + 1) } = some (.string v) := by simpa [Addr.add] using hc4
                    clear hab hy hp'
                    go_wp2
                    go_roundw
                    case rel => exact ⟨i' + 1 + 1, by omega, by go_num, HB5⟩
                    case measure => simp [intOf]; omega
                · obtain rfl : m = i := by omega
                  have HB6 := Lib.hid (HBT.out.trans (hBr.out.mono HT4.out.base_le))
                  clear hlt hBr
                  go_wp2
                  go_loopw [126] (fun s126 wr => ∃ i : Nat, i ≤ n ∧ s126 = .int .i64 i ∧ Hid (TS.Tab wr T T 200 ps) ∧ Hid (Below T w wr)) (fun s126 _ => n - (intOf s126).toNat)
                  case atStart => exact ⟨0, Nat.zero_le _, rfl, hTr, HB6⟩
                  case round =>
                    clear hTr HB6
                    obtain ⟨i, hi, rfl, hTr, hBr⟩ := hrel
                    by_cases hlt : i < n
                    · obtain ⟨ad, x, rfl, hx, hc6⟩ := HZ.out.at_ hBr.out (Nat.le_of_eq HTT.out.symm) hlt
                      have hmem := (HNP.out x).2 (List.mem_of_getElem? hx)
                      obtain ⟨v, hv⟩ := (hit_iff Cmp.ordS).1 ((hit_iff_names Cmp.ordS HSP.out).2 hmem)
                      have G := Lib.hid (TS.get_yes hTr.out x v hv)
                      have hbl := hTr.out.base_le
                      clear hmem hv hx
                      go_wp2_with fail
                      refine G.out.mono ?_
                      rintro e w5 ⟨rfl, hb5⟩
                      have HB5 := Lib.hid (hBr.out.trans (hb5.mono hbl))
                      have HT5 := Lib.hid (hTr.out.below hb5)
                      clear hb5
                      go_wp2
                      go_roundw
                      case rel => exact ⟨i + 1, by omega, by go_num, HT5, HB5⟩
                      case measure => simp [intOf]; omega
                    · obtain rfl : n = i := by omega
                      go_wp2_with (go_at_call 9; refine (AW.awake _).mono ?_; rintro e w' ⟨rfl, hb⟩)
                      go_ret
                      refine ⟨rfl, ?_⟩
                      have h1 := hBr.out
                      rw [HTT.out] at h1
                      exact h1.trans (hb.mono h1.size)

theorem open_strs_wf {H : Type} {enc : TypeId × Value → H} {W : World} {a0 : Option Addr} {len cap : Nat} {d : DataW H} {p : List MemPlace} (h : DataW.Trod enc Try.prog W 0 (fun _ => true) true 39 (.slice a0 len cap) d p) : len ≤ cap ∧ cap ≤ maxLen := by
  obtain ⟨fuel, hf⟩ := h
  rcases open_strings Try.underlying39 Try.underlying9 (by kernel_rfl) hf with ⟨hcs, hx⟩ | ⟨a, len', cap', zs, hcs, _, hl, hm, hz, hx, hcell, hwz⟩
  · simp [Value.cells] at hcs
    obtain ⟨rfl, rfl, rfl⟩ := hcs
    exact ⟨Nat.le_refl _, Nat.zero_le _⟩
  · simp [Value.cells] at hcs
    obtain ⟨rfl, rfl, rfl⟩ := hcs
    exact ⟨hl, hm⟩

set_option maxRecDepth 100000 in
theorem lifted (os : Os) (started : os.Started) (H : Type) (enc : TypeId × Value → H) :
    ReturnsInHanded {} Try.checked os 4 .any (Rows.tableTextsSpec.pre6 enc Try.prog Try.f4 Rows.tableTextsRow.domain false) (Rows.tableTextsSpec.post enc Try.prog Try.f4 false true false false) := by
  refine returnsInHanded_of_change (C := Try.checked) Law.own started (by kernel_rfl) Try.func4
    (ChangeSpec.witness6 (enc := enc) (C := Try.checked) false ⟨#[], #[.slice none 0 0, .int .i64 0], []⟩ 8 (by kernel_rfl) (by kernel_rfl) (by kernel_rfl) (by kernel_rfl)) ?_
  intro W base args ds gs before hval hW hcnd _
  have hW' := hW
  obtain ⟨p, q, hA, hV, rfl, hfz, hnd⟩ := hW
  rw [Try.params4] at hA hval
  obtain ⟨v0, v1, d0, d1, p0, p1, rfl, rfl, rfl, h0, h1⟩ := trodAll_two hA
  obtain ⟨rfl, rfl⟩ := trodVars_none hV
  obtain ⟨ad, len, cap, rfl⟩ := okWide_slice Try.underlying39 (hval 0 39 v0 rfl rfl)
  obtain ⟨a1, rfl, rfl, rfl, w1⟩ := open_int Try.underlying3 (hval 1 3 v1 rfl rfl) h1
  obtain ⟨zs, hzs, hlen⟩ := Law.open_strs_at h0
  obtain ⟨hlc, hcm⟩ := open_strs_wf h0
  refine (walk ad len cap zs a1 W hzs hlc hcm).mono fun e W' ⟨he, hb⟩ => ?_
  subst he
  exact ⟨_, rfl, Law.law_post (by kernel_rfl) (by kernel_rfl) rfl hW' rfl rfl rfl hb⟩

theorem tableTexts_holds : Rows.TableTextsSaid :=
  OpenClaim.holds_of_wide 4 Try.f4 rfl rfl rfl rfl rfl rfl rfl ⟨rfl, rfl, rfl, rfl, rfl⟩ rfl rfl rfl rfl rfl (by kernel_rfl) Try.func4 (by kernel_rfl)
    (of_decide_eq_true (by kernel_rfl)) (by unfold Func.isWrapper; first | (rw [if_pos (by decide +kernel)]; kernel_rfl) | (rw [if_neg (by decide +kernel)]; exact ⟨rfl, rfl⟩))
    (fun os started H enc _ => lifted os started H enc)
#print axioms tableTexts_holds
end Go.Proofs.Ytnijiimljpbgpaa.tableTexts
