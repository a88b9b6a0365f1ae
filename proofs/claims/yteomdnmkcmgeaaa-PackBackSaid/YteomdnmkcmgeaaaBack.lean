/-
  What is written is read as it was, one behind the other; cut short it is an error, and nothing more is read (PackBack), for every []int, every []string and every int.
-/
import Derived.Test.YteomdnmkcmgeaaaK
namespace Go.Proofs.Yteomdnmkcmgeaaa.packBack
open Go.ChangeShapes Go.WideShapes Go.ChangeAt Go.RowKit Go.Proofs.Yteomdnmkcmgeaaa.Kit Go.Proofs.Yteomdnmkcmgeaaa.A Go.Proofs.Yteomdnmkcmgeaaa.B Go.Proofs.Yteomdnmkcmgeaaa.D Go.Proofs.Yteomdnmkcmgeaaa.E Go.Proofs.Yteomdnmkcmgeaaa.F Go.Proofs.Yteomdnmkcmgeaaa.H Go.Proofs.Yteomdnmkcmgeaaa.K Go.Proofs.Yteomdnmkcmgeaaa.Law

/-- Behind so many numbers. -/
structure St (w wr : World) (v7 : Value) (l : List UInt8) (v8 : Value) (k : Nat) (ns : List Nat) : Prop where
  row : OB w.heap.size w wr l.length v7 l
  want : wr.ownsRow w.heap.size 3 1 v8 k (ints ns)
theorem St.start (w : World) : St w w (.slice none 0 0) [] (.slice none 0 0) 0 [] := ⟨OB.nil w (Nat.le_refl _), World.ownsRow_nil _ _ _ _⟩
/-- Behind a reader's making. -/
structure Rs (w wr : World) (A7 : Option Addr) (L : Nat) (l : List UInt8) (A8 : Option Addr) (N : Nat) (ns : List Nat) (T : Nat) : Prop where
  row : BytesAt wr T A7 L l
  want : WantAt wr T A8 N ns
  bel : Below w.heap.size w wr
  base : w.heap.size ≤ T
theorem Rs.grown {w wr w2 : World} {A7 A8 : Option Addr} {L N T : Nat} {l : List UInt8} {ns : List Nat} (h : Rs w wr A7 L l A8 N ns T) (hg : wr.grownBy w2 (some T)) : Rs w w2 A7 L l A8 N ns T :=
  ⟨h.row.grown hg (Nat.le_refl _), h.want.grown hg (Nat.le_refl _), below_of_grown h.bel hg h.bel.size h.base, h.base⟩
theorem own_apart {w : World} {base base' n n' : Nat} {v v' : Value} {xs xs' : List Value} (h : w.ownsRow base 5 1 v n xs) (h' : w.ownsRow base' 3 1 v' n' xs') : v.ownBlock = none ∨ v.ownBlock ≠ v'.ownBlock := by
  rcases h.2 with ⟨rfl, _⟩ | ⟨g, cap, cur, rfl, _, hg, _⟩
  · exact .inl rfl
  · refine .inr fun e => ?_
    rcases h'.2 with ⟨rfl, _⟩ | ⟨g', cap', cur', rfl, _, hg', _⟩
    · simp [Value.ownBlock] at e
    · have e : g = g' := by simpa [Value.ownBlock] using e
      subst e
      rw [hg] at hg'
      injection hg' with hg'
      injection hg' with _ ht
      exact absurd ht (by decide)
theorem ba_same (s : ByteArray) : (⟨s.data.toList.toArray⟩ : ByteArray) = s := by cases s; simp
theorem bne_same (s : ByteArray) : (s.toList != s.toList) = false := by simp

set_option maxHeartbeats 16000000 in
set_option maxRecDepth 100000 in
theorem walk (A : Option Addr) (n cp : Nat) (zs : List Int) (A' : Option Addr) (n' cp' : Nat) (ss : List ByteArray) (cut : Int) (w : World) (hz : IntsAt w A n zs) (hn : n ≤ maxLen) (hs : StrsAt w A' n' ss) (hn' : n' ≤ maxLen) :
    Calls Try.prog 4 #[.slice A n cp, .slice A' n' cp', .int .i64 cut] w fun e w' => e = .returned (.bool true) ∧ Below w.heap.size w w' := by
  have HZ := Lib.hid hz
  have HZL := Lib.hid hz.1
  have HS := Lib.hid hs
  have HSL := Lib.hid hs.1
  clear hz hs
  unfold maxLen at hn hn'
  by_cases hbig : 30 < n
  · go_enter Try.func4, Try.ntmps4
    go_wp2_with (go_at_call 8; refine (H.awake _).mono ?_; rintro e w' ⟨rfl, hb⟩)
    go_ret
    exact ⟨rfl, hb⟩
  by_cases hbig2 : 30 < n'
  · have h30 : n ≤ 30 := by omega
    clear hbig
    go_enter Try.func4, Try.ntmps4
    go_wp2_with (go_at_call 8; refine (H.awake _).mono ?_; rintro e w' ⟨rfl, hb⟩)
    go_ret
    exact ⟨rfl, hb⟩
  have h30 : n ≤ 30 := by omega
  have h30' : n' ≤ 30 := by omega
  clear hbig hbig2 hn hn'
  obtain ⟨ns, hns⟩ : ∃ ns, ns = zs.map cx := ⟨_, rfl⟩
  have hnl : ns.length = n := by rw [hns, List.length_map]; exact HZL.out
  have hall : ∀ y ∈ ns, y ≤ 1099511627776 := by
    intro y hy
    rw [hns] at hy
    obtain ⟨x, _, rfl⟩ := List.mem_map.1 hy
    exact cx_le x
  have hat : ∀ (j : Nat) (x : Int), zs[j]? = some x → ns[j]? = some (cx x) := by
    intro j x hx
    rw [hns, List.getElem?_map, hx]; rfl
  have HNL := Lib.hid hnl
  have HALL := Lib.hid hall
  have HAT := Lib.hid hat
  clear hns hnl hall hat
  go_enter Try.func4, Try.ntmps4
  go_wp2_with fail
  go_loopw [7, 8, 29] (fun s7 s8 s29 wr => ∃ k : Nat, k ≤ n ∧ s29 = .int .i64 k ∧ Hid (St w wr s7 (encN (ns.take k)) s8 k (ns.take k))) (fun _ _ s29 _ => n - (intOf s29).toNat)
  case atStart => exact ⟨0, Nat.zero_le _, rfl, St.start w⟩
  case round =>
    obtain ⟨k, hk, rfl, H⟩ := hrel
    by_cases hlt : k < n
    · obtain ⟨ad, x, rfl, hx, hcell⟩ := HZ.out.at_ H.out.row.bel (Nat.le_refl _) hlt
      have hy := HAT.out _ _ hx
      have hm := cx_eq x
      obtain ⟨y, hyy⟩ : ∃ y, y = cx x := ⟨_, rfl⟩
      rw [← hyy] at hy hm
      have hy40 : y ≤ 1099511627776 := HALL.out y (List.mem_of_getElem? hy)
      have hsn := take_snoc hy
      have HSN := Lib.hid hsn
      have HY := Lib.hid hy40
      have h6 := encN_len (l := ns.take k) (fun z hz => HALL.out z (List.mem_of_mem_take hz))
      rw [List.length_take] at h6
      have h6b : (encN (ns.take k)).length ≤ 200 := by omega
      have H6 := Lib.hid h6b
      obtain ⟨A7, c7, e7, hc7⟩ := own_slice H.out.row.own
      obtain ⟨A8, c8, e8, hc8⟩ := own_slice H.out.want
      subst e7 e8
      clear hy hyy hsn hx h6 h6b hy40
      go_wp2_with (at_builtin; refine wpList_one (y := y) rfl _ _ rfl rfl rfl H.out.want (by omega) H.out.row.bel.size ?_; intro v3 w3 hown3 hg3)
      have O3 : OB w.heap.size w w3 (encN (ns.take k)).length (.slice A7 (encN (ns.take k)).length c7) (encN (ns.take k)) := by
        have o1 := H.out.row.alloc (.cells #[.int .i64 (y : Nat)] 3)
        refine ⟨o1.own.kept hg3 (own_apart H.out.row.own H.out.want), o1.bel.grown hg3 o1.bel.size (fun g e => (H.out.want.lt g e).1), o1.bas⟩
      have HN := Lib.hid (number_any (cp := c7) O3.at_ (Nat.le_refl _) (y : Int) (by have := H6.out; omega))
      have O3 := Lib.hid O3
      have W3 := Lib.hid hown3
      obtain ⟨A9, c9, e9, hc9⟩ := own_slice hown3
      subst e9
      clear H hown3 hg3
      go_wp2_with fail
      refine HN.out.mono ?_
      rintro e w4 ⟨v4, rfl, O4⟩
      rw [cl_nat HY.out] at O4
      have H4 := Lib.hid (show St w w4 v4 (encN (ns.take (k + 1))) (.slice A9 (k + 1) c9) (k + 1) (ns.take (k + 1)) from by
        rw [HSN.out, encN_snoc]
        refine ⟨OB.rebase O4 O3.out.bel (Nat.le_refl _), ?_⟩
        rw [ints_snoc]
        exact W3.out.kept (grown_below O4.bel none) (by cases hv : Value.ownBlock (.slice A9 (k + 1) c9) <;> simp))
      obtain ⟨A10, c10, e10, hc10⟩ := own_slice H4.out.row.own
      subst e10
      clear O4 O3 W3 HN
      go_wp2_with fail
      go_roundw
      case rel => exact ⟨k + 1, by omega, by go_num, H4⟩
      case measure => simp [intOf]; omega
    · obtain rfl : n = k := by omega
      have h1 := H.out
      rw [List.take_of_length_le (show ns.length ≤ n by rw [HNL.out]; exact Nat.le_refl _)] at h1
      obtain ⟨A7, c7, e7, hc7⟩ := own_slice h1.row.own
      obtain ⟨A8, c8, e8, hc8⟩ := own_slice h1.want
      subst e7 e8
      have H1 := Lib.hid h1
      have h6 := encN_len (l := ns) HALL.out
      rw [HNL.out] at h6
      have H6 := Lib.hid (show (encN ns).length ≤ 200 by omega)
      obtain ⟨L1, hL1⟩ : ∃ L1, L1 = (encN ns).length := ⟨_, rfl⟩
      rw [← hL1] at hc7 ⊢
      have HL1 := Lib.hid hL1
      clear h1 H h6 HAT HZ HZL hlt hL1
      go_wp2_with fail
      go_loopw [7, 47] (fun s7 s47 wr => ∃ k : Nat, k ≤ n' ∧ s47 = .int .i64 k ∧ Hid (St w wr s7 (encN ns ++ encS (ss.take k)) (.slice A8 n c8) n ns) ∧ Hid (∀ s ∈ ss.take k, s.size ≤ 300)) (fun _ s47 _ => n' - (intOf s47).toNat)
      case atStart => exact ⟨0, Nat.zero_le _, rfl, by rw [List.take_zero, show encN ns ++ encS [] = encN ns by simp [encS], HL1.out]; exact H1.out, fun s h => by simp at h⟩
      case round =>
        clear H1 HL1 hc7
        obtain ⟨k, hk, rfl, H, HA⟩ := hrel
        obtain ⟨L, hL⟩ : ∃ L, L = (encN ns ++ encS (ss.take k)).length := ⟨_, rfl⟩
        have hLb : L ≤ 10000 := by
          have h2 := encS_len HA.out
          rw [List.length_take] at h2
          have := H6.out
          rw [hL, List.length_append]
          omega
        obtain ⟨A9, c9, e9, hc9⟩ := own_slice H.out.row.own
        rw [← hL] at e9 hc9
        subst e9
        have hrow := H.out.row
        rw [← hL] at hrow
        have HROW := Lib.hid hrow
        have HL := Lib.hid hL
        clear hL hrow
        by_cases hlt : k < n'
        · obtain ⟨ad, x, rfl, hx, hcell⟩ := HS.out.at_ H.out.row.bel (Nat.le_refl _) hlt
          by_cases hbx : 300 < x.size
          · have HB := Lib.hid H.out.row.bel
            clear H hx
            go_wp2_with (go_at_call 8; refine (H.awake _).mono ?_; rintro e w' ⟨rfl, hb⟩)
            go_ret
            exact ⟨rfl, HB.out.trans (hb.mono HB.out.size)⟩
          · have hx3 : x.size ≤ 300 := by omega
            have hsn := take_snoc hx
            have T := text_any HROW.out.at_ (Nat.le_refl _) x (by omega) (cp := c9) (by omega)
            have HT := Lib.hid T
            have HSN := Lib.hid hsn
            have HX := Lib.hid hx3
            clear T hsn hx hbx
            go_wp2_with fail
            refine HT.out.mono ?_
            rintro e w4 ⟨v4, rfl, O4⟩
            have H4 := Lib.hid (show St w w4 v4 (encN ns ++ encS (ss.take (k + 1))) (.slice A8 n c8) n ns from by
              rw [HSN.out, encS_snoc, ← List.append_assoc]
              exact ⟨OB.rebase O4 H.out.row.bel (Nat.le_refl _), H.out.want.kept (grown_below O4.bel none) (by cases hv : Value.ownBlock (.slice A8 n c8) <;> simp)⟩)
            have HA4 := Lib.hid (show ∀ s ∈ ss.take (k + 1), s.size ≤ 300 from by
              rw [HSN.out]
              intro s hs
              rcases List.mem_append.1 hs with h | h
              · exact HA.out s h
              · rw [List.mem_singleton.1 h]; exact HX.out)
            obtain ⟨L4, hL4⟩ : ∃ L4, L4 = (encN ns ++ encS (ss.take (k + 1))).length := ⟨_, rfl⟩
            obtain ⟨A10, c10, e10, hc10⟩ := own_slice H4.out.row.own
            rw [← hL4] at e10
            subst e10
            clear O4 HT H hc10 hL4
            go_wp2_with fail
            go_roundw
            case rel => exact ⟨k + 1, by omega, by go_num, H4, HA4⟩
            case measure => simp [intOf]; omega
        · obtain rfl : n' = k := by omega
          have h1 := H.out
          have h2 := HA.out
          rw [List.take_of_length_le (show ss.length ≤ n' by rw [HSL.out]; exact Nat.le_refl _)] at h1 h2
          have h3 := HL.out
          rw [List.take_of_length_le (show ss.length ≤ n' by rw [HSL.out]; exact Nat.le_refl _)] at h3
          have HSA := Lib.hid h2
          have hrow := HROW.out
          rw [List.take_of_length_le (show ss.length ≤ n' by rw [HSL.out]; exact Nat.le_refl _)] at hrow
          have N := new_any hrow.at_ (Nat.le_refl _) (cp := c9) (by omega)
          have HN := Lib.hid N
          have H1 := Lib.hid h1
          have HL3 := Lib.hid h3
          have HR := Lib.hid hrow
          clear N h1 h2 h3 H HA HL hlt HROW hrow
          go_wp2_with fail
          refine HN.out.mono ?_
          rintro e w5 ⟨T, rfl, hT, R5, b5⟩
          have hr5 : Rs w w5 A9 L (encN ns ++ encS ss) A8 n ns T := by
            refine ⟨?_, ?_, HR.out.bel.trans (b5.mono HR.out.bel.size), Nat.le_trans HR.out.bel.size hT⟩
            · exact (HR.out.at_.below b5 (Nat.le_refl _)).more hT
            · have hw := (wantAt_own H1.out.want).below b5 (Nat.le_refl _)
              exact ⟨hw.1, fun hn => by
                obtain ⟨ad, e, hlt, hc⟩ := hw.2 hn
                exact ⟨ad, e, Nat.lt_of_lt_of_le hlt hT, hc⟩⟩
          have HR5 := Lib.hid hr5
          have RD5 := Lib.hid R5
          clear R5 b5 hr5 HN
          go_wp2_with fail
          go_loopw [63] (fun s63 wr => ∃ k : Nat, k ≤ n ∧ s63 = .int .i64 k ∧ Hid (Rs w wr A9 L (encN ns ++ encS ss) A8 n ns T) ∧ Hid (RD wr T (encN (ns.drop k) ++ encS ss) 0)) (fun s63 _ => n - (intOf s63).toNat)
          case atStart => exact ⟨0, Nat.zero_le _, rfl, HR5, RD5⟩
          case round =>
            clear HR5 RD5 HR H1
            obtain ⟨k, hk, rfl, HR, HD⟩ := hrel
            by_cases hlt : k < n
            · obtain ⟨ad, y, rfl, hy, hcell⟩ := HR.out.want.at_ hlt
              have hy40 : y ≤ 1099511627776 := HALL.out y (List.mem_of_getElem? hy)
              have N := num_any HD.out
              rw [encN_drop hy, List.append_assoc, ps_uv hy40] at N
              have HN := Lib.hid N
              clear N hy hy40 HD
              go_wp2_with fail
              refine HN.out.mono ?_
              rintro e w6 ⟨rfl, R6, g6⟩
              replace R6 : RD w6 T ((Lib.uvarint y ++ (encN (ns.drop (k + 1)) ++ encS ss)).drop (Lib.uvarint y).length) 0 := R6
              rw [List.drop_left' rfl] at R6
              have HR6 := Lib.hid (HR.out.grown g6)
              have HD6 := Lib.hid R6
              clear R6 g6 HN HR
              go_wp2_with fail
              go_roundw
              case rel => exact ⟨k + 1, by omega, by go_num, HR6, HD6⟩
              case measure => simp [intOf]; omega
            · obtain rfl : n = k := by omega
              have hd := HD.out
              rw [List.drop_eq_nil_of_le (show ns.length ≤ n by rw [HNL.out]; exact Nat.le_refl _)] at hd
              have HD := Lib.hid (show RD wr T (encS (ss.drop 0)) 0 from hd)
              clear hd hlt
              go_wp2_with fail
              go_loopw [74] (fun s74 wr => ∃ k : Nat, k ≤ n' ∧ s74 = .int .i64 k ∧ Hid (Rs w wr A9 L (encN ns ++ encS ss) A8 n ns T) ∧ Hid (RD wr T (encS (ss.drop k)) 0)) (fun s74 _ => n' - (intOf s74).toNat)
              case atStart => exact ⟨0, Nat.zero_le _, rfl, HR, HD⟩
              case round =>
                clear HR HD
                obtain ⟨k, hk, rfl, HR, HD⟩ := hrel
                by_cases hlt : k < n'
                · obtain ⟨ad, x, rfl, hx, hcell⟩ := HS.out.at_ HR.out.bel (Nat.le_refl _) hlt
                  have hx3 : x.size ≤ 300 := HSA.out x (List.mem_of_getElem? hx)
                  have T' := text_any HD.out 300
                  rw [encS_drop hx, tz_tx hx3] at T'
                  unfold TextP at T'
                  simp only [ba_same] at T'
                  have HT := Lib.hid T'
                  have hbn := bne_same x
                  clear T' hx hx3 HD
                  go_wp2_with fail
                  refine HT.out.mono ?_
                  rintro e w6 ⟨rfl, R6, g6⟩
                  have HR6 := Lib.hid (HR.out.grown g6)
                  have HD6 := Lib.hid R6
                  clear R6 g6 HT HR
                  go_wp2_with fail
                  go_roundw
                  case rel => exact ⟨k + 1, by omega, by go_num, HR6, HD6⟩
                  case measure => simp [intOf]; omega
                · obtain rfl : n' = k := by omega
                  have hd := HD.out
                  rw [List.drop_eq_nil_of_le (show ss.length ≤ n' by rw [HSL.out]; exact Nat.le_refl _)] at hd
                  have HLE := Lib.hid (left_any hd)
                  have HEE := Lib.hid (err_any hd)
                  have HTL := Lib.hid hd.lt
                  clear hd HD hlt
                  go_wp2_with fail
                  refine HLE.out.mono ?_
                  rintro e w' ⟨rfl, rfl⟩
                  go_wp2_with fail
                  refine HEE.out.mono ?_
                  rintro e w' ⟨rfl, rfl⟩
                  by_cases hL0 : L = 0
                  · subst hL0
                    go_wp2_with (go_at_call 8; refine (H.awake _).mono ?_; rintro e w' ⟨rfl, hb⟩)
                    go_ret
                    exact ⟨rfl, HR.out.bel.trans (hb.mono HR.out.bel.size)⟩
                  · obtain ⟨q, hq, hcq⟩ := cut_eq cut (show 0 < L by omega) (by omega)
                    have hLp : (0 : Int) < (L : Int) := by omega
                    have hq1 : (q : Int) < (L : Int) := by omega
                    have hq2 : (q : Int) ≤ (c9 : Int) := by omega
                    have hLi : (L : Int) ≤ 10000 := by omega
                    have HQ := Lib.hid hq
                    go_wp2_with fail
                    have hqb := HR.out.row.take (k := q) (by omega)
                    have hqn : q ≤ 140737488355328 := by omega
                    have HN := Lib.hid (new_any (cp := c9) hqb (Nat.le_of_lt HTL.out) hqn)
                    have HB := Lib.hid HR.out.bel
                    have hlL : (encN ns ++ encS ss).length = L := HR.out.row.1
                    have HLL := Lib.hid hlL
                    clear hqb hqn hlL HR HTL
                    refine HN.out.mono ?_
                    rintro e w7 ⟨T2, rfl, hT2, R7, b7⟩
                    have HB7 := Lib.hid (HB.out.trans (b7.mono HB.out.size))
                    have hTw : w.heap.size ≤ T2 := Nat.le_trans HB.out.size hT2
                    have HC7 := Lib.hid (show Cs w7 T2 (encN (ns.drop 0) ++ encS ss) from ⟨_, 0, R7, .inl ⟨rfl, q, by rw [List.drop_zero, HLL.out]; exact HQ.out, by rw [List.drop_zero]⟩⟩)
                    clear R7 b7 hT2 HN HB
                    go_wp2_with fail
                    go_loopw [107] (fun s107 wr => ∃ k : Nat, k ≤ n ∧ s107 = .int .i64 k ∧ Hid (Below w.heap.size w wr) ∧ Hid (Cs wr T2 (encN (ns.drop k) ++ encS ss))) (fun s107 _ => n - (intOf s107).toNat)
                    case atStart => exact ⟨0, Nat.zero_le _, rfl, HB7, HC7⟩
                    case round =>
                      clear HB7 HC7
                      obtain ⟨k, hk, rfl, HB, HC⟩ := hrel
                      by_cases hlt : k < n
                      · obtain ⟨y, hy⟩ : ∃ y, ns[k]? = some y := ⟨_, List.getElem?_eq_getElem (by rw [HNL.out]; exact hlt)⟩
                        have hc := HC.out
                        rw [encN_drop hy, List.append_assoc] at hc
                        have HN := Lib.hid (cs_num hc (HALL.out y (List.mem_of_getElem? hy)))
                        clear hc hy HC
                        go_wp2_with fail
                        refine HN.out.mono ?_
                        rintro e w8 ⟨v8, rfl, hc8, hg8⟩
                        have HB8 := Lib.hid (below_of_grown HB.out hg8 HB.out.size hTw)
                        have HC8 := Lib.hid hc8
                        clear hc8 hg8 HN HB
                        go_wp2_with fail
                        go_roundw
                        case rel => exact ⟨k + 1, by omega, by go_num, HB8, HC8⟩
                        case measure => simp [intOf]; omega
                      · obtain rfl : n = k := by omega
                        have hc := HC.out
                        rw [List.drop_eq_nil_of_le (show ns.length ≤ n by rw [HNL.out]; exact Nat.le_refl _)] at hc
                        have HC := Lib.hid (show Cs wr T2 (encS (ss.drop 0)) from hc)
                        clear hc hlt
                        go_wp2_with fail
                        go_loopw [114] (fun s114 wr => ∃ k : Nat, k ≤ n' ∧ s114 = .int .i64 k ∧ Hid (Below w.heap.size w wr) ∧ Hid (Cs wr T2 (encS (ss.drop k)))) (fun s114 _ => n' - (intOf s114).toNat)
                        case atStart => exact ⟨0, Nat.zero_le _, rfl, HB, HC⟩
                        case round =>
                          clear HB HC
                          obtain ⟨k, hk, rfl, HB, HC⟩ := hrel
                          by_cases hlt : k < n'
                          · obtain ⟨y, hy⟩ : ∃ y, ss[k]? = some y := ⟨_, List.getElem?_eq_getElem (by rw [HSL.out]; exact hlt)⟩
                            have hc := HC.out
                            rw [encS_drop hy] at hc
                            have HN := Lib.hid (cs_text hc (HSA.out y (List.mem_of_getElem? hy)))
                            clear hc hy HC
                            go_wp2_with fail
                            refine HN.out.mono ?_
                            rintro e w8 ⟨v8, rfl, hc8, hg8⟩
                            have HB8 := Lib.hid (below_of_grown HB.out hg8 HB.out.size hTw)
                            have HC8 := Lib.hid hc8
                            clear hc8 hg8 HN HB
                            go_wp2_with fail
                            go_roundw
                            case rel => exact ⟨k + 1, by omega, by go_num, HB8, HC8⟩
                            case measure => simp [intOf]; omega
                          · obtain rfl : n' = k := by omega
                            have hc := HC.out
                            rw [List.drop_eq_nil_of_le (show ss.length ≤ n' by rw [HSL.out]; exact Nat.le_refl _)] at hc
                            obtain ⟨l9, hr9⟩ := cs_end hc
                            have HE9 := err_any hr9
                            rw [show (((2 : Nat) : Int)) = 2 from rfl] at HE9
                            have HE9 := Lib.hid HE9
                            have HN9 := Lib.hid (num_bad hr9 (by decide))
                            clear hc hr9 HC hlt
                            go_wp2_with fail
                            refine HE9.out.mono ?_
                            rintro e w' ⟨rfl, rfl⟩
                            go_wp2_with fail
                            refine HN9.out.mono ?_
                            rintro e w' ⟨rfl, rfl⟩
                            go_wp2_with (go_at_call 8; refine (H.awake _).mono ?_; rintro e w' ⟨rfl, hb⟩)
                            go_ret
                            exact ⟨rfl, HB.out.trans (hb.mono HB.out.size)⟩

set_option maxRecDepth 100000 in
theorem lifted (os : Os) (started : os.Started) (H : Type) (enc : TypeId × Value → H) :
    ReturnsInHanded {} Try.checked os 4 .any (Rows.packBackSpec.pre6 enc Try.prog Try.f4 Rows.packBackRow.domain false) (Rows.packBackSpec.post enc Try.prog Try.f4 false true false false) := by
  refine returnsInHanded_of_change (C := Try.checked) Law.own started (by kernel_rfl) Try.func4
    (ChangeSpec.witness6 (enc := enc) (C := Try.checked) false ⟨#[], #[.slice none 0 0, .slice none 0 0, .int .i64 0], []⟩ 8 (by kernel_rfl) (by kernel_rfl) (by kernel_rfl) (by kernel_rfl)) ?_
  intro W base args ds gs before hval hW hcnd _
  have hW' := hW
  obtain ⟨p, q, hA, hV, rfl, hfz, hnd⟩ := hW
  rw [Try.params4] at hA hval
  obtain ⟨v0, v1, v2, d0, d1, d2, p0, p1, p2, rfl, rfl, rfl, h0, h1, h2⟩ := trodAll_three hA
  obtain ⟨rfl, rfl⟩ := trodVars_none hV
  obtain ⟨ad, len, cap, rfl⟩ := okWide_slice Try.underlying27 (hval 0 27 v0 rfl rfl)
  obtain ⟨zs, hzs, hlen⟩ := Law.open_ints_at h0
  obtain ⟨ad2, len2, cap2, rfl⟩ := okWide_slice Try.underlying28 (hval 1 28 v1 rfl rfl)
  obtain ⟨ss, hss, hlen2⟩ := Law.open_strs_at h1
  obtain ⟨a2, rfl, rfl, rfl, w2⟩ := open_int Try.underlying3 (hval 2 3 v2 rfl rfl) h2
  refine (walk ad len cap zs ad2 len2 cap2 ss a2 W hzs hlen hss hlen2).mono fun e W' ⟨he, hb⟩ => ?_
  subst he
  exact ⟨_, rfl, Law.law_post (by kernel_rfl) (by kernel_rfl) rfl hW' rfl rfl rfl hb⟩

theorem packBack_holds : Rows.PackBackSaid :=
  OpenClaim.holds_of_wide 4 Try.f4 rfl rfl rfl rfl rfl rfl rfl ⟨rfl, rfl, rfl, rfl, rfl⟩ rfl rfl rfl rfl rfl (by kernel_rfl) Try.func4 (by kernel_rfl)
    (of_decide_eq_true (by kernel_rfl)) (by unfold Func.isWrapper; first | (rw [if_pos (by decide +kernel)]; kernel_rfl) | (rw [if_neg (by decide +kernel)]; exact ⟨rfl, rfl⟩))
    (fun os started H enc _ => lifted os started H enc)
#print axioms packBack_holds
end Go.Proofs.Yteomdnmkcmgeaaa.packBack
