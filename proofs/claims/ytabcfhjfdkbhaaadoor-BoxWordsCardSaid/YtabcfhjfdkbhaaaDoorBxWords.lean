/-
  BoxWords: a message's words are those of its keys, in order; of places that there are not none.
-/
import Derived.Test.YtabcfhjfdkbhaaaDoorBxAw
import Derived.Test.YtabcfhjfdkbhaaaDoorBxV
import Derived.Test.YtabcfhjfdkbhaaaDoorBxH
import Derived.Deep.DeepCutAuto
namespace Go.Proofs.YtabcfhjfdkbhaaaDoor.BxWords
open Go.RowKit Go.Proofs.YtabcfhjfdkbhaaaDoor.BxD Go.Proofs.YtabcfhjfdkbhaaaDoor.BxKit Go.Proofs.YtabcfhjfdkbhaaaDoor.BxA Go.Proofs.YtabcfhjfdkbhaaaDoor.BxO Go.Proofs.YtabcfhjfdkbhaaaDoor.BxR Go.Proofs.YtabcfhjfdkbhaaaDoor.BxV Go.Proofs.YtabcfhjfdkbhaaaDoor.BxH Go.Proofs.YtabcfhjfdkbhaaaDoor.BxAw

/-- Behind the making of the box's block, which stays; the words that were told. -/
structure Ws (w : World) (o : Obj) (wr : World) (A : Option Addr) (n : Nat) (l : List ByteArray) : Prop where
  aft : After w o wr
  at_ : StrsAt wr wr.heap.size A n l
theorem Ws.drewN {w wr : World} {o : Obj} {A : Option Addr} {n : Nat} {l : List ByteArray} (h : Ws w o wr A n l) (k : Nat) : Ws w o (wr.drewN k) A n l :=
  ⟨h.aft.drewN k, StrsAt.below h.at_ (below_drewN (Below.refl wr.heap.size wr) k) (Nat.le_refl _)⟩
theorem le_words {ws : List ByteArray} {ks : List Int} {k : Nat} : (wordsOf ws (ks.take k)).length ≤ (wordsOf ws ks).length := by
  have : wordsOf ws ks = wordsOf ws (ks.take k) ++ wordsOf ws (ks.drop k) := by
    unfold wordsOf
    rw [← List.flatMap_append, List.take_append_drop]
  rw [this, List.length_append]; omega
theorem words_at {ws : List ByteArray} {ks : List Int} {k : Nat} {x : Int} {y : ByteArray} (hx : ks[k]? = some x) (hy : word1 ws x = [y]) : (wordsOf ws ks)[(wordsOf ws (ks.take k)).length]? = some y := by
  have h1 : wordsOf ws ks = wordsOf ws (ks.take (k + 1)) ++ wordsOf ws (ks.drop (k + 1)) := by
    unfold wordsOf
    rw [← List.flatMap_append, List.take_append_drop]
  rw [h1, wordsOf_snoc hx, hy, List.append_assoc, List.getElem?_append_right (Nat.le_refl _)]
  simp

set_option maxHeartbeats 4000000 in
set_option maxRecDepth 100000 in
theorem walk {bid : ByteArray} {bv bn bh : Int} {WA MA K : Option Addr} {wn wc mn mc kn kc : Nat} {ws : List ByteArray} {ms : List Msg} {ks : List Int} {w : World} (ht : Tab w)
    (h1 : StrsAt w w.heap.size WA wn ws) (h2 : MsgsAt w w.heap.size MA mn ms) (h3 : IntsAt w w.heap.size K kn ks) (z1 : bid.size ≤ 140737488355328) :
    Calls Tryd.prog 8 #[.agg #[.string bid, .int .i64 bv, .int .i64 bn, .int .i64 bh, .slice WA wn wc, .slice MA mn mc], .slice K kn kc] w fun e w' => e = .returned (.bool true) ∧ Below w.heap.size w w' := by
  have KH := fun o => heavy_any (bid := bid) (bv := bv) (bn := bn) (bh := bh) (wc := wc) (mc := mc) (StrsAt.below h1 ((Below.refl _ w).alloc (Nat.le_refl _) o) (Nat.le_refl _)) (MsgsAt.below h2 ((Below.refl _ w).alloc (Nat.le_refl _) o) (Nat.le_refl _)) (by simp) (by simp) z1
  have KW := fun (wr : World) (h : After w (.cells #[.string bid, .int .i64 bv, .int .i64 bn, .int .i64 bh, .slice WA wn wc, .slice MA mn mc] 25) wr) (h6 : kn ≤ 60000) => words_any (bid := bid) (bv := bv) (bn := bn) (bh := bh) (wc := wc) (MA := MA) (mn := mn) (mc := mc) (u := 0) (md := 0) (d := 0) (id := ⟨#[]⟩) (fl := 0) (tx := ⟨#[]⟩) (kc := kc) (StrsAt.below h1 h.below (Nat.le_refl _)) (IntsAt.below h3 h.below (Nat.le_refl _)) h.below.size h.below.size h6
  have HAW := Lib.hid (fun (wr : World) (h : Below w.heap.size w wr) => awake (ht.below h (Nat.le_refl _)))
  have HS := Lib.hid (After.start w (.cells #[.string bid, .int .i64 bv, .int .i64 bn, .int .i64 bh, .slice WA wn wc, .slice MA mn mc] 25))
  have HX := Lib.hid h1
  have HK := Lib.hid h3
  have hkn := h3.max
  have hwn := h1.max
  have HKW := Lib.hid KW
  clear KW h1 h2 h3 ht
  rcases hv_or bid ws ms with hh | ⟨hh, _, _, _⟩
  · simp only [hh] at KH
    have K1 := Lib.hid KH
    clear KH hh
    go_enter Tryd.func8, Tryd.ntmps8
    go_wp2_with fail
    refine (K1.out _).mono ?_
    rintro e w1 ⟨rfl, hb1⟩
    have HB := Lib.hid (HS.out.go hb1).below
    clear hb1
    go_wp2_with (go_at_call 10; refine (HAW.out _ HB.out).mono ?_; rintro e w2 ⟨rfl, hb2⟩)
    go_ret
    exact ⟨rfl, HB.out.trans (hb2.mono HB.out.size)⟩
  simp only [hh] at KH
  have K1 := Lib.hid KH
  clear KH hh
  by_cases h100 : 100 < kn
  · have hk' : 100 < (kn : Int) := by omega
    go_enter Tryd.func8, Tryd.ntmps8
    go_wp2_with fail
    refine (K1.out _).mono ?_
    rintro e w1 ⟨rfl, hb1⟩
    have HB := Lib.hid (HS.out.go hb1).below
    clear hb1
    go_wp2_with (go_at_call 10; refine (HAW.out _ HB.out).mono ?_; rintro e w2 ⟨rfl, hb2⟩)
    go_ret
    exact ⟨rfl, HB.out.trans (hb2.mono HB.out.size)⟩
  have hk' : (kn : Int) ≤ 100 := by omega
  have hk6 : kn ≤ 60000 := by omega
  clear h100
  go_enter Tryd.func8, Tryd.ntmps8
  go_wp2_with fail
  refine (K1.out _).mono ?_
  rintro e w1 ⟨rfl, hb1⟩
  have HB := Lib.hid (HS.out.go hb1)
  clear hb1 HS
  obtain ⟨b0, b1, b2, b3, b4, b5⟩ := HB.out.box
  have K2 := Lib.hid (HKW.out _ HB.out hk6)
  go_wp2_with (go_at_call 22; refine K2.out.mono ?_; rintro e w2 ⟨A, n, c, rfl, hnc, hst, hb2⟩)
  have HW := Lib.hid (show Ws w _ w2 A n (wordsOf ws ks) from ⟨HB.out.go hb2, hst⟩)
  have hn := hst.max
  have HN := Lib.hid hst.len
  clear hst hb2 HB b0 b1 b2 b3 b4 b5 K1 K2
  go_loopw [6, 24] (fun s6 s24 wr => ∃ (k m : Nat), k ≤ kn ∧ m ≤ n ∧ s24 = .int .i64 k ∧ s6 = .int .i64 m ∧ Hid (m = (wordsOf ws (ks.take k)).length) ∧ Hid (Ws w (.cells #[.string bid, .int .i64 bv, .int .i64 bn, .int .i64 bh, .slice WA wn wc, .slice MA mn mc] 25) wr A n (wordsOf ws ks))) (fun _ s24 _ => kn - (intOf s24).toNat)
  case atStart => exact ⟨0, 0, Nat.zero_le _, Nat.zero_le _, rfl, rfl, rfl, HW⟩
  case round =>
    obtain ⟨k, m, hk, hm, rfl, rfl, HM, HO⟩ := hrel
    by_cases hlt : k < kn
    · obtain ⟨ad, x, rfl, hx, hc⟩ := IntsAt.at_ HK.out HO.out.aft.below (Nat.le_refl _) hlt
      obtain ⟨b0, b1, b2, b3, b4, b5⟩ := HO.out.aft.box
      have hsn := wordsOf_snoc (ws := ws) hx
      by_cases h0 : x < 0
      · have HM2 := Lib.hid (show m = (wordsOf ws (ks.take (k + 1))).length by rw [hsn, word1_low h0, List.append_nil]; exact HM.out)
        clear hsn hx
        go_wp2_with fail
        go_roundw
        case rel => exact ⟨k + 1, m, by omega, hm, by go_num, rfl, HM2, HO⟩
        case measure => simp [intOf]; omega
      by_cases h1 : x < (wn : Int)
      · obtain ⟨j, rfl⟩ := Int.eq_ofNat_of_zero_le (show 0 ≤ x by omega)
        have hjw : j < wn := by omega
        obtain ⟨ad2, y, rfl, hy, hcy⟩ := StrsAt.at_ HX.out HO.out.aft.below (Nat.le_refl _) hjw
        have hw1 := word1_in (ws := ws) (x := (j : Int)) (by omega) (by simpa using hy)
        have hat := words_at hx hw1
        rw [← HM.out] at hat
        have hmn : m < n := by have := (List.getElem?_eq_some_iff.1 hat).1; have := HN.out; omega
        obtain ⟨ad3, y', rfl, hy', hcz⟩ := StrsAt.at_ HO.out.at_ (Below.refl wr.heap.size wr) (Nat.le_refl _) hmn
        rw [hat] at hy'
        injection hy' with hy'
        subst hy'
        have HM2 := Lib.hid (show m + 1 = (wordsOf ws (ks.take (k + 1))).length by rw [hsn, hw1, List.length_append, ← HM.out]; rfl)
        have g0 : (0 : Int) ≤ (j : Int) := by omega
        have g1 : (j : Int) < (wn : Int) := by omega
        have g2 : (0 : Int) ≤ (m : Int) := by omega
        have g3 : (m : Int) < (n : Int) := by omega
        have g4 : decide ((n : Int) ≤ (m : Int)) = false := decide_eq_false (by omega)
        have g5 : decide (n ≤ m) = false := decide_eq_false (by omega)
        clear hsn hw1 hy h0 hx hat
        go_wp2_with fail
        go_quiet (fail)
        have HO2 := Lib.hid (fun q => HO.out.drewN q)
        go_wp2_with fail
        go_roundw
        case rel => exact ⟨k + 1, m + 1, by omega, by omega, by go_num, by go_num, HM2, HO2.out _⟩
        case measure => simp [intOf]; omega
      · have HM2 := Lib.hid (show m = (wordsOf ws (ks.take (k + 1))).length by rw [hsn, word1_high (by have := HX.out.len; omega), List.append_nil]; exact HM.out)
        have h0' : 0 ≤ x := by omega
        have h1' : (wn : Int) ≤ x := by omega
        clear hsn h0 h1 hx
        go_wp2_with fail
        go_roundw
        case rel => exact ⟨k + 1, m, by omega, hm, by go_num, rfl, HM2, HO⟩
        case measure => simp [intOf]; omega
    · obtain rfl : kn = k := by omega
      have hmn : m = n := by
        have h := HM.out
        rw [take_len HK.out.len, HN.out] at h
        exact h
      subst hmn
      have HB := Lib.hid HO.out.aft.below
      go_wp2_with (go_at_call 10; refine (HAW.out _ HB.out).mono ?_; rintro e w2 ⟨rfl, hb2⟩)
      go_ret
      exact ⟨rfl, HB.out.trans (hb2.mono HB.out.size)⟩
end Go.Proofs.YtabcfhjfdkbhaaaDoor.BxWords
