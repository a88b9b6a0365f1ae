/-
  Text: the names of the bits, then the words, with a blank between, in brackets.
-/
import Derived.Test.YtfpilhjjcjjelaaDoorE
namespace Go.Proofs.YtfpilhjjcjjelaaDoor.F
open Go.RowKit Go.Proofs.YtfpilhjjcjjelaaDoor.Kit Go.Proofs.YtfpilhjjcjjelaaDoor.Arg Go.Proofs.YtfpilhjjcjjelaaDoor.A Go.Proofs.YtfpilhjjcjjelaaDoor.B Go.Proofs.YtfpilhjjcjjelaaDoor.C Go.Proofs.YtfpilhjjcjjelaaDoor.D Go.Proofs.YtfpilhjjcjjelaaDoor.E Go.Proofs.YtfpilhjjcjjelaaDoor.Few

/-- Has a the k-th bit? -/
def tb (a k : Nat) : Bool := decide (a &&& (1 <<< k) ≠ 0)
theorem bits_and : ∀ a, a < 64 → ∀ k, k < 5 → (bits .and .i64 (a : Nat) (bitAt k) != 0) = tb a k := by decide +kernel
/-- The names of the lowest k bits of a. -/
def nm (a k : Nat) : List ByteArray := ((List.range k).filter (tb a)).map nameAt
theorem nm_zero (a : Nat) : nm a 0 = [] := rfl
theorem nm_yes {a k : Nat} (h : tb a k = true) : nm a (k + 1) = nm a k ++ [nameAt k] := by
  unfold nm
  rw [List.range_succ, List.filter_append, List.map_append]
  simp [h]
theorem nm_no {a k : Nat} (h : tb a k = false) : nm a (k + 1) = nm a k := by
  unfold nm
  rw [List.range_succ, List.filter_append, List.map_append]
  simp [h]
theorem nm_le (a k : Nat) : (nm a k).length ≤ k := by
  unfold nm
  rw [List.length_map]
  exact Nat.le_trans (List.length_filter_le _ _) (by simp)
theorem nm_letters : ∀ a, a < 64 → letters (nm a 5) ≤ 100 := by decide +kernel

/-- The text of these names. -/
def tx (ys : List ByteArray) : ByteArray := ⟨(40 :: (jn ys ++ [41])).toArray⟩
theorem tx_eq (ys : List ByteArray) : (⟨#[40]⟩ ++ (⟨(jn ys).toArray⟩ : ByteArray)) ++ ⟨#[41]⟩ = tx ys := by
  unfold tx
  apply ByteArray.ext
  simp [ByteArray.data_append]

theorem strsAt_new (w : World) (x : ByteArray) {b : Nat} (hb : b = w.heap.size) : StrsAt (w.alloc (.cells #[.string x] 9)) (some ⟨b, 0, none⟩) 1 [x] := by
  subst hb
  refine ⟨rfl, fun _ => ⟨_, rfl, by simp, fun j z hz => ?_⟩⟩
  match j, hz with
  | 0, hz =>
    obtain rfl : x = z := by simpa using hz
    exact cell_one_new _ _ _ 0 _ rfl
  | j + 1, hz => simp at hz

theorem letters_append (xs ys : List ByteArray) : letters (xs ++ ys) = letters xs + letters ys := by simp [letters]
def OW (w wr : World) (n : Nat) (v : Value) (ys : List ByteArray) : Prop := wr.ownsRow w.heap.size 9 1 v n (ys.map Value.string) ∧ Below w.heap.size w wr

theorem StrsAt.below {w wr : World} {A : Option Addr} {n : Nat} {zs : List ByteArray} (h : StrsAt w A n zs) (hb : Below w.heap.size w wr) : StrsAt wr A n zs := by
  refine ⟨h.1, fun hn => ?_⟩
  obtain ⟨ad, rfl, hlt, hc⟩ := h.2 hn
  exact ⟨ad, rfl, Nat.lt_of_lt_of_le hlt hb.size, fun j z hz => by rw [hb.cell (p := ad.add j) (by rw [add_block]; exact hlt)]; exact hc j z hz⟩
set_option maxHeartbeats 2000000 in
set_option maxRecDepth 100000 in
theorem text_any (a : Nat) (A : Option Addr) (n cp : Nat) (zs : List ByteArray) (w : World) (hn : Names w) (ha : a < 64) (hz : StrsAt w A n zs) (hs : zs.length + letters zs ≤ 1048576) :
    Calls Tryd.prog 13 #[.int .i64 (a : Nat), .slice A n cp] w fun e w' => e = .returned (.string (tx (nm a 5 ++ zs))) ∧ Below w.heap.size w w' := by
  have hzl := hz.1
  have hn2 : n ≤ 1048576 := by omega
  have HZ := Lib.hid hz
  have HL := Lib.hid hs
  have HZL := Lib.hid hzl
  have HA := Lib.hid ha
  obtain ⟨t, fr, hn'⟩ := hn
  have HN := Lib.hid hn'
  clear hz hs hzl hn' ha
  go_enter Tryd.func13, Tryd.ntmps13
  go_wp2_with (refine wpList_load_row rfl 40 _ rfl 0 rfl t cells fr _ HN.out Tryd.underlying40 rfl (by kernel_rfl) ?_)
  go_loopw [5, 9] (fun s5 s9 wr => ∃ (k : Nat) (v : Value), v = s5 ∧ k ≤ 5 ∧ s9 = .int .i64 k ∧ Hid (OW w wr (nm a k).length v (nm a k))) (fun _ s9 _ => 5 - (intOf s9).toNat)
  case atStart => exact ⟨0, _, rfl, Nat.zero_le _, rfl, World.ownsRow_nil _ _ _ _, Below.refl _ _⟩
  case round =>
    obtain ⟨k, v, rfl, hk, rfl, HO⟩ := hrel
    by_cases hlt : k < 5
    · have I := idx40 k hlt
      have hb := bits_and a HA.out k hlt
      cases hq : tb a k with
      | true =>
        rw [hq] at hb
        have hnm := nm_yes hq
        obtain ⟨m, hm⟩ : ∃ m, m = (nm a k).length := ⟨_, rfl⟩
        have hm5 : m ≤ 5 := by have := nm_le a k; omega
        have HM := Lib.hid hm
        have HO' := Lib.hid (show OW w wr m v (nm a k) by rw [hm]; exact HO.out)
        have HNM := Lib.hid hnm
        clear hq hnm hm HO
        have hws := HO'.out.2.size
        go_wp2_with (at_builtin; refine wpList_app rfl _ _ rfl rfl rfl ((HO'.out.1.alloc _).alloc _) (strsAt_new _ _ (by simp)) (by omega) (by simp; omega) ?_; intro v' w2 hown2 hg2 hat2)
        have s2 := hg2.size
        simp at s2
        go_roundw
        case rel =>
          refine ⟨k + 1, v', rfl, by omega, by go_num, ?_, ?_⟩
          · rw [HNM.out, List.length_append, ← HM.out, List.map_append]
            exact hown2
          · exact ((HO'.out.2.alloc hws _).alloc (by simp; omega) _).grown hg2 (by simp; omega) (fun g e => (HO'.out.1.lt g e).1)
        case measure => simp [intOf]; omega
      | false =>
        rw [hq] at hb
        have hnm := nm_no hq
        have HNM := Lib.hid hnm
        clear hq hnm
        go_wp2_with fail
        go_roundw
        case rel => exact ⟨k + 1, v, rfl, by omega, by go_num, by rw [HNM.out]; exact ⟨HO.out.1.alloc _, HO.out.2.alloc HO.out.2.size _⟩⟩
        case measure => simp [intOf]; omega
    · obtain rfl : k = 5 := by omega
      have hz2 : StrsAt wr A n zs := F.StrsAt.below HZ.out HO.out.2
      have HZ2 := Lib.hid hz2
      have hws := HO.out.2.size
      have hm5 := nm_le a 5
      obtain ⟨ys, hys⟩ : ∃ ys, ys = nm a 5 ++ zs := ⟨_, rfl⟩
      have hyl : letters ys + ys.length ≤ 1048700 := by
        rw [hys, letters_append, List.length_append]
        have := nm_letters a HA.out
        have := HL.out
        omega
      obtain ⟨J, hJ⟩ : ∃ J : ByteArray, J = ⟨(jn ys).toArray⟩ := ⟨_, rfl⟩
      have hJs : (J.size : Int) ≤ 1048700 := by
        have h1 := jn_len ys
        have h2 : J.size = (jn ys).length := by rw [hJ]; simp [ByteArray.size]
        omega
      have HYS := Lib.hid hys
      have HJ := Lib.hid hJ
      clear hz2 hys hJ
      go_wp2_with (at_builtin; refine wpList_app rfl _ _ rfl rfl rfl HO.out.1 HZ2.out (by omega) hws ?_; intro v' w2 hown2 hg2 hat2)
      have s2 := hg2.size
      have hown3 : w2.ownsRow w.heap.size 9 1 v' ((nm a 5).length + n) (ys.map Value.string) := by rw [HYS.out, List.map_append]; exact hown2
      have K := Lib.hid (join_any hown3 (by omega))
      have HG2 := Lib.hid hg2
      rw [← HJ.out] at K
      clear hown3 hown2 hg2 hat2
      go_wp2_with (go_at_call 16; refine K.out.mono ?_; rintro e w3 ⟨rfl, hb3⟩)
      go_ret
      refine ⟨ret_str ?_, ?_⟩
      · rw [← HYS.out, ← tx_eq, ← HJ.out]
      · exact (HO.out.2.grown HG2.out hws (fun g e => (HO.out.1.lt g e).1)).trans (hb3.mono (by omega))
end Go.Proofs.YtfpilhjjcjjelaaDoor.F
