/-
  FlagTexts: the walk, for words that hold together at most 1048576 texts and letters.
-/
import Derived.Test.YtfpilhjjcjjelaaDoorG
namespace Go.Proofs.YtfpilhjjcjjelaaDoor.flagTexts
open Go.RowKit Go.Proofs.YtfpilhjjcjjelaaDoor.Kit Go.Proofs.YtfpilhjjcjjelaaDoor.Arg Go.Proofs.YtfpilhjjcjjelaaDoor.A Go.Proofs.YtfpilhjjcjjelaaDoor.B Go.Proofs.YtfpilhjjcjjelaaDoor.C Go.Proofs.YtfpilhjjcjjelaaDoor.E Go.Proofs.YtfpilhjjcjjelaaDoor.F Go.Proofs.YtfpilhjjcjjelaaDoor.Few

def Yes (w : World) (e : Ending) (w' : World) : Prop := e = .returned (.bool true) ∧ Below w.heap.size w w'
/-- The text of these bits alone. -/
def T (a : Nat) : ByteArray := tx (nm a 5 ++ [])
theorem T_inj : ∀ a, a < 32 → ∀ b, b < 32 → (T a).data.toList = (T b).data.toList → a = b := by decide +kernel
theorem T_more : ∀ a, a < 32 → nm (a + 32) 5 = nm a 5 := by
  intro a ha
  have h : ∀ a, a < 32 → ∀ k, k < 5 → tb (a + 32) k = tb a k := by decide +kernel
  unfold nm
  congr 1
  apply List.filter_congr
  intro k hk
  exact h a ha k (by simpa using hk)
theorem T_zero : T 0 = ⟨#[40, 41]⟩ := by kernel_rfl
theorem strsAt_nil (w : World) : StrsAt w none 0 [] := ⟨rfl, fun h => absurd h (Nat.lt_irrefl 0)⟩
theorem toList_ne {x y : ByteArray} (h : x ≠ y) : (x.toList == y.toList) = false := by
  rw [beq_eq_false_iff_ne]
  intro e
  rw [ByteArray.toList_eq, ByteArray.toList_eq] at e
  exact h (ByteArray.ext (Array.toList_inj.1 e))

theorem mod32 (a : Int) : ∃ m : Nat, m < 32 ∧ wrap64 ((IntKind.u64.wrap a).tmod 32) = (m : Int) := by
  have h0 : 0 ≤ IntKind.u64.wrap a := by rw [IntKind.wrap_u64]; omega
  have h1 : (IntKind.u64.wrap a).tmod 32 = IntKind.u64.wrap a % 32 := Int.tmod_eq_emod_of_nonneg h0
  refine ⟨(IntKind.u64.wrap a % 32).toNat, by omega, ?_⟩
  rw [h1]
  unfold wrap64
  omega
theorem T_call (a : Nat) (w : World) (hn : Names w) (ha : a < 64) : Calls Tryd.prog 13 #[.int .i64 (a : Nat), .slice none 0 0] w fun e w' => e = .returned (.string (T a)) ∧ Below w.heap.size w w' :=
  text_any a none 0 0 [] w hn ha (strsAt_nil w) (by simp [letters])
theorem jn_grows (xs ys : List ByteArray) : (jn xs).length ≤ (jn (xs ++ ys)).length := by
  unfold jn
  cases xs with
  | nil => simp [Lib.join_nil]
  | cons x r =>
    have h1 := Lib.join_length x.data.toList (r.map (·.data.toList)) [32]
    have h2 := Lib.join_length x.data.toList ((r ++ ys).map (·.data.toList)) [32]
    rw [List.cons_append, List.map_cons, List.map_cons, h1, h2]
    have h3 : Lib.lens (x.data.toList :: (r ++ ys).map (·.data.toList)) = Lib.lens (x.data.toList :: r.map (·.data.toList)) + Lib.lens (ys.map (·.data.toList)) := by
      simp [Lib.lens]; omega
    rw [h3]
    simp; omega
theorem tx_size (ys : List ByteArray) : (tx ys).size = (jn ys).length + 2 := by simp [tx, ByteArray.size]
theorem T_le (a : Nat) (zs : List ByteArray) : (T a).size ≤ (tx (nm a 5 ++ zs)).size := by
  unfold T
  rw [tx_size, tx_size, List.append_nil]
  have := jn_grows (nm a 5) zs
  omega
set_option maxHeartbeats 4000000 in
set_option maxRecDepth 100000 in
theorem walk (a b : Int) (A : Option Addr) (n cp : Nat) (zs : List ByteArray) (w : World) (hn : Names w) (hz : StrsAt w A n zs) (hs : zs.length + letters zs ≤ 1048576) :
    Calls Tryd.prog 5 #[.int .i64 a, .int .i64 b, .slice A n cp] w (Yes w) := by
  have K := few_at A n cp zs w hz hs
  have HN := Lib.hid hn
  have HZ := Lib.hid hz
  have HS := Lib.hid hs
  obtain ⟨f, hf⟩ : ∃ f, f = fewOf zs := ⟨_, rfl⟩
  rw [← hf] at K
  have HK := Lib.hid K
  clear K hn hz hs hf
  by_cases hpos : 0 < f
  · have HAW := Lib.hid (G.awake w HN.out)
    go_enter Tryd.func5, Tryd.ntmps5
    go_wp2_with (first
      | (go_at_call 7; refine HK.out.mono ?_; rintro e w' ⟨rfl, rfl⟩)
      | (go_at_call 8; refine HAW.out.mono ?_; rintro e w' ⟨rfl, hb9⟩))
    go_ret
    exact ⟨rfl, hb9⟩
  · go_enter Tryd.func5, Tryd.ntmps5
    go_wp2_with (go_at_call 7; refine HK.out.mono ?_; rintro e w' ⟨rfl, rfl⟩)
    obtain ⟨m, hm32, hm⟩ := mod32 a
    obtain ⟨k, hk32, hk⟩ := mod32 b
    rw [hm]
    clear hm
    have C := T_call m w HN.out (by omega)
    obtain ⟨ta, hta⟩ : ∃ ta, ta = T m := ⟨_, rfl⟩
    rw [← hta] at C
    have HTA := Lib.hid hta
    clear hta
    refine C.mono ?_
    rintro e w1 ⟨rfl, hb1⟩
    have n1 := HN.out.below hb1 HN.out.size
    have C := T_call k w1 n1 (by omega)
    obtain ⟨tb, htb⟩ : ∃ tb, tb = T k := ⟨_, rfl⟩
    rw [← htb] at C
    have HTB := Lib.hid htb
    have HC := Lib.hid C
    have N1 := Lib.hid n1
    have B1 := Lib.hid hb1
    have HKK := Lib.hid hk
    clear htb C n1 hb1 hk
    go_wp2_with fail
    rw [HKK.out]
    refine HC.out.mono ?_
    rintro e w2 ⟨rfl, hb2⟩
    have n2 := N1.out.below hb2 N1.out.size
    have B2 := Lib.hid (B1.out.trans (hb2.mono B1.out.size))
    have C := text_any m A n cp zs w2 n2 (by omega) (StrsAt.below HZ.out B2.out) HS.out
    obtain ⟨u, hu⟩ : ∃ u, u = tx (nm m 5 ++ zs) := ⟨_, rfl⟩
    have hle : (ta.size : Int) ≤ u.size := by
      have := T_le m zs
      rw [← HTA.out, ← hu] at this
      omega
    rw [← hu] at C
    have HU := Lib.hid hu
    have HC2 := Lib.hid C
    have N2 := Lib.hid n2
    clear hu C n2 hb2 HC B1 N1
    go_wp2_with fail
    refine HC2.out.mono ?_
    rintro e w3 ⟨rfl, hb3⟩
    have n3 := N2.out.below hb3 N2.out.size
    have B3 := Lib.hid (B2.out.trans (hb3.mono B2.out.size))
    have C := T_call 0 w3 n3 (by omega)
    rw [T_zero] at C
    have HC3 := Lib.hid C
    have N3 := Lib.hid n3
    have h0 : ((⟨#[40, 41]⟩ : ByteArray).toList == (⟨#[40, 41]⟩ : ByteArray).toList) = true := by simp
    obtain ⟨q, hq1, hq2⟩ : ∃ q : Bool, (ta.toList == tb.toList) = q ∧ ((m : Int) == (k : Int)) = q := by
      by_cases e : m = k
      · subst e
        exact ⟨true, by rw [HTA.out, HTB.out]; simp, by simp⟩
      · refine ⟨false, toList_ne (fun h => e ?_), by rw [beq_eq_false_iff_ne]; omega⟩
        rw [HTA.out, HTB.out] at h
        exact T_inj m hm32 k hk32 (by rw [h])
    clear n3 C hb3 HC2 N2 B2
    go_wp2_with fail
    refine HC3.out.mono ?_
    rintro e w4 ⟨rfl, hb4⟩
    have n4 := N3.out.below hb4 N3.out.size
    have B4 := Lib.hid (B3.out.trans (hb4.mono B3.out.size))
    have C := T_call (m + 32) w4 n4 (by omega)
    have hT : T (m + 32) = ta := by rw [HTA.out]; unfold T; rw [T_more m hm32]
    have hc : ((m + 32 : Nat) : Int) = (m : Int) + 32 := by omega
    rw [hT, hc] at C
    have HC4 := Lib.hid C
    have N4 := Lib.hid n4
    clear n4 C hb4 HC3 N3 B3 hT hc
    by_cases hn0 : n = 0
    · subst hn0
      have hut : u = ta := by
        have hz0 : zs = [] := List.eq_nil_of_length_eq_zero HZ.out.1
        rw [HU.out, HTA.out, hz0]; rfl
      subst hut
      go_wp2_with fail
      refine HC4.out.mono ?_
      rintro e w5 ⟨rfl, hb5⟩
      have B5 := Lib.hid (B4.out.trans (hb5.mono B4.out.size))
      have HAW := Lib.hid (G.awake w5 (N4.out.below hb5 N4.out.size))
      clear hb5
      go_wp2_with (go_at_call 8; refine HAW.out.mono ?_; rintro e w' ⟨rfl, hb9⟩)
      go_ret
      exact ⟨rfl, B5.out.trans (hb9.mono B5.out.size)⟩
    · have hnp : 0 < (n : Int) := by omega
      go_wp2_with fail
      refine HC4.out.mono ?_
      rintro e w5 ⟨rfl, hb5⟩
      have B5 := Lib.hid (B4.out.trans (hb5.mono B4.out.size))
      have HAW := Lib.hid (G.awake w5 (N4.out.below hb5 N4.out.size))
      clear hb5
      go_wp2_with (go_at_call 8; refine HAW.out.mono ?_; rintro e w' ⟨rfl, hb9⟩)
      go_ret
      exact ⟨rfl, B5.out.trans (hb9.mono B5.out.size)⟩
end Go.Proofs.YtfpilhjjcjjelaaDoor.flagTexts
