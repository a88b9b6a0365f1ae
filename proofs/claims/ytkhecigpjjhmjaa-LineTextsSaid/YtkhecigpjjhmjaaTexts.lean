/-
  Texts that are put, taken and put again come first come, first taken (LineTexts), for every []string and every int.
-/
import Derived.Test.YtkhecigpjjhmjaaAwake
import Derived.Test.YtkhecigpjjhmjaaLaw
import Derived.Deep.DeepCutAuto
import Derived.Deep.CutBlock
namespace Go.Proofs.Ytkhecigpjjhmjaa.lineTexts
open Go.ChangeShapes Go.WideShapes Go.ChangeAt Go.RowKit Go.Conc Go.Proofs.Ytkhecigpjjhmjaa.Kit Go.Proofs.Ytkhecigpjjhmjaa.Arg

def strs (zs : List ByteArray) : List Value := zs.map (fun z => Value.string z)
theorem strs_length (zs : List ByteArray) : (strs zs).length = zs.length := by simp [strs]
theorem strs_snoc (zs : List ByteArray) (x : ByteArray) : strs (zs ++ [x]) = strs zs ++ [.string x] := by simp [strs]
theorem mid_snoc {zs : List ByteArray} {i a : Nat} {x : ByteArray} (h : zs[i]? = some x) (ha : a ≤ i) : strs ((zs.take (i + 1)).drop a) = strs ((zs.take i).drop a) ++ [.string x] := by
  have hl := (List.getElem?_eq_some_iff.1 h).1
  rw [← strs_snoc, List.take_succ_eq_append_getElem hl, (List.getElem?_eq_some_iff.1 h).2, List.drop_append_of_le_length (by simp; omega)]
theorem mid_cons {zs : List ByteArray} {i a : Nat} {x : ByteArray} (h : zs[a]? = some x) (ha : a < i) : strs ((zs.take i).drop a) = .string x :: strs ((zs.take i).drop (a + 1)) := by
  have hl := (List.getElem?_eq_some_iff.1 h).1
  have h1 : (zs.take i)[a]? = some x := by rw [List.getElem?_take, if_pos ha]; exact h
  have h2 := (List.getElem?_eq_some_iff.1 h1)
  rw [List.drop_eq_getElem_cons h2.1, h2.2]
  rfl
theorem end_cons {zs : List ByteArray} {a : Nat} {x : ByteArray} (h : zs[a]? = some x) : strs (zs.drop a) = .string x :: strs (zs.drop (a + 1)) := by
  have h2 := (List.getElem?_eq_some_iff.1 h)
  rw [List.drop_eq_getElem_cons h2.1, h2.2]
  rfl
theorem mid_length (zs : List ByteArray) (i a : Nat) (hi : i ≤ zs.length) : (strs ((zs.take i).drop a)).length = i - a := by rw [strs_length]; simp; omega
theorem end_length (zs : List ByteArray) (a : Nat) : (strs (zs.drop a)).length = zs.length - a := by rw [strs_length]; simp

theorem len_k {w : World} {T c room : Nat} {bs : List Nat} {xs : List Value} (h : LS.L w T c room bs xs) (k : Nat) (hk : xs.length = k) :
    Calls Try.prog 16 #[ptr T] w fun e w' => e = .returned (.int .i64 (k : Nat)) ∧ w = w' := by
  subst hk; exact LS.len_ h

/-- The line holds these. -/
def Has (w wr : World) (T c room : Nat) (xs : List Value) : Prop := (∃ bs, LS.L wr T c room bs xs) ∧ Below c w wr
/-- What Take tells where something waits. -/
def TakePost (w wr : World) (T c room : Nat) (x : ByteArray) (xs : List Value) (e : Ending) (w' : World) : Prop := e = .returned (.tuple #[.string x, .bool true]) ∧ Has w w' T c room xs
theorem Has.take {w wr : World} {T c room : Nat} {x : ByteArray} {xs : List Value} (h : Has w wr T c room (.string x :: xs)) (hc : c ≤ w.heap.size) :
    Calls Try.prog 17 #[ptr T] wr (TakePost w wr T c room x xs) := by
  obtain ⟨⟨bs, hL⟩, hB⟩ := h
  have hl := hL.len
  obtain ⟨b, bs', rfl⟩ : ∃ b bs', bs = b :: bs' := by
    cases bs with
    | nil => simp at hl
    | cons b bs' => exact ⟨b, bs', rfl⟩
  refine (LS.take_some hL).mono ?_
  rintro e w2 ⟨rfl, hl2, hg2⟩
  exact ⟨rfl, ⟨_, hl2⟩, hB.trans (below_of_grown hg2 (Nat.le_trans hc hB.size) (fun g e => by injection e; omega))⟩
def PutPost (w : World) (T c room : Nat) (xs : List Value) (e : Ending) (w' : World) : Prop := e = .returned (.bool true) ∧ Has w w' T c room xs
theorem Has.put {w wr : World} {T c room : Nat} {xs : List Value} (h : Has w wr T c room xs) (hc : c ≤ w.heap.size) (hr : xs.length < room) (x : ByteArray) :
    Calls Try.prog 15 #[ptr T, .string x] wr (PutPost w T c room (xs ++ [.string x])) := by
  obtain ⟨⟨bs, hL⟩, hB⟩ := h
  refine (LS.put_room hL hr x).mono ?_
  rintro e w2 ⟨rfl, hl2, hg2⟩
  exact ⟨rfl, ⟨_, hl2⟩, hB.trans (below_of_grown hg2 (Nat.le_trans hc hB.size) (fun g e => by injection e; omega))⟩
def FullPost (w : World) (T c room : Nat) (xs : List Value) (e : Ending) (w' : World) : Prop := e = .returned (.bool false) ∧ Has w w' T c room xs
theorem Has.full {w wr : World} {T c room : Nat} {xs : List Value} (h : Has w wr T c room xs) (hc : c ≤ w.heap.size) (hr : room ≤ xs.length) (x : ByteArray) :
    Calls Try.prog 15 #[ptr T, .string x] wr (FullPost w T c room xs) := by
  obtain ⟨⟨bs, hL⟩, hB⟩ := h
  refine (LS.put_full hL hr x).mono ?_
  rintro e w2 ⟨rfl, hb2⟩
  exact ⟨rfl, ⟨_, hL.below hb2⟩, hB.trans (hb2.mono (Nat.le_trans hc hB.size))⟩
theorem Has.len {w wr : World} {T c room : Nat} {xs : List Value} (h : Has w wr T c room xs) (k : Nat) (hk : xs.length = k) :
    Calls Try.prog 16 #[ptr T] wr fun e w' => e = .returned (.int .i64 (k : Nat)) ∧ wr = w' := by
  obtain ⟨⟨bs, hL⟩, hB⟩ := h
  exact len_k hL k hk
theorem Has.none {w wr : World} {T c room : Nat} (h : Has w wr T c room []) :
    Calls Try.prog 17 #[ptr T] wr fun e w' => e = .returned (.tuple #[.string ⟨#[]⟩, .bool false]) ∧ wr = w' := by
  obtain ⟨⟨bs, hL⟩, hB⟩ := h
  exact LS.take_none hL

set_option maxHeartbeats 2000000 in
set_option maxRecDepth 100000 in
theorem walk (a0 : Int) (A : Option Addr) (n cp : Nat) (zs : List ByteArray) (w : World) (hz : StrsAt w A n zs) (hn : n ≤ maxLen) :
    Calls Try.prog 5 #[.slice A n cp, .int .i64 a0] w fun e w' => e = .returned (.bool true) ∧ Below w.heap.size w w' := by
  have HZ := Lib.hid hz
  have HZL := Lib.hid hz.1
  clear hz
  by_cases hbig : 100 < n
  · unfold maxLen at hn
    go_enter Try.func5, Try.ntmps5
    go_wp2_with (go_at_call 7; refine (AW.awake _).mono ?_; rintro e w' ⟨rfl, hb⟩)
    go_ret
    exact ⟨rfl, hb⟩
  · have hn6 : n ≤ 100 := by omega
    clear hn
    go_enter Try.func5, Try.ntmps5
    go_wp2_with fail
    obtain ⟨m, hm, hm2⟩ : ∃ m : Nat, wrap64 ((IntKind.u64.wrap a0).tmod 30) = (m : Int) ∧ m < 30 := by
      have h0 : 0 ≤ IntKind.u64.wrap a0 := by rw [IntKind.wrap_u64]; omega
      have h1 : (IntKind.u64.wrap a0).tmod 30 = IntKind.u64.wrap a0 % 30 := Int.tmod_eq_emod_of_nonneg h0
      refine ⟨(IntKind.u64.wrap a0 % 30).toNat, ?_, by omega⟩
      rw [h1]
      unfold wrap64
      omega
    rw [hm]
    clear hm
    have hrm : LS.rm (m : Int) = m := by unfold LS.rm; omega
    refine (LS.new (m : Int) w).mono ?_
    rintro e w1 ⟨rfl, hl1, hb1⟩
    rw [hrm] at hl1
    obtain ⟨T, hT⟩ : ∃ T, T = w.heap.size + 1 := ⟨_, rfl⟩
    obtain ⟨c, hc⟩ : ∃ c, c = w.heap.size := ⟨_, rfl⟩
    rw [← hT, ← hc] at hl1
    rw [← hT]
    rw [← hc] at hb1
    have hcw : c ≤ w.heap.size := Nat.le_of_eq hc
    have HTT := Lib.hid hT
    have HCC := Lib.hid hc
    have H1 := Lib.hid (show Has w w1 T c m [] from ⟨⟨[], hl1⟩, hb1⟩)
    clear hT hc hl1 hb1 hrm
    by_cases hm0 : m = 0
    · subst hm0
      go_wp2
      go_loopw [6, 25] (fun s6 s25 wr => ∃ j : Nat, j ≤ n ∧ s25 = .int .i64 j ∧ Hid (Has w wr T c 0 [])) (fun _ s25 _ => n - (intOf s25).toNat)
      case atStart => exact ⟨0, Nat.zero_le _, rfl, H1⟩
      case round =>
        clear H1
        obtain ⟨j, hj, rfl, H⟩ := hrel
        by_cases hlt : j < n
        · obtain ⟨ad, x, rfl, hx, hc1⟩ := HZ.out.at_ H.out.2 (Nat.le_of_eq HCC.out.symm) hlt
          have P := Lib.hid (H.out.full hcw (Nat.le_refl _) x)
          clear hx H
          go_wp2_with fail
          refine P.out.mono ?_
          rintro e w2 ⟨rfl, h2⟩
          have L2 := Lib.hid (h2.len 0 rfl)
          have T2 := Lib.hid h2.none
          have H2 := Lib.hid h2
          clear h2 P hc1
          go_wp2_with (first
            | (go_at_call 16; refine L2.out.mono ?_; rintro e w' ⟨rfl, rfl⟩)
            | (go_at_call 17; refine T2.out.mono ?_; rintro e w' ⟨rfl, rfl⟩))
          go_roundw
          case rel => exact ⟨j + 1, by omega, by go_num, H2⟩
          case measure => simp [intOf]; omega
        · obtain rfl : n = j := by omega
          have L2 := Lib.hid (H.out.len 0 rfl)
          go_wp2_with (first
            | (go_at_call 16; refine L2.out.mono ?_; rintro e w' ⟨rfl, rfl⟩)
            | (go_at_call 7; refine (AW.awake _).mono ?_; rintro e w' ⟨rfl, hb⟩))
          go_loopw [78] (fun s78 wx => s78 = .int .i64 0 ∧ wx = wr) (fun _ _ => 0)
          case atStart => exact ⟨rfl, rfl⟩
          case round =>
            obtain ⟨rfl, rfl⟩ := hrel
            go_wp2_with (go_at_call 7; refine (AW.awake _).mono ?_; rintro e w' ⟨rfl, hb⟩)
            go_ret
            refine ⟨rfl, ?_⟩
            have h1 := H.out.2
            rw [HCC.out] at h1
            exact h1.trans (hb.mono h1.size)
    · have hmp : 0 < m := by omega
      clear hm0
      go_wp2
      go_loopw [6, 25] (fun s6 s25 wr => ∃ j a : Nat, j ≤ n ∧ s25 = .int .i64 j ∧ s6 = .int .i64 a ∧ a ≤ j ∧ j ≤ a + m ∧ (0 < a → a + m ≤ j) ∧ Hid (Has w wr T c m (strs ((zs.take j).drop a)))) (fun _ s25 _ => n - (intOf s25).toNat)
      case atStart => exact ⟨0, 0, Nat.zero_le _, rfl, rfl, Nat.le_refl _, Nat.zero_le _, fun h => absurd h (Nat.lt_irrefl 0), by simpa [strs] using H1⟩
      case round =>
        clear H1
        obtain ⟨j, a, hj, rfl, rfl, haj, hja, ham, H⟩ := hrel
        by_cases hlt : j < n
        · obtain ⟨ad, x, rfl, hx, hc1⟩ := HZ.out.at_ H.out.2 (Nat.le_of_eq HCC.out.symm) hlt
          have HX := Lib.hid hx
          have hlen : (strs ((zs.take j).drop a)).length = j - a := mid_length _ _ _ (by rw [HZL.out]; omega)
          by_cases hr : j < a + m
          · have P := Lib.hid (H.out.put hcw (by omega) x)
            obtain ⟨k, hk⟩ : ∃ k, k = j + 1 - a := ⟨_, rfl⟩
            have hk1 : k + a ≤ j + 1 := by omega
            have hk2 : j + 1 ≤ k + a := by omega
            have ha0 : a = 0 := by omega
            have HA0 := Lib.hid ha0
            clear hlen hx H hk ha0
            go_wp2_with fail
            refine P.out.mono ?_
            rintro e w2 ⟨rfl, h2⟩
            rw [← mid_snoc HX.out haj] at h2
            have L2 := Lib.hid (h2.len k (by rw [mid_length _ _ _ (by rw [HZL.out]; omega)]; omega))
            have H2 := Lib.hid h2
            clear h2 P hc1
            go_wp2_with (go_at_call 16; refine L2.out.mono ?_; rintro e w' ⟨rfl, rfl⟩)
            go_roundw
            case rel => exact ⟨j + 1, a, by omega, by go_num, rfl, by omega, by omega, fun h => by have := HA0.out; omega, H2⟩
            case measure => simp [intOf]; omega
          · have P := Lib.hid (H.out.full hcw (by omega) x)
            have hlm : (strs ((zs.take j).drop a)).length = m := by omega
            have HLM := Lib.hid hlm
            have ham1 : a + m ≤ j := by omega
            clear hlen hx H hlm ham
            go_wp2_with fail
            refine P.out.mono ?_
            rintro e w2 ⟨rfl, h2⟩
            have L2 := Lib.hid (h2.len m HLM.out)
            obtain ⟨ad', y, hA, hy, hc2⟩ := HZ.out.at_ h2.2 (Nat.le_of_eq HCC.out.symm) (j := a) (by omega)
            injection hA with hA
            subst hA
            rw [mid_cons hy (by omega)] at h2
            have T2 := Lib.hid (h2.take hcw)
            have HY := Lib.hid hy
            clear h2 P hc1 hc2 hy
            go_wp2_with fail
            refine L2.out.mono ?_
            rintro e w3 ⟨rfl, rfl⟩
            go_wp2_with fail
            refine T2.out.mono ?_
            rintro e w3 ⟨rfl, h3⟩
            obtain ⟨ad', y', hA, hy', hc3⟩ := HZ.out.at_ h3.2 (Nat.le_of_eq HCC.out.symm) (j := a) (by omega)
            injection hA with hA
            subst hA
            rw [HY.out] at hy'
            injection hy' with hy'
            subst hy'
            have P3 := Lib.hid (h3.put hcw (by rw [mid_length _ _ _ (by rw [HZL.out]; omega)]; omega) x)
            clear h3 T2 L2
            go_wp2_with fail
            refine P3.out.mono ?_
            rintro e w4 ⟨rfl, h4⟩
            rw [← mid_snoc HX.out (by omega)] at h4
            have L4 := Lib.hid (h4.len m (by rw [mid_length _ _ _ (by rw [HZL.out]; omega)]; omega))
            have H4 := Lib.hid h4
            clear h4 P3 hc3
            go_wp2_with (go_at_call 16; refine L4.out.mono ?_; rintro e w' ⟨rfl, rfl⟩)
            go_roundw
            case rel => exact ⟨j + 1, a + 1, by omega, by go_num, by go_num, by omega, by omega, fun h => by omega, H4⟩
            case measure => simp [intOf]; omega
        · obtain rfl : n = j := by omega
          have hzn : zs.take n = zs := List.take_of_length_le (by rw [HZL.out]; omega)
          have h1 := H.out
          rw [hzn] at h1
          have H1 := Lib.hid h1
          obtain ⟨k, hk⟩ : ∃ k, k = n - a := ⟨_, rfl⟩
          have hk1 : k + a ≤ n := by omega
          have hk2 : n ≤ k + a := by omega
          have L1 := Lib.hid (h1.len k (by rw [end_length, HZL.out]; omega))
          clear h1 hzn hk H hlt
          go_wp2_with (go_at_call 16; refine L1.out.mono ?_; rintro e w' ⟨rfl, rfl⟩)
          go_loopw [6, 78] (fun s6 s78 wx => ∃ q p : Nat, q ≤ k ∧ s78 = .int .i64 q ∧ s6 = .int .i64 p ∧ p ≤ a + q ∧ a + q ≤ p ∧ Hid (Has w wx T c m (strs (zs.drop p)))) (fun _ s78 _ => k - (intOf s78).toNat)
          case atStart => exact ⟨0, a, Nat.zero_le _, rfl, rfl, by omega, by omega, H1⟩
          case round =>
            clear H1 L1
            obtain ⟨q, p, hq, rfl, rfl, hp1, hp2, H⟩ := hrel
            by_cases hlt : q < k
            · obtain ⟨y, hy⟩ : ∃ y, zs[p]? = some y := ⟨_, List.getElem?_eq_getElem (by rw [HZL.out]; omega)⟩
              have h1 := H.out
              rw [end_cons hy] at h1
              have T1 := Lib.hid (h1.take hcw)
              have HY := Lib.hid hy
              have hpn : p < n := by omega
              clear h1 hy H
              go_wp2_with fail
              refine T1.out.mono ?_
              rintro e w2 ⟨rfl, h2⟩
              obtain ⟨ad, y', rfl, hy', hc2⟩ := HZ.out.at_ h2.2 (Nat.le_of_eq HCC.out.symm) hpn
              rw [HY.out] at hy'
              injection hy' with hy'
              subst hy'
              have H2 := Lib.hid h2
              clear h2 T1
              go_wp2
              go_roundw
              case rel => exact ⟨q + 1, p + 1, by omega, by go_num, by go_num, by omega, by omega, H2⟩
              case measure => simp [intOf]; omega
            · have hpn : p = n := by omega
              subst hpn
              go_wp2_with (go_at_call 7; refine (AW.awake _).mono ?_; rintro e w' ⟨rfl, hb⟩)
              go_ret
              refine ⟨rfl, ?_⟩
              have h1 := H.out.2
              rw [HCC.out] at h1
              exact h1.trans (hb.mono h1.size)

set_option maxRecDepth 100000 in
theorem lifted (os : Os) (started : os.Started) (H : Type) (enc : TypeId × Value → H) :
    ReturnsInHanded {} Try.checked os 5 .any (Rows.lineTextsSpec.pre6 enc Try.prog Try.f5 Rows.lineTextsRow.domain false) (Rows.lineTextsSpec.post enc Try.prog Try.f5 false true false false) := by
  refine returnsInHanded_of_change (C := Try.checked) Law.own started (by kernel_rfl) Try.func5
    (ChangeSpec.witness6 (enc := enc) (C := Try.checked) false ⟨#[], #[.slice none 0 0, .int .i64 0], []⟩ 8 (by kernel_rfl) (by kernel_rfl) (by kernel_rfl) (by kernel_rfl)) ?_
  intro W base args ds gs before hval hW hcnd _
  have hW' := hW
  obtain ⟨p, q, hA, hV, rfl, hfz, hnd⟩ := hW
  rw [Try.params5] at hA hval
  obtain ⟨v0, v1, d0, d1, p0, p1, rfl, rfl, rfl, h0, h1⟩ := trodAll_two hA
  obtain ⟨rfl, rfl⟩ := trodVars_none hV
  obtain ⟨a0, rfl, rfl, rfl, w0⟩ := open_int Try.underlying3 (hval 1 3 v1 rfl rfl) h1
  obtain ⟨ad, len, cap, rfl⟩ := okWide_slice Try.underlying35 (hval 0 35 v0 rfl rfl)
  obtain ⟨zs, hzs, hlen⟩ := Law.open_strs_at h0
  refine (walk a0 ad len cap zs W hzs hlen).mono fun e W' ⟨he, hb⟩ => ?_
  subst he
  exact ⟨_, rfl, Law.law_post (by kernel_rfl) (by kernel_rfl) rfl hW' rfl rfl rfl hb⟩

theorem lineTexts_holds : Rows.LineTextsSaid :=
  OpenClaim.holds_of_wide 5 Try.f5 rfl rfl rfl rfl rfl rfl rfl ⟨rfl, rfl, rfl, rfl, rfl⟩ rfl rfl rfl rfl rfl (by kernel_rfl) Try.func5 (by kernel_rfl)
    (of_decide_eq_true (by kernel_rfl)) (by unfold Func.isWrapper; first | (rw [if_pos (by decide +kernel)]; kernel_rfl) | (rw [if_neg (by decide +kernel)]; exact ⟨rfl, rfl⟩))
    (fun os started H enc _ => lifted os started H enc)
#print axioms lineTexts_holds
end Go.Proofs.Ytkhecigpjjhmjaa.lineTexts
