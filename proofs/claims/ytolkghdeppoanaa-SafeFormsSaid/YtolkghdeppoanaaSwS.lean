/-
  Files alike; changes alike.
-/
import Derived.Test.YtolkghdeppoanaaSfK
set_option linter.unusedVariables false
set_option linter.unusedSimpArgs false
namespace Go.Proofs.Ytolkghdeppoanaa.SwS
open Go.RowKit Go.Proofs.Ytolkghdeppoanaa.BxD Go.Proofs.Ytolkghdeppoanaa.BxKit Go.Proofs.Ytolkghdeppoanaa.RkO Go.Proofs.Ytolkghdeppoanaa.RkC Go.Proofs.Ytolkghdeppoanaa.RkD Go.Proofs.Ytolkghdeppoanaa.RkR Go.Proofs.Ytolkghdeppoanaa.RkK Go.Proofs.Ytolkghdeppoanaa.RkP Go.Proofs.Ytolkghdeppoanaa.SfC

/-- Are files alike? -/
theorem fext {a b : List F} (h : a.length = b.length) (k : ∀ (i : Nat) (x y : F), a[i]? = some x → b[i]? = some y → x = y) : a = b := by
  apply List.ext_getElem?
  intro i
  rcases Nat.lt_or_ge i a.length with hi | hi
  · rw [List.getElem?_eq_getElem hi, List.getElem?_eq_getElem (by omega)]
    exact congrArg some (k i _ _ (List.getElem?_eq_getElem hi) (List.getElem?_eq_getElem (by omega)))
  · rw [List.getElem?_eq_none hi, List.getElem?_eq_none (by omega)]
set_option maxHeartbeats 4000000 in
set_option maxRecDepth 100000 in
theorem same_files {w : World} {A1 A2 : Option Addr} {n1 n2 c1 c2 : Nat} {a b : List F} (h1 : FilesT w A1 n1 a) (h2 : FilesT w A2 n2 b) (hn : n1 ≤ 100000) :
    Calls Try.prog 21 #[.slice A1 n1 c1, .slice A2 n2 c2] w fun e w' => e = .returned (.bool (decide (a = b))) ∧ Below w.heap.size w w' := by
  have HA := Lib.hid h1
  have HB := Lib.hid h2
  have la := h1.len
  have lb := h2.len
  by_cases hne : n1 = n2
  · subst hne
    have LA := Lib.hid la
    have LB := Lib.hid lb
    clear h1 h2 la lb
    go_enter Try.func21, Try.ntmps21
    go_wp2_with fail
    go_loopw [13] (fun s13 wr => ∃ k : Nat, k ≤ n1 ∧ s13 = .int .i64 k ∧ Hid (∀ (i : Nat) (x y : F), i < k → a[i]? = some x → b[i]? = some y → x = y) ∧ Hid (Below w.heap.size w wr)) (fun s13 _ => n1 - (intOf s13).toNat)
    case atStart => exact ⟨0, Nat.zero_le _, rfl, fun i x y h => absurd h (Nat.not_lt_zero i), Below.refl _ _⟩
    case round =>
      obtain ⟨k, hk, rfl, HE, HW⟩ := hrel
      by_cases hlt : k < n1
      · obtain ⟨ad, x, K, kd, kc, rfl, hp, d1, d2, hle, hby⟩ := HA.out.sp (Kp.below HW.out (Nat.le_refl _)) hlt
        obtain ⟨ad', x', K', kd', kc', rfl, hp', d1', d2', hle', hby'⟩ := HB.out.sp (Kp.below HW.out (Nat.le_refl _)) hlt
        have hk1 : (k : Int) < (n1 : Int) := by omega
        have hk0 : (0 : Int) ≤ (k : Int) := by omega
        by_cases hx : x = x'
        · subst hx
          have hcv := fun nq => PkKit.BytesAt.conv (w := wr.drewN nq) (hby.at_.below (BxKit.below_drewN (Below.refl _ _) nq) (Nat.le_refl _)) kc
          have hcv' := fun nq => PkKit.BytesAt.conv (w := wr.drewN nq) (hby'.at_.below (BxKit.below_drewN (Below.refl _ _) nq) (Nat.le_refl _)) kc'
          obtain ⟨m, hm⟩ : ∃ m, m = kd.length := ⟨_, rfl⟩
          obtain ⟨m', hm'⟩ : ∃ m', m' = kd'.length := ⟨_, rfl⟩
          rw [← hm] at hcv d2
          rw [← hm'] at hcv' d2'
          obtain ⟨X, hX⟩ : ∃ X : ByteArray, X = ⟨kd.toArray⟩ := ⟨_, rfl⟩
          obtain ⟨X', hX'⟩ : ∃ X' : ByteArray, X' = ⟨kd'.toArray⟩ := ⟨_, rfl⟩
          rw [← hX] at hcv
          rw [← hX'] at hcv'
          have hxx : (x.toList == x.toList) = true := by simp
          by_cases hkk : kd = kd'
          · have hXX : (X.toList == X'.toList) = true := by rw [hX, hX', hkk]; simp
            have HE2 : Hid (∀ (i : Nat) (x y : F), i < k + 1 → a[i]? = some x → b[i]? = some y → x = y) := by
              intro i u v hi hu hv
              rcases Nat.lt_or_ge i k with h | h
              · exact HE.out i u v h hu hv
              · obtain rfl : i = k := by omega
                rw [hp] at hu
                rw [hp'] at hv
                rw [← Option.some.inj hu, ← Option.some.inj hv, hkk]
            clear hm hm' hX hX' hkk hp hp'
            go_upto_region 6 with fail
            go_quiet (fail)
            go_wp2_with fail
            go_roundw
            case measure => simp [intOf]; omega
            case rel => exact ⟨k + 1, by omega, by go_num, HE2, Lib.hid (HW.out.trans (BxKit.below_drewN (Below.refl _ _) _))⟩
          · have hXX : (X.toList == X'.toList) = false := by
              rw [hX, hX', ByteArray.toList_eq, ByteArray.toList_eq]; simpa using hkk
            have HN := Lib.hid (show decide (a = b) = false from decide_eq_false fun e => hkk (by rw [e, hp'] at hp; exact (congrArg Prod.snd (Option.some.inj hp)).symm))
            clear hm hm' hX hX' hp hp' hkk
            go_upto_region 6 with fail
            go_quiet (fail)
            go_wp2_with fail
            go_ret
            exact ⟨by rw [HN.out]; rfl, HW.out.trans (BxKit.below_drewN (Below.refl _ _) _)⟩
        · have hxx : (x.toList == x'.toList) = false := by
            cases h : (x.toList == x'.toList) with
            | false => rfl
            | true => exact absurd (ba_ext (by simpa using h)) hx
          have HN := Lib.hid (show decide (a = b) = false from decide_eq_false fun e => hx (by rw [e, hp'] at hp; exact (congrArg Prod.fst (Option.some.inj hp)).symm))
          clear hp hp' hx
          go_upto_region 6 with fail
          go_quiet (fail)
          go_wp2_with fail
          go_ret
          exact ⟨by rw [HN.out]; rfl, HW.out.trans (BxKit.below_drewN (Below.refl _ _) _)⟩
      · obtain rfl : k = n1 := by omega
        have HN := Lib.hid (show decide (a = b) = true from decide_eq_true (fext (by rw [LA.out, LB.out]) fun i x y hx hy => HE.out i x y (by have := (List.getElem?_eq_some_iff.1 hx).1; rw [LA.out] at this; exact this) hx hy))
        go_wp2_with fail
        go_ret
        exact ⟨by rw [HN.out]; rfl, HW.out⟩
  · have HN := Lib.hid (show decide (a = b) = false from decide_eq_false fun e => hne (by rw [← la, ← lb, e]))
    have hni : ((n1 : Int) == (n2 : Int)) = false := by rw [beq_eq_false_iff_ne]; omega
    clear h1 h2 la lb hne
    go_enter Try.func21, Try.ntmps21
    go_wp2_with fail
    go_ret
    exact ⟨by rw [HN.out]; rfl, Below.refl _ _⟩

instance ch_dec : DecidableEq Ch := fun a b => if h : a.name = b.name ∧ a.cut = b.cut ∧ a.data = b.data then isTrue (by cases a; cases b; simp_all) else isFalse fun e => h (by rw [e]; exact ⟨rfl, rfl, rfl⟩)
theorem cext {a b : List Ch} (h : a.length = b.length) (k : ∀ (i : Nat) (x y : Ch), a[i]? = some x → b[i]? = some y → x = y) : a = b := by
  apply List.ext_getElem?
  intro i
  rcases Nat.lt_or_ge i a.length with hi | hi
  · rw [List.getElem?_eq_getElem hi, List.getElem?_eq_getElem (by omega)]
    exact congrArg some (k i _ _ (List.getElem?_eq_getElem hi) (List.getElem?_eq_getElem (by omega)))
  · rw [List.getElem?_eq_none hi, List.getElem?_eq_none (by omega)]
set_option maxHeartbeats 8000000 in
set_option maxRecDepth 100000 in
theorem same_changes {w : World} {base lo hi base2 lo2 hi2 : Nat} {A1 A2 : Option Addr} {n1 n2 c1 c2 : Nat} {a b : List Ch} (h1 : ChsP w base lo hi A1 n1 a) (h2 : ChsP w base2 lo2 hi2 A2 n2 b) (hb1 : base ≤ w.heap.size) (hh1 : hi ≤ w.heap.size) (hb2 : base2 ≤ w.heap.size) (hh2 : hi2 ≤ w.heap.size) (hn : n1 ≤ 100000) (hn2 : n2 ≤ 1000000000) :
    Calls Try.prog 15 #[.slice A1 n1 c1, .slice A2 n2 c2] w fun e w' => e = .returned (.bool (decide (a = b))) ∧ Below w.heap.size w w' := by
  have HA := Lib.hid h1
  have HB := Lib.hid h2
  have la := h1.1
  have lb := h2.1
  by_cases hne : n1 = n2
  · subst hne
    have LA := Lib.hid la
    have LB := Lib.hid lb
    clear h1 h2 la lb
    go_enter Try.func15, Try.ntmps15
    go_wp2_with fail
    go_loopw [13] (fun s13 wr => ∃ k : Nat, k ≤ n1 ∧ s13 = .int .i64 k ∧ Hid (∀ (i : Nat) (x y : Ch), i < k → a[i]? = some x → b[i]? = some y → x = y) ∧ Hid (Below w.heap.size w wr)) (fun s13 _ => n1 - (intOf s13).toNat)
    case atStart => exact ⟨0, Nat.zero_le _, rfl, fun i x y h => absurd h (Nat.not_lt_zero i), Below.refl _ _⟩
    case round =>
      obtain ⟨k, hk, rfl, HE, HW⟩ := hrel
      have hsw := HW.out.size
      by_cases hlt : k < n1
      · obtain ⟨ad, x, ct, K, kd, kc, rfl, hp, d0, d1, d2, hle, hby, _⟩ := HA.out.sp (Kb.below HW.out hb1 hh1) hlt
        obtain ⟨ad', x', ct', K', kd', kc', rfl, hp', d0', d1', d2', hle', hby', _⟩ := HB.out.sp (Kb.below HW.out hb2 hh2) hlt
        have hk1 : (k : Int) < (n1 : Int) := by omega
        have hk0 : (0 : Int) ≤ (k : Int) := by omega
        by_cases hx : x = x'
        · subst hx
          have hxx : (x.toList == x.toList) = true := by simp
          by_cases hct : ct = ct'
          · subst hct
            have hcc : (ct == ct) = true := by simp
            have hcv := fun nq => PkKit.BytesAt.conv (w := wr.drewN nq) ((hby.at_ (by omega) (by omega)).below (BxKit.below_drewN (Below.refl _ _) nq) (Nat.le_refl _)) kc
            have hcv' := fun nq => PkKit.BytesAt.conv (w := wr.drewN nq) ((hby'.at_ (by omega) (by omega)).below (BxKit.below_drewN (Below.refl _ _) nq) (Nat.le_refl _)) kc'
            obtain ⟨m, hm⟩ : ∃ m, m = kd.length := ⟨_, rfl⟩
            obtain ⟨m', hm'⟩ : ∃ m', m' = kd'.length := ⟨_, rfl⟩
            rw [← hm] at hcv d2
            rw [← hm'] at hcv' d2'
            obtain ⟨X, hX⟩ : ∃ X : ByteArray, X = ⟨kd.toArray⟩ := ⟨_, rfl⟩
            obtain ⟨X', hX'⟩ : ∃ X' : ByteArray, X' = ⟨kd'.toArray⟩ := ⟨_, rfl⟩
            rw [← hX] at hcv
            rw [← hX'] at hcv'
            by_cases hkk : kd = kd'
            · have hXX : (X.toList == X'.toList) = true := by rw [hX, hX', hkk]; simp
              have HE2 : Hid (∀ (i : Nat) (x y : Ch), i < k + 1 → a[i]? = some x → b[i]? = some y → x = y) := by
                intro i u v hi hu hv
                rcases Nat.lt_or_ge i k with h | h
                · exact HE.out i u v h hu hv
                · obtain rfl : i = k := by omega
                  rw [hp] at hu
                  rw [hp'] at hv
                  rw [← Option.some.inj hu, ← Option.some.inj hv, hkk]
              clear hm hm' hX hX' hkk hp hp' hby hby' hle hle'
              go_upto_region 6 with fail
              go_quiet (fail)
              go_wp2_with fail
              go_roundw
              case measure => simp [intOf]; omega
              case rel => exact ⟨k + 1, by omega, by go_num, HE2, Lib.hid (HW.out.trans (BxKit.below_drewN (Below.refl _ _) _))⟩
            · have hXX : (X.toList == X'.toList) = false := by
                rw [hX, hX', ByteArray.toList_eq, ByteArray.toList_eq]; simpa using hkk
              have HN := Lib.hid (show decide (a = b) = false from decide_eq_false fun e => hkk (by rw [e, hp'] at hp; exact (congrArg RkD.Ch.data (Option.some.inj hp)).symm))
              clear hm hm' hX hX' hp hp' hkk hby hby' hle hle'
              go_upto_region 6 with fail
              go_quiet (fail)
              go_wp2_with fail
              go_ret
              exact ⟨by rw [HN.out]; rfl, HW.out.trans (BxKit.below_drewN (Below.refl _ _) _)⟩
          · have hcc : (ct == ct') = false := by simpa using hct
            have HN := Lib.hid (show decide (a = b) = false from decide_eq_false fun e => hct (by rw [e, hp'] at hp; exact (congrArg RkD.Ch.cut (Option.some.inj hp)).symm))
            clear hp hp' hct hby hby' hle hle'
            go_upto_region 6 with fail
            go_quiet (fail)
            go_wp2_with fail
            go_ret
            exact ⟨by rw [HN.out]; rfl, HW.out.trans (BxKit.below_drewN (Below.refl _ _) _)⟩
        · have hxx : (x.toList == x'.toList) = false := by
            cases h : (x.toList == x'.toList) with
            | false => rfl
            | true => exact absurd (ba_ext (by simpa using h)) hx
          have HN := Lib.hid (show decide (a = b) = false from decide_eq_false fun e => hx (by rw [e, hp'] at hp; exact (congrArg RkD.Ch.name (Option.some.inj hp)).symm))
          clear hp hp' hx hby hby' hle hle'
          go_upto_region 6 with fail
          go_quiet (fail)
          go_wp2_with fail
          go_ret
          exact ⟨by rw [HN.out]; rfl, HW.out.trans (BxKit.below_drewN (Below.refl _ _) _)⟩
      · obtain rfl : k = n1 := by omega
        have HN := Lib.hid (show decide (a = b) = true from decide_eq_true (cext (by rw [LA.out, LB.out]) fun i x y hx hy => HE.out i x y (by have := (List.getElem?_eq_some_iff.1 hx).1; rw [LA.out] at this; exact this) hx hy))
        go_wp2_with fail
        go_ret
        exact ⟨by rw [HN.out]; rfl, HW.out⟩
  · have HN := Lib.hid (show decide (a = b) = false from decide_eq_false fun e => hne (by rw [← la, ← lb, e]))
    have hni : ((n1 : Int) == (n2 : Int)) = false := by rw [beq_eq_false_iff_ne]; omega
    clear h1 h2 la lb hne
    go_enter Try.func15, Try.ntmps15
    go_wp2_with fail
    go_ret
    exact ⟨by rw [HN.out]; rfl, Below.refl _ _⟩
end Go.Proofs.Ytolkghdeppoanaa.SwS
