/-
  Atoms: flag.Atom, flag.May and the document's own.
-/
import Derived.Test.YtdgcihgohkgecaaDoorBxKit
import Derived.WalkKit
import Derived.BigQuiet
import Derived.Deep.QuietTactic
import Derived.Lib.Bytealg
import Derived.Outline
import Derived.IntWalk
namespace Go.Proofs.YtdgcihgohkgecaaDoor.BxAtom
open Go.RowKit Go.Proofs.YtdgcihgohkgecaaDoor.BxD Go.Proofs.YtdgcihgohkgecaaDoor.BxKit

set_option maxHeartbeats 1000000 in
set_option maxRecDepth 100000 in
theorem idx25 (s : ByteArray) (c : Int) (w : World) : Calls Tryd.prog 118 #[.string s, .int .u8 c] w fun e w' => e = .returned (.int .i64 (Lib.indexByte s.data.toList c.toNat.toUInt8)) ∧ w = w' := by
  go_enter Tryd.func118, Tryd.ntmps118
  go_wp2
  rw [run_callFunc_extern Tryd.func124 (by kernel_rfl) (by kernel_rfl) (by kernel_rfl) (e := Extern.BytealgIndexByte.indexByte) (by kernel_rfl), Lib.run_indexByteString]
  simp only [Result.andThen]
  rw [Oper.upon_value]
  go_wp2
  go_ret
  exact ⟨rfl, rfl⟩
theorem idx22 (s : ByteArray) (c : Int) (w : World) : Calls Tryd.prog 108 #[.string s, .int .u8 c] w fun e w' => e = .returned (.int .i64 (Lib.indexByte s.data.toList c.toNat.toUInt8)) ∧ w = w' := by
  go_enter Tryd.func108, Tryd.ntmps108
  go_wp2_with (go_at_call 118; refine (idx25 _ _ _).mono ?_; rintro e w' ⟨rfl, rfl⟩)
  go_ret
  exact ⟨rfl, rfl⟩

theorem signs_idx (c : UInt8) : decide ((0 : Int) ≤ Lib.indexByte signs c) = signs.contains c := by
  unfold signs
  simp only [Lib.indexByte, List.contains_cons, List.contains_nil]
  by_cases h1 : c = 46
  · subst h1; rfl
  by_cases h2 : c = 95
  · subst h2; rfl
  by_cases h3 : c = 45
  · subst h3; rfl
  by_cases h4 : c = 36
  · subst h4; rfl
  by_cases h5 : c = 47
  · subst h5; rfl
  have g1 : ((46 : UInt8) == c) = false := by simpa using fun h => h1 h.symm
  have g2 : ((95 : UInt8) == c) = false := by simpa using fun h => h2 h.symm
  have g3 : ((45 : UInt8) == c) = false := by simpa using fun h => h3 h.symm
  have g4 : ((36 : UInt8) == c) = false := by simpa using fun h => h4 h.symm
  have g5 : ((47 : UInt8) == c) = false := by simpa using fun h => h5 h.symm
  have k1 : (c == (46 : UInt8)) = false := by simpa using h1
  have k2 : (c == (95 : UInt8)) = false := by simpa using h2
  have k3 : (c == (45 : UInt8)) = false := by simpa using h3
  have k4 : (c == (36 : UInt8)) = false := by simpa using h4
  have k5 : (c == (47 : UInt8)) = false := by simpa using h5
  simp [g1, g2, g3, g4, g5, k1, k2, k3, k4, k5]
theorem byte_back (c : UInt8) : ((c.toNat : Int)).toNat.toUInt8 = c := by simp

set_option maxHeartbeats 400000 in
theorem ofAtom_let (c : UInt8) (w : World) (h : (97 ≤ (c.toNat : Int) ∧ (c.toNat : Int) ≤ 122) ∨ (65 ≤ (c.toNat : Int) ∧ (c.toNat : Int) ≤ 90) ∨ (48 ≤ (c.toNat : Int) ∧ (c.toNat : Int) ≤ 57)) :
    Calls Tryd.prog 89 #[.int .u8 (c.toNat : Int)] w fun e w' => e = .returned (.bool true) ∧ w = w' := by
  rcases h with ⟨h1, h2⟩ | ⟨h1, h2⟩ | ⟨h1, h2⟩
  all_goals
    go_enter Tryd.func89, Tryd.ntmps89
    go_wp2
    go_ret
    exact ⟨rfl, rfl⟩
set_option maxHeartbeats 400000 in
theorem ofAtom_sign (c : UInt8) (w : World) (h1 : ¬ (97 ≤ (c.toNat : Int) ∧ (c.toNat : Int) ≤ 122)) (h2 : ¬ (65 ≤ (c.toNat : Int) ∧ (c.toNat : Int) ≤ 90)) (h3 : ¬ (48 ≤ (c.toNat : Int) ∧ (c.toNat : Int) ≤ 57)) :
    Calls Tryd.prog 89 #[.int .u8 (c.toNat : Int)] w fun e w' => e = .returned (.bool (signs.contains c)) ∧ w = w' := by
  have I := fun w => idx22 ⟨#[46, 95, 45, 36, 47]⟩ (c.toNat : Int) w
  have hs : Lib.indexByte (ByteArray.data ⟨#[46, 95, 45, 36, 47]⟩).toList (c.toNat : Int).toNat.toUInt8 = Lib.indexByte signs c := by rw [byte_back]; rfl
  rw [hs] at I
  have hd := signs_idx c
  obtain ⟨n, hn⟩ : ∃ n, n = Lib.indexByte signs c := ⟨_, rfl⟩
  rw [← hn] at I hd
  rw [← hd]
  clear hs hd hn
  have J := Lib.hid I
  clear I
  have hr : (c.toNat : Int) < 48 ∨ (57 < (c.toNat : Int) ∧ (c.toNat : Int) < 65) ∨ (90 < (c.toNat : Int) ∧ (c.toNat : Int) < 97) ∨ 122 < (c.toNat : Int) := by omega
  clear h1 h2 h3
  rcases hr with h | ⟨h, h'⟩ | ⟨h, h'⟩ | h
  all_goals
    go_enter Tryd.func89, Tryd.ntmps89
    go_wp2_with (go_at_call 108; refine (J.out _).mono ?_; rintro e w' ⟨rfl, rfl⟩)
    go_ret
    exact ⟨rfl, rfl⟩
theorem ofAtom_any (c : UInt8) (w : World) : Calls Tryd.prog 89 #[.int .u8 (c.toNat : Int)] w fun e w' => e = .returned (.bool (atC c)) ∧ w = w' := by
  by_cases h : (97 ≤ (c.toNat : Int) ∧ (c.toNat : Int) ≤ 122) ∨ (65 ≤ (c.toNat : Int) ∧ (c.toNat : Int) ≤ 90) ∨ (48 ≤ (c.toNat : Int) ∧ (c.toNat : Int) ≤ 57)
  · have e : atC c = true := by unfold atC; simp only [Bool.or_eq_true, Bool.and_eq_true, decide_eq_true_eq]; omega
    rw [e]; exact ofAtom_let c w h
  · have e : atC c = signs.contains c := by
      unfold atC
      rw [show (decide (97 ≤ c.toNat) && decide (c.toNat ≤ 122)) = false by simp; omega, show (decide (65 ≤ c.toNat) && decide (c.toNat ≤ 90)) = false by simp; omega, show (decide (48 ≤ c.toNat) && decide (c.toNat ≤ 57)) = false by simp; omega]
      rfl
    rw [e]
    simp only [not_or] at h
    exact ofAtom_sign c w h.1 h.2.1 h.2.2

set_option maxHeartbeats 1000000 in
theorem atom_any (s : ByteArray) (w : World) : Calls Tryd.prog 60 #[.string s] w fun e w' => e = .returned (.bool (atB s)) ∧ w = w' := by
  by_cases h1 : s.size < 1
  · have HF := Lib.hid (atB_short h1)
    have h1' : (s.size : Int) < 1 := by omega
    go_enter Tryd.func60, Tryd.ntmps60
    go_wp2_with fail
    go_ret
    exact ⟨ret_bool HF.out.symm, rfl⟩
  · by_cases h2 : 24 < s.size
    · have HF := Lib.hid (atB_long h2)
      have h1' : 1 ≤ (s.size : Int) := by omega
      have h2' : 24 < (s.size : Int) := by omega
      clear h1
      go_enter Tryd.func60, Tryd.ntmps60
      go_wp2_with fail
      go_ret
      exact ⟨ret_bool HF.out.symm, rfl⟩
    · have h1' : 1 ≤ (s.size : Int) := by omega
      have h2' : (s.size : Int) ≤ 24 := by omega
      clear h1 h2
      go_enter Tryd.func60, Tryd.ntmps60
      go_wp2_with fail
      go_loop [14] (fun s14 => ∃ k : Nat, k ≤ s.size ∧ s14 = .int .i64 k ∧ Hid ((s.data.toList.take k).all atC = true)) (fun s14 => s.size - (intOf s14).toNat)
      case atStart => exact ⟨0, Nat.zero_le _, rfl, rfl⟩
      case round =>
        obtain ⟨k, hk, rfl, HT⟩ := hrel
        by_cases hlt : k < s.size
        · have C := fun w => ofAtom_any s[k] w
          cases hc : atC s[k] with
          | true =>
            rw [hc] at C
            have HC := Lib.hid hc
            have K := Lib.hid C
            clear hc C
            go_wp2_with (go_at_call 89; refine (K.out _).mono ?_; rintro e w' ⟨rfl, rfl⟩)
            go_round
            case rel => exact ⟨k + 1, by omega, by go_num, by rw [atC_snoc _ _ hlt, HT.out, HC.out]; rfl⟩
            case measure => simp [intOf]; omega
          | false =>
            rw [hc] at C
            have HF := Lib.hid (atB_bad hlt hc)
            have K := Lib.hid C
            clear hc C
            go_wp2_with (go_at_call 89; refine (K.out _).mono ?_; rintro e w' ⟨rfl, rfl⟩)
            go_ret
            exact ⟨ret_bool HF.out.symm, rfl⟩
        · obtain rfl : k = s.size := by omega
          go_wp2_with fail
          go_ret
          exact ⟨ret_bool (atB_good (by omega) (by omega) rfl HT.out).symm, rfl⟩

theorem may_any (s : ByteArray) (w : World) : Calls Tryd.prog 90 #[.string s] w fun e w' => e = .returned (.bool (atB s)) ∧ w = w' := by
  go_enter Tryd.func90, Tryd.ntmps90
  go_wp2_with (go_at_call 60; refine (atom_any _ _).mono ?_; rintro e w' ⟨rfl, rfl⟩)
  go_ret
  exact ⟨rfl, rfl⟩

/-- The kinds of bytes that the document's test tells apart. -/
theorem kinds (c : UInt8) : (atC c = true ∧ (((97 : Int) ≤ (c.toNat : Int) ∧ (c.toNat : Int) ≤ 122) ∨ ((65 : Int) ≤ (c.toNat : Int) ∧ (c.toNat : Int) ≤ 90) ∨ ((48 : Int) ≤ (c.toNat : Int) ∧ (c.toNat : Int) ≤ 57) ∨
      (c.toNat : Int) = 46 ∨ (c.toNat : Int) = 95 ∨ (c.toNat : Int) = 45 ∨ (c.toNat : Int) = 36 ∨ (c.toNat : Int) = 47)) ∨
    (atC c = false ∧ ((c.toNat : Int) == 46) = false ∧ ((c.toNat : Int) == 95) = false ∧ ((c.toNat : Int) == 45) = false ∧ ((c.toNat : Int) == 36) = false ∧ ((c.toNat : Int) == 47) = false ∧
      ((c.toNat : Int) < 48 ∨ ((57 : Int) < (c.toNat : Int) ∧ (c.toNat : Int) < 65) ∨ ((90 : Int) < (c.toNat : Int) ∧ (c.toNat : Int) < 97) ∨ (122 : Int) < (c.toNat : Int))) := by
  have sg : signs.contains c = decide ((c.toNat : Int) = 46 ∨ (c.toNat : Int) = 95 ∨ (c.toNat : Int) = 45 ∨ (c.toNat : Int) = 36 ∨ (c.toNat : Int) = 47) := by
    rw [Bool.eq_iff_iff, List.contains_iff_mem, decide_eq_true_eq]
    simp only [signs, List.mem_cons, List.not_mem_nil, or_false]
    have e : ∀ n : UInt8, c = n ↔ (c.toNat : Int) = (n.toNat : Int) := fun n => ⟨fun h => by rw [h], fun h => UInt8.toNat_inj.1 (by omega)⟩
    rw [e 46, e 95, e 45, e 36, e 47]
    exact Iff.rfl
  have at_ : atC c = true ↔ (((97 : Int) ≤ (c.toNat : Int) ∧ (c.toNat : Int) ≤ 122) ∨ ((65 : Int) ≤ (c.toNat : Int) ∧ (c.toNat : Int) ≤ 90) ∨ ((48 : Int) ≤ (c.toNat : Int) ∧ (c.toNat : Int) ≤ 57) ∨
      (c.toNat : Int) = 46 ∨ (c.toNat : Int) = 95 ∨ (c.toNat : Int) = 45 ∨ (c.toNat : Int) = 36 ∨ (c.toNat : Int) = 47) := by
    unfold atC
    rw [sg]
    simp only [Bool.or_eq_true, Bool.and_eq_true, decide_eq_true_eq]
    omega
  by_cases h : atC c = true
  · exact .inl ⟨h, at_.1 h⟩
  · have hn := mt at_.2 h
    have nb : ∀ n : Int, (c.toNat : Int) ≠ n → ((c.toNat : Int) == n) = false := fun n h => by simpa using h
    exact .inr ⟨by simpa using h, nb _ (by omega), nb _ (by omega), nb _ (by omega), nb _ (by omega), nb _ (by omega), by omega⟩

set_option maxHeartbeats 4000000 in
theorem refAtom_any (s : ByteArray) (w : World) : Calls Tryd.prog 53 #[.string s] w fun e w' => e = .returned (.bool (atB s)) ∧ w = w' := by
  by_cases h1 : s.size < 1
  · have HF := Lib.hid (atB_short h1)
    have h1' : (s.size : Int) < 1 := by omega
    go_enter Tryd.func53, Tryd.ntmps53
    go_wp2_with fail
    go_ret
    exact ⟨ret_bool HF.out.symm, rfl⟩
  by_cases h2 : 24 < s.size
  · have HF := Lib.hid (atB_long h2)
    have h1' : 1 ≤ (s.size : Int) := by omega
    have h2' : 24 < (s.size : Int) := by omega
    clear h1
    go_enter Tryd.func53, Tryd.ntmps53
    go_wp2_with fail
    go_ret
    exact ⟨ret_bool HF.out.symm, rfl⟩
  have h1' : 1 ≤ (s.size : Int) := by omega
  have h2' : (s.size : Int) ≤ 24 := by omega
  clear h1 h2
  go_enter Tryd.func53, Tryd.ntmps53
  go_wp2_with fail
  go_loop [15] (fun s15 => ∃ k : Nat, k ≤ s.size ∧ s15 = .int .i64 k ∧ Hid ((s.data.toList.take k).all atC = true)) (fun s15 => s.size - (intOf s15).toNat)
  case atStart => exact ⟨0, Nat.zero_le _, rfl, rfl⟩
  case round =>
    obtain ⟨k, hk, rfl, HT⟩ := hrel
    by_cases hlt : k < s.size
    · rcases kinds s[k] with ⟨hc, hK⟩ | ⟨hc, b1, b2, b3, b4, b5, hK⟩
      · have HC := Lib.hid hc
        clear hc
        rcases hK with ⟨h, h'⟩ | ⟨h, h'⟩ | ⟨h, h'⟩ | h | h | h | h | h
        · go_wp2_with fail
          go_round
          case rel => exact ⟨k + 1, by omega, by go_num, by rw [atC_snoc _ _ hlt, HT.out, HC.out]; rfl⟩
          case measure => simp [intOf]; omega
        · have g1 : (s[k].toNat : Int) < 97 := by omega
          go_wp2_with fail
          go_round
          case rel => exact ⟨k + 1, by omega, by go_num, by rw [atC_snoc _ _ hlt, HT.out, HC.out]; rfl⟩
          case measure => simp [intOf]; omega
        · have g1 : (s[k].toNat : Int) < 97 := by omega
          have g2 : (s[k].toNat : Int) < 65 := by omega
          go_wp2_with fail
          go_round
          case rel => exact ⟨k + 1, by omega, by go_num, by rw [atC_snoc _ _ hlt, HT.out, HC.out]; rfl⟩
          case measure => simp [intOf]; omega
        all_goals
          go_wp2_with fail
          go_round
          case rel => exact ⟨k + 1, by omega, by go_num, by rw [atC_snoc _ _ hlt, HT.out, HC.out]; rfl⟩
          case measure => simp [intOf]; omega
      · have HF := Lib.hid (atB_bad hlt hc)
        clear hc
        have n1 : ((s[k].toNat : Int) != 46) = true := by rw [bne, b1]; rfl
        have n2 : ((s[k].toNat : Int) != 95) = true := by rw [bne, b2]; rfl
        have n3 : ((s[k].toNat : Int) != 45) = true := by rw [bne, b3]; rfl
        have n4 : ((s[k].toNat : Int) != 36) = true := by rw [bne, b4]; rfl
        have n5 : ((s[k].toNat : Int) != 47) = true := by rw [bne, b5]; rfl
        clear b1 b2 b3 b4 b5
        rcases hK with h | ⟨h, h'⟩ | ⟨h, h'⟩ | h
        · go_wp2_with fail
          go_ret
          exact ⟨ret_bool HF.out.symm, rfl⟩
        · have g1 : (s[k].toNat : Int) < 97 := by omega
          have g2 : (48 : Int) ≤ (s[k].toNat : Int) := by omega
          go_wp2_with fail
          go_ret
          exact ⟨ret_bool HF.out.symm, rfl⟩
        · have g1 : (65 : Int) ≤ (s[k].toNat : Int) := by omega
          have g2 : (57 : Int) < (s[k].toNat : Int) := by omega
          have g3 : (48 : Int) ≤ (s[k].toNat : Int) := by omega
          go_wp2_with fail
          go_ret
          exact ⟨ret_bool HF.out.symm, rfl⟩
        · have g1 : (97 : Int) ≤ (s[k].toNat : Int) := by omega
          have g2 : (90 : Int) < (s[k].toNat : Int) := by omega
          have g3 : (57 : Int) < (s[k].toNat : Int) := by omega
          go_wp2_with fail
          go_ret
          exact ⟨ret_bool HF.out.symm, rfl⟩
    · obtain rfl : k = s.size := by omega
      go_wp2_with fail
      go_ret
      exact ⟨ret_bool (atB_good (by omega) (by omega) rfl HT.out).symm, rfl⟩
end Go.Proofs.YtdgcihgohkgecaaDoor.BxAtom
