/-
  Two texts alike in great and small letters; what Atom and May answer.
-/
import Derived.Test.YtmkbmdoglcimbaaDoorFlA
namespace Go.Proofs.YtmkbmdoglcimbaaDoor.FlB
open Go.RowKit Go.Proofs.YtmkbmdoglcimbaaDoor.FlA

theorem quiet_left {P : Program} {f : FuncId} {args : Array Value} {w : World} {n : Nat} {v : Value}
    (h : Calls P f args (w.drewN n) fun e w' => e = .returned v ∧ w.drewN n = w') : Calls P f args (w.drewN n) fun e w'' => e = .returned v ∧ ∃ m, w'' = w.drewN m :=
  h.mono fun _ _ ⟨he, hm⟩ => ⟨he, n, hm.symm⟩

def Drawn (w w' : World) : Prop := ∃ n, w' = w.drewN n
theorem Drawn.refl (w : World) : Drawn w w := ⟨0, rfl⟩
theorem Drawn.drewN {w w' : World} (h : Drawn w w') (n : Nat) : Drawn w (w'.drewN n) := by
  obtain ⟨m, rfl⟩ := h
  exact ⟨m + n, World.drewN_drewN _ _ _⟩
theorem below_drewN {B : Nat} {a w : World} (h : Below B a w) (n : Nat) : Below B a (w.drewN n) := ⟨h.os, h.tape, h.output, h.size, h.block⟩
theorem Drawn.below {w w' : World} (h : Drawn w w') (B : Nat) : Below B w w' := by
  obtain ⟨m, rfl⟩ := h
  exact below_drewN (Below.refl _ _) m

def alB (a b : ByteArray) : Bool := a.data.toList.map sm == b.data.toList.map sm
theorem map_snoc (f : UInt8 → Int) (s : ByteArray) (k : Nat) (h : k < s.size) : (s.data.toList.take (k + 1)).map f = (s.data.toList.take k).map f ++ [f s[k]] := by
  rw [List.take_succ_eq_append_getElem (by simpa using h), List.map_append]; rfl
theorem alB_len {a b : ByteArray} (h : a.size ≠ b.size) : alB a b = false := by
  unfold alB
  rw [beq_eq_false_iff_ne]
  intro e
  have := congrArg List.length e
  simp at this
  exact h this
theorem alB_ne {a b : ByteArray} {k : Nat} (ha : k < a.size) (hb : k < b.size) (h : sm a[k] ≠ sm b[k]) : alB a b = false := by
  unfold alB
  rw [beq_eq_false_iff_ne]
  intro e
  have := congrArg (fun l => l[k]?) e
  simp [ha, hb] at this
  exact h this
theorem alB_all {a b : ByteArray} {k : Nat} (hk : k = a.size) (hs : a.size = b.size) (h : (a.data.toList.take k).map sm = (b.data.toList.take k).map sm) : alB a b = true := by
  unfold alB
  rw [List.take_of_length_le (by simp; omega), List.take_of_length_le (by simp; omega)] at h
  rw [h]; simp

def AlPost (a b : ByteArray) (w : World) (e : Ending) (w' : World) : Prop := e = .returned (.bool (alB a b)) ∧ Drawn w w'

set_option maxHeartbeats 1000000 in
theorem alike_any (a b : ByteArray) (w : World) (ha : a.size ≤ maxLen) (_hb : b.size ≤ maxLen) : Calls Tryd.prog 101 #[.string a, .string b] w (AlPost a b w) := by
  unfold maxLen at ha
  by_cases hs : a.size = b.size
  · have hsb : ((a.size : Int) != (b.size : Int)) = false := by rw [hs]; simp
    have hs1 : a.size ≤ b.size := by omega
    have hs2 : b.size ≤ a.size := by omega
    have HS := Lib.hid hs
    clear hs
    go_enter Tryd.func101, Tryd.ntmps101
    go_wp2_with fail
    clear hsb
    go_loopw [13] (fun s13 wr => ∃ k : Nat, k ≤ a.size ∧ s13 = .int .i64 k ∧ Hid ((a.data.toList.take k).map sm = (b.data.toList.take k).map sm) ∧ Hid (Drawn w wr)) (fun s13 _ => a.size - (intOf s13).toNat)
    case atStart => exact ⟨0, Nat.zero_le _, rfl, rfl, Drawn.refl w⟩
    case round =>
      obtain ⟨k, hk, rfl, HT, HD⟩ := hrel
      by_cases hlt : k < a.size
      · have hltb : k < b.size := by omega
        have g1 : (k : Int) < a.size := by omega
        have g2 : (k : Int) < b.size := by omega
        by_cases hq : sm a[k] = sm b[k]
        · have hqb : (sm a[k] != sm b[k]) = false := by rw [hq]; simp
          have HQ := Lib.hid hq
          clear hq
          go_wp2_with fail
          go_quiet ((go_at_call 111; exact quiet_left (small_any _ _)))
          go_wp2_with fail
          go_roundw
          case rel => exact ⟨k + 1, by omega, by go_num, by rw [map_snoc _ _ _ hlt, map_snoc _ _ _ hltb, HT.out, HQ.out]; exact rfl, HD.out.drewN _⟩
          case measure => simp [intOf]; omega
        · have hqb : (sm a[k] != sm b[k]) = true := by simpa using hq
          have HF := Lib.hid (alB_ne hlt hltb hq)
          clear hq
          go_wp2_with fail
          go_quiet ((go_at_call 111; exact quiet_left (small_any _ _)))
          go_wp2_with fail
          go_ret
          exact ⟨ret_bool HF.out.symm, HD.out.drewN _⟩
      · obtain rfl : k = a.size := by omega
        go_wp2_with fail
        go_ret
        exact ⟨ret_bool (alB_all rfl HS.out HT.out).symm, HD.out⟩
  · have hf := alB_len hs
    have hsb : ((a.size : Int) != (b.size : Int)) = true := by simp; omega
    have HF := Lib.hid hf
    clear hf hs
    go_enter Tryd.func101, Tryd.ntmps101
    go_wp2_with fail
    go_ret
    exact ⟨ret_bool HF.out.symm, Drawn.refl w⟩

/-- Is the text an atom? -/
def atB (s : ByteArray) : Bool := decide (1 ≤ s.size) && decide (s.size ≤ 24) && s.data.toList.all atC
theorem atB_short {s : ByteArray} (h : s.size < 1) : atB s = false := by unfold atB; rw [decide_eq_false (show ¬ 1 ≤ s.size by omega)]; rfl
theorem atB_long {s : ByteArray} (h : 24 < s.size) : atB s = false := by unfold atB; rw [decide_eq_false (show ¬ s.size ≤ 24 by omega)]; simp
theorem atB_bad {s : ByteArray} {k : Nat} (h : k < s.size) (hc : atC s[k] = false) : atB s = false := by
  unfold atB
  have : s.data.toList.all atC = false := by
    rw [List.all_eq_false]
    exact ⟨s.data[k]'h, by simp, by have e : s.data[k]'h = s[k] := rfl; rw [e, hc]; decide⟩
  rw [this]; simp
theorem atB_good {s : ByteArray} {k : Nat} (h1 : 1 ≤ s.size) (h2 : s.size ≤ 24) (hk : k = s.size) (h : (s.data.toList.take k).all atC = true) : atB s = true := by
  unfold atB
  rw [List.take_of_length_le (by simp; omega)] at h
  rw [h, decide_eq_true h1, decide_eq_true h2]; rfl
theorem all_snoc (s : ByteArray) (k : Nat) (h : k < s.size) : (s.data.toList.take (k + 1)).all atC = ((s.data.toList.take k).all atC && atC s[k]) := by
  rw [List.take_succ_eq_append_getElem (by simpa using h), List.all_append]; simp; rfl

set_option maxHeartbeats 1000000 in
theorem atom_any (s : ByteArray) (w : World) : Calls Tryd.prog 58 #[.string s] w fun e w' => e = .returned (.bool (atB s)) ∧ w = w' := by
  by_cases h1 : s.size < 1
  · have HF := Lib.hid (atB_short h1)
    have h1' : (s.size : Int) < 1 := by omega
    go_enter Tryd.func58, Tryd.ntmps58
    go_wp2_with fail
    go_ret
    exact ⟨ret_bool HF.out.symm, rfl⟩
  · by_cases h2 : 24 < s.size
    · have HF := Lib.hid (atB_long h2)
      have h1' : 1 ≤ (s.size : Int) := by omega
      have h2' : 24 < (s.size : Int) := by omega
      clear h1
      go_enter Tryd.func58, Tryd.ntmps58
      go_wp2_with fail
      go_ret
      exact ⟨ret_bool HF.out.symm, rfl⟩
    · have h1' : 1 ≤ (s.size : Int) := by omega
      have h2' : (s.size : Int) ≤ 24 := by omega
      clear h1 h2
      go_enter Tryd.func58, Tryd.ntmps58
      go_wp2_with fail
      go_loop [14] (fun s14 => ∃ k : Nat, k ≤ s.size ∧ s14 = .int .i64 k ∧ Hid ((s.data.toList.take k).all atC = true)) (fun s14 => s.size - (intOf s14).toNat)
      case atStart => exact ⟨0, Nat.zero_le _, rfl, rfl⟩
      case round =>
        obtain ⟨k, hk, rfl, HT⟩ := hrel
        by_cases hlt : k < s.size
        · have C := fun w => ofAtom_any s[k] w
          cases hc : atC s[k] with
          | true =>
            rw [hc] at C
            have HC := Lib.hid hc
            have K := Lib.hid C
            clear hc C
            go_wp2_with (go_at_call 83; refine (K.out _).mono ?_; rintro e w' ⟨rfl, rfl⟩)
            go_round
            case rel => exact ⟨k + 1, by omega, by go_num, by rw [all_snoc _ _ hlt, HT.out, HC.out]; rfl⟩
            case measure => simp [intOf]; omega
          | false =>
            rw [hc] at C
            have HF := Lib.hid (atB_bad hlt hc)
            have K := Lib.hid C
            clear hc C
            go_wp2_with (go_at_call 83; refine (K.out _).mono ?_; rintro e w' ⟨rfl, rfl⟩)
            go_ret
            exact ⟨ret_bool HF.out.symm, rfl⟩
        · obtain rfl : k = s.size := by omega
          go_wp2_with fail
          go_ret
          exact ⟨ret_bool (atB_good (by omega) (by omega) rfl HT.out).symm, rfl⟩

theorem may_any (s : ByteArray) (w : World) : Calls Tryd.prog 84 #[.string s] w fun e w' => e = .returned (.bool (atB s)) ∧ w = w' := by
  go_enter Tryd.func84, Tryd.ntmps84
  go_wp2_with (go_at_call 58; refine (atom_any _ _).mono ?_; rintro e w' ⟨rfl, rfl⟩)
  go_ret
  exact ⟨rfl, rfl⟩
end Go.Proofs.YtmkbmdoglcimbaaDoor.FlB
