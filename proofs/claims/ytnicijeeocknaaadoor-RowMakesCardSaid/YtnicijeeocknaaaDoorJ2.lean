/-
  FlA + FlB + FlK + FlC + FlM + FlD
-/
import Derived.Test.YtnicijeeocknaaaDoorRows
import Derived.Below
import Derived.Lib.Hide
import Derived.KernelRfl
import Derived.Deep.Draws
import Derived.WalkKit
import Derived.BigQuiet
import Derived.Deep.QuietTactic
import Derived.Lib.Bytealg
import Derived.Outline
import Derived.IntWalk
import Derived.Laws.Rows
import Derived.OpenShut
import Derived.ProofKit
import Derived.LaidMore
import Derived.Maps.OwnSet
import Derived.Maps.AppendAt
set_option linter.unusedVariables false
set_option linter.unusedSimpArgs false
namespace Go.Proofs.YtnicijeeocknaaaDoor.FlA
open Go.RowKit

theorem ret_int {k : IntKind} {a b : Int} (h : a = b) : Ending.returned (.int k a) = .returned (.int k b) := by rw [h]
theorem ret_bool {a b : Bool} (h : a = b) : Ending.returned (.bool a) = .returned (.bool b) := by rw [h]
/-- A great letter as a small one. -/
def sm (c : UInt8) : Int := if 65 ≤ (c.toNat : Int) ∧ (c.toNat : Int) ≤ 90 then (c.toNat : Int) + 32 else (c.toNat : Int)

set_option maxHeartbeats 400000 in
theorem small_any (c : UInt8) (w : World) : Calls Tryd.prog 73 #[.int .u8 (c.toNat : Int)] w fun e w' => e = .returned (.int .u8 (sm c)) ∧ w = w' := by
  have hc : (c.toNat : Int) < 256 := by have := c.toNat_lt; omega
  by_cases h1 : 65 ≤ (c.toNat : Int)
  · by_cases h2 : (c.toNat : Int) ≤ 90
    · have hs : sm c = (c.toNat : Int) + 32 := by unfold sm; rw [if_pos ⟨h1, h2⟩]
      rw [hs]
      clear hs
      go_enter Tryd.func73, Tryd.ntmps73
      go_wp2
      go_ret
      refine ⟨?_, rfl⟩
      exact ret_int (by omega)
    · have hs : sm c = (c.toNat : Int) := by unfold sm; rw [if_neg (by omega)]
      rw [hs]
      clear hs
      go_enter Tryd.func73, Tryd.ntmps73
      go_wp2
      go_ret
      exact ⟨rfl, rfl⟩
  · have hs : sm c = (c.toNat : Int) := by unfold sm; rw [if_neg (by omega)]
    rw [hs]
    clear hs
    go_enter Tryd.func73, Tryd.ntmps73
    go_wp2
    go_ret
    exact ⟨rfl, rfl⟩

set_option maxHeartbeats 1000000 in
set_option maxRecDepth 100000 in
theorem idx25 (s : ByteArray) (c : Int) (w : World) : Calls Tryd.prog 72 #[.string s, .int .u8 c] w fun e w' => e = .returned (.int .i64 (Lib.indexByte s.data.toList c.toNat.toUInt8)) ∧ w = w' := by
  go_enter Tryd.func72, Tryd.ntmps72
  go_wp2
  rw [run_callFunc_extern Tryd.func78 (by kernel_rfl) (by kernel_rfl) (by kernel_rfl) (e := Extern.BytealgIndexByte.indexByte) (by kernel_rfl), Lib.run_indexByteString]
  simp only [Result.andThen]
  rw [Oper.upon_value]
  go_wp2
  go_ret
  exact ⟨rfl, rfl⟩
theorem idx22 (s : ByteArray) (c : Int) (w : World) : Calls Tryd.prog 69 #[.string s, .int .u8 c] w fun e w' => e = .returned (.int .i64 (Lib.indexByte s.data.toList c.toNat.toUInt8)) ∧ w = w' := by
  go_enter Tryd.func69, Tryd.ntmps69
  go_wp2_with (go_at_call 72; refine (idx25 _ _ _).mono ?_; rintro e w' ⟨rfl, rfl⟩)
  go_ret
  exact ⟨rfl, rfl⟩

def signs : List UInt8 := [46, 95, 45, 36, 47]
/-- May the byte stand in an atom? -/
def atC (c : UInt8) : Bool :=
  (decide (97 ≤ c.toNat) && decide (c.toNat ≤ 122)) || (decide (65 ≤ c.toNat) && decide (c.toNat ≤ 90)) || (decide (48 ≤ c.toNat) && decide (c.toNat ≤ 57)) || signs.contains c

theorem signs_idx (c : UInt8) : decide ((0 : Int) ≤ Lib.indexByte signs c) = signs.contains c := by
  unfold signs
  simp only [Lib.indexByte, List.contains_cons, List.contains_nil]
  by_cases h1 : c = 46
  · subst h1; rfl
  by_cases h2 : c = 95
  · subst h2; rfl
  by_cases h3 : c = 45
  · subst h3; rfl
  by_cases h4 : c = 36
  · subst h4; rfl
  by_cases h5 : c = 47
  · subst h5; rfl
  have g1 : ((46 : UInt8) == c) = false := by simpa using fun h => h1 h.symm
  have g2 : ((95 : UInt8) == c) = false := by simpa using fun h => h2 h.symm
  have g3 : ((45 : UInt8) == c) = false := by simpa using fun h => h3 h.symm
  have g4 : ((36 : UInt8) == c) = false := by simpa using fun h => h4 h.symm
  have g5 : ((47 : UInt8) == c) = false := by simpa using fun h => h5 h.symm
  have k1 : (c == (46 : UInt8)) = false := by simpa using h1
  have k2 : (c == (95 : UInt8)) = false := by simpa using h2
  have k3 : (c == (45 : UInt8)) = false := by simpa using h3
  have k4 : (c == (36 : UInt8)) = false := by simpa using h4
  have k5 : (c == (47 : UInt8)) = false := by simpa using h5
  simp [g1, g2, g3, g4, g5, k1, k2, k3, k4, k5]

theorem byte_back (c : UInt8) : ((c.toNat : Int)).toNat.toUInt8 = c := by simp

set_option maxHeartbeats 400000 in
theorem ofAtom_let (c : UInt8) (w : World) (h : (97 ≤ (c.toNat : Int) ∧ (c.toNat : Int) ≤ 122) ∨ (65 ≤ (c.toNat : Int) ∧ (c.toNat : Int) ≤ 90) ∨ (48 ≤ (c.toNat : Int) ∧ (c.toNat : Int) ≤ 57)) :
    Calls Tryd.prog 61 #[.int .u8 (c.toNat : Int)] w fun e w' => e = .returned (.bool true) ∧ w = w' := by
  rcases h with ⟨h1, h2⟩ | ⟨h1, h2⟩ | ⟨h1, h2⟩
  all_goals
    go_enter Tryd.func61, Tryd.ntmps61
    go_wp2
    go_ret
    exact ⟨rfl, rfl⟩
set_option maxHeartbeats 400000 in
theorem ofAtom_sign (c : UInt8) (w : World) (h1 : ¬ (97 ≤ (c.toNat : Int) ∧ (c.toNat : Int) ≤ 122)) (h2 : ¬ (65 ≤ (c.toNat : Int) ∧ (c.toNat : Int) ≤ 90)) (h3 : ¬ (48 ≤ (c.toNat : Int) ∧ (c.toNat : Int) ≤ 57)) :
    Calls Tryd.prog 61 #[.int .u8 (c.toNat : Int)] w fun e w' => e = .returned (.bool (signs.contains c)) ∧ w = w' := by
  have I := fun w => idx22 ⟨#[46, 95, 45, 36, 47]⟩ (c.toNat : Int) w
  have hs : Lib.indexByte (ByteArray.data ⟨#[46, 95, 45, 36, 47]⟩).toList (c.toNat : Int).toNat.toUInt8 = Lib.indexByte signs c := by rw [byte_back]; rfl
  rw [hs] at I
  have hd := signs_idx c
  obtain ⟨n, hn⟩ : ∃ n, n = Lib.indexByte signs c := ⟨_, rfl⟩
  rw [← hn] at I hd
  rw [← hd]
  clear hs hd hn
  have J := Lib.hid I
  clear I
  have hr : (c.toNat : Int) < 48 ∨ (57 < (c.toNat : Int) ∧ (c.toNat : Int) < 65) ∨ (90 < (c.toNat : Int) ∧ (c.toNat : Int) < 97) ∨ 122 < (c.toNat : Int) := by omega
  clear h1 h2 h3
  rcases hr with h | ⟨h, h'⟩ | ⟨h, h'⟩ | h
  all_goals
    go_enter Tryd.func61, Tryd.ntmps61
    go_wp2_with (go_at_call 69; refine (J.out _).mono ?_; rintro e w' ⟨rfl, rfl⟩)
    go_ret
    exact ⟨rfl, rfl⟩
theorem ofAtom_any (c : UInt8) (w : World) : Calls Tryd.prog 61 #[.int .u8 (c.toNat : Int)] w fun e w' => e = .returned (.bool (atC c)) ∧ w = w' := by
  by_cases h : (97 ≤ (c.toNat : Int) ∧ (c.toNat : Int) ≤ 122) ∨ (65 ≤ (c.toNat : Int) ∧ (c.toNat : Int) ≤ 90) ∨ (48 ≤ (c.toNat : Int) ∧ (c.toNat : Int) ≤ 57)
  · have e : atC c = true := by unfold atC; simp only [Bool.or_eq_true, Bool.and_eq_true, decide_eq_true_eq]; omega
    rw [e]; exact ofAtom_let c w h
  · have e : atC c = signs.contains c := by
      unfold atC
      rw [show (decide (97 ≤ c.toNat) && decide (c.toNat ≤ 122)) = false by simp; omega, show (decide (65 ≤ c.toNat) && decide (c.toNat ≤ 90)) = false by simp; omega, show (decide (48 ≤ c.toNat) && decide (c.toNat ≤ 57)) = false by simp; omega]
      rfl
    rw [e]
    simp only [not_or] at h
    exact ofAtom_sign c w h.1 h.2.1 h.2.2
end Go.Proofs.YtnicijeeocknaaaDoor.FlA

namespace Go.Proofs.YtnicijeeocknaaaDoor.FlB
open Go.RowKit Go.Proofs.YtnicijeeocknaaaDoor.FlA

theorem quiet_left {P : Program} {f : FuncId} {args : Array Value} {w : World} {n : Nat} {v : Value}
    (h : Calls P f args (w.drewN n) fun e w' => e = .returned v ∧ w.drewN n = w') : Calls P f args (w.drewN n) fun e w'' => e = .returned v ∧ ∃ m, w'' = w.drewN m :=
  h.mono fun _ _ ⟨he, hm⟩ => ⟨he, n, hm.symm⟩

def Drawn (w w' : World) : Prop := ∃ n, w' = w.drewN n
theorem Drawn.refl (w : World) : Drawn w w := ⟨0, rfl⟩
theorem Drawn.drewN {w w' : World} (h : Drawn w w') (n : Nat) : Drawn w (w'.drewN n) := by
  obtain ⟨m, rfl⟩ := h
  exact ⟨m + n, World.drewN_drewN _ _ _⟩
theorem below_drewN {B : Nat} {a w : World} (h : Below B a w) (n : Nat) : Below B a (w.drewN n) := ⟨h.os, h.tape, h.output, h.size, h.block⟩
theorem Drawn.below {w w' : World} (h : Drawn w w') (B : Nat) : Below B w w' := by
  obtain ⟨m, rfl⟩ := h
  exact below_drewN (Below.refl _ _) m

def alB (a b : ByteArray) : Bool := a.data.toList.map sm == b.data.toList.map sm
theorem map_snoc (f : UInt8 → Int) (s : ByteArray) (k : Nat) (h : k < s.size) : (s.data.toList.take (k + 1)).map f = (s.data.toList.take k).map f ++ [f s[k]] := by
  rw [List.take_succ_eq_append_getElem (by simpa using h), List.map_append]; rfl
theorem alB_len {a b : ByteArray} (h : a.size ≠ b.size) : alB a b = false := by
  unfold alB
  rw [beq_eq_false_iff_ne]
  intro e
  have := congrArg List.length e
  simp at this
  exact h this
theorem alB_ne {a b : ByteArray} {k : Nat} (ha : k < a.size) (hb : k < b.size) (h : sm a[k] ≠ sm b[k]) : alB a b = false := by
  unfold alB
  rw [beq_eq_false_iff_ne]
  intro e
  have := congrArg (fun l => l[k]?) e
  simp [ha, hb] at this
  exact h this
theorem alB_all {a b : ByteArray} {k : Nat} (hk : k = a.size) (hs : a.size = b.size) (h : (a.data.toList.take k).map sm = (b.data.toList.take k).map sm) : alB a b = true := by
  unfold alB
  rw [List.take_of_length_le (by simp; omega), List.take_of_length_le (by simp; omega)] at h
  rw [h]; simp

def AlPost (a b : ByteArray) (w : World) (e : Ending) (w' : World) : Prop := e = .returned (.bool (alB a b)) ∧ Drawn w w'

set_option maxHeartbeats 1000000 in
theorem alike_any (a b : ByteArray) (w : World) (ha : a.size ≤ maxLen) (_hb : b.size ≤ maxLen) : Calls Tryd.prog 70 #[.string a, .string b] w (AlPost a b w) := by
  unfold maxLen at ha
  by_cases hs : a.size = b.size
  · have hsb : ((a.size : Int) != (b.size : Int)) = false := by rw [hs]; simp
    have hs1 : a.size ≤ b.size := by omega
    have hs2 : b.size ≤ a.size := by omega
    have HS := Lib.hid hs
    clear hs
    go_enter Tryd.func70, Tryd.ntmps70
    go_wp2_with fail
    clear hsb
    go_loopw [13] (fun s13 wr => ∃ k : Nat, k ≤ a.size ∧ s13 = .int .i64 k ∧ Hid ((a.data.toList.take k).map sm = (b.data.toList.take k).map sm) ∧ Hid (Drawn w wr)) (fun s13 _ => a.size - (intOf s13).toNat)
    case atStart => exact ⟨0, Nat.zero_le _, rfl, rfl, Drawn.refl w⟩
    case round =>
      obtain ⟨k, hk, rfl, HT, HD⟩ := hrel
      by_cases hlt : k < a.size
      · have hltb : k < b.size := by omega
        have g1 : (k : Int) < a.size := by omega
        have g2 : (k : Int) < b.size := by omega
        by_cases hq : sm a[k] = sm b[k]
        · have hqb : (sm a[k] != sm b[k]) = false := by rw [hq]; simp
          have HQ := Lib.hid hq
          clear hq
          go_wp2_with fail
          go_quiet ((go_at_call 73; exact quiet_left (small_any _ _)))
          go_wp2_with fail
          go_roundw
          case rel => exact ⟨k + 1, by omega, by go_num, by rw [map_snoc _ _ _ hlt, map_snoc _ _ _ hltb, HT.out, HQ.out]; exact rfl, HD.out.drewN _⟩
          case measure => simp [intOf]; omega
        · have hqb : (sm a[k] != sm b[k]) = true := by simpa using hq
          have HF := Lib.hid (alB_ne hlt hltb hq)
          clear hq
          go_wp2_with fail
          go_quiet ((go_at_call 73; exact quiet_left (small_any _ _)))
          go_wp2_with fail
          go_ret
          exact ⟨ret_bool HF.out.symm, HD.out.drewN _⟩
      · obtain rfl : k = a.size := by omega
        go_wp2_with fail
        go_ret
        exact ⟨ret_bool (alB_all rfl HS.out HT.out).symm, HD.out⟩
  · have hf := alB_len hs
    have hsb : ((a.size : Int) != (b.size : Int)) = true := by simp; omega
    have HF := Lib.hid hf
    clear hf hs
    go_enter Tryd.func70, Tryd.ntmps70
    go_wp2_with fail
    go_ret
    exact ⟨ret_bool HF.out.symm, Drawn.refl w⟩

/-- Is the text an atom? -/
def atB (s : ByteArray) : Bool := decide (1 ≤ s.size) && decide (s.size ≤ 24) && s.data.toList.all atC
theorem atB_short {s : ByteArray} (h : s.size < 1) : atB s = false := by unfold atB; rw [decide_eq_false (show ¬ 1 ≤ s.size by omega)]; rfl
theorem atB_long {s : ByteArray} (h : 24 < s.size) : atB s = false := by unfold atB; rw [decide_eq_false (show ¬ s.size ≤ 24 by omega)]; simp
theorem atB_bad {s : ByteArray} {k : Nat} (h : k < s.size) (hc : atC s[k] = false) : atB s = false := by
  unfold atB
  have : s.data.toList.all atC = false := by
    rw [List.all_eq_false]
    exact ⟨s.data[k]'h, by simp, by have e : s.data[k]'h = s[k] := rfl; rw [e, hc]; decide⟩
  rw [this]; simp
theorem atB_good {s : ByteArray} {k : Nat} (h1 : 1 ≤ s.size) (h2 : s.size ≤ 24) (hk : k = s.size) (h : (s.data.toList.take k).all atC = true) : atB s = true := by
  unfold atB
  rw [List.take_of_length_le (by simp; omega)] at h
  rw [h, decide_eq_true h1, decide_eq_true h2]; rfl
theorem all_snoc (s : ByteArray) (k : Nat) (h : k < s.size) : (s.data.toList.take (k + 1)).all atC = ((s.data.toList.take k).all atC && atC s[k]) := by
  rw [List.take_succ_eq_append_getElem (by simpa using h), List.all_append]; simp; rfl

set_option maxHeartbeats 1000000 in
theorem atom_any (s : ByteArray) (w : World) : Calls Tryd.prog 40 #[.string s] w fun e w' => e = .returned (.bool (atB s)) ∧ w = w' := by
  by_cases h1 : s.size < 1
  · have HF := Lib.hid (atB_short h1)
    have h1' : (s.size : Int) < 1 := by omega
    go_enter Tryd.func40, Tryd.ntmps40
    go_wp2_with fail
    go_ret
    exact ⟨ret_bool HF.out.symm, rfl⟩
  · by_cases h2 : 24 < s.size
    · have HF := Lib.hid (atB_long h2)
      have h1' : 1 ≤ (s.size : Int) := by omega
      have h2' : 24 < (s.size : Int) := by omega
      clear h1
      go_enter Tryd.func40, Tryd.ntmps40
      go_wp2_with fail
      go_ret
      exact ⟨ret_bool HF.out.symm, rfl⟩
    · have h1' : 1 ≤ (s.size : Int) := by omega
      have h2' : (s.size : Int) ≤ 24 := by omega
      clear h1 h2
      go_enter Tryd.func40, Tryd.ntmps40
      go_wp2_with fail
      go_loop [14] (fun s14 => ∃ k : Nat, k ≤ s.size ∧ s14 = .int .i64 k ∧ Hid ((s.data.toList.take k).all atC = true)) (fun s14 => s.size - (intOf s14).toNat)
      case atStart => exact ⟨0, Nat.zero_le _, rfl, rfl⟩
      case round =>
        obtain ⟨k, hk, rfl, HT⟩ := hrel
        by_cases hlt : k < s.size
        · have C := fun w => ofAtom_any s[k] w
          cases hc : atC s[k] with
          | true =>
            rw [hc] at C
            have HC := Lib.hid hc
            have K := Lib.hid C
            clear hc C
            go_wp2_with (go_at_call 61; refine (K.out _).mono ?_; rintro e w' ⟨rfl, rfl⟩)
            go_round
            case rel => exact ⟨k + 1, by omega, by go_num, by rw [all_snoc _ _ hlt, HT.out, HC.out]; rfl⟩
            case measure => simp [intOf]; omega
          | false =>
            rw [hc] at C
            have HF := Lib.hid (atB_bad hlt hc)
            have K := Lib.hid C
            clear hc C
            go_wp2_with (go_at_call 61; refine (K.out _).mono ?_; rintro e w' ⟨rfl, rfl⟩)
            go_ret
            exact ⟨ret_bool HF.out.symm, rfl⟩
        · obtain rfl : k = s.size := by omega
          go_wp2_with fail
          go_ret
          exact ⟨ret_bool (atB_good (by omega) (by omega) rfl HT.out).symm, rfl⟩

theorem may_any (s : ByteArray) (w : World) : Calls Tryd.prog 62 #[.string s] w fun e w' => e = .returned (.bool (atB s)) ∧ w = w' := by
  go_enter Tryd.func62, Tryd.ntmps62
  go_wp2_with (go_at_call 40; refine (atom_any _ _).mono ?_; rintro e w' ⟨rfl, rfl⟩)
  go_ret
  exact ⟨rfl, rfl⟩
end Go.Proofs.YtnicijeeocknaaaDoor.FlB

namespace Go.Proofs.YtnicijeeocknaaaDoor.FlK
open Go.RowKit

def nAnswered : ByteArray := ⟨#[92, 65, 110, 115, 119, 101, 114, 101, 100]⟩
def nFlagged : ByteArray := ⟨#[92, 70, 108, 97, 103, 103, 101, 100]⟩
def nDeleted : ByteArray := ⟨#[92, 68, 101, 108, 101, 116, 101, 100]⟩
def nSeen : ByteArray := ⟨#[92, 83, 101, 101, 110]⟩
def nDraft : ByteArray := ⟨#[92, 68, 114, 97, 102, 116]⟩
/-- The k-th flag's bit and name. -/
def bitAt (k : Nat) : Int := ((1 <<< k : Nat) : Int)
def nameAt (k : Nat) : ByteArray := match k with | 0 => nAnswered | 1 => nFlagged | 2 => nDeleted | 3 => nSeen | _ => nDraft
def cells : Array Value := #[.int .i64 1, .string nAnswered, .int .i64 2, .string nFlagged, .int .i64 4, .string nDeleted, .int .i64 8, .string nSeen, .int .i64 16, .string nDraft]
/-- The table as the program lays it. -/
def Names (w : World) : Prop := ∃ t fr, w.heap[0]? = some (.cells cells t fr)
set_option maxRecDepth 100000 in
theorem Names.size {w : World} (h : Names w) : 0 < w.heap.size := by
  obtain ⟨t, fr, h⟩ := h
  exact (Array.getElem?_eq_some_iff.1 h).1
set_option maxRecDepth 100000 in
theorem Names.below {B : Nat} {w w' : World} (h : Names w) (hb : Below B w w') (hB : 0 < B) : Names w' := by
  obtain ⟨t, fr, h⟩ := h
  exact ⟨t, fr, by rw [hb.block 0 hB]; exact h⟩

def laid : List (String × DataW Unit) := [("mailsack/flag.flagNames", Rows.laid_mailsack_flag_flagNames)]
set_option maxRecDepth 100000 in
theorem gNames : Tryd.prog.globalNamed "mailsack/flag.flagNames" = some 0 := by kernel_rfl
set_option maxRecDepth 100000 in
theorem tNames : (Tryd.prog.globals[0]?).map (·.type) = some 90 := by kernel_rfl

set_option maxRecDepth 100000 in
theorem names_of_laid {W : World} (h : laidMetH Tryd.prog laid W) : Names W := by
  rw [MakeChecks.laidMetH_plain _ _ _ (by kernel_rfl)] at h
  obtain ⟨ps, ⟨g, t, cs, fuel, p, q, hg, ht, hv, hd, _, _⟩, _, _⟩ := h
  obtain rfl := Option.some.inj (gNames.symm.trans hg)
  obtain rfl := Option.some.inj (tNames.symm.trans ht)
  have hcs : cs = cells := by
    obtain ⟨xs, m, rfl, hx, hlen, hn, hel⟩ := DataW.trod_array Tryd.underlying90 hd
    have c39 : Tryd.prog.cellsOf 89 = 2 := by kernel_rfl
    have c40 : Tryd.prog.cellsOf 90 = 10 := by kernel_rfl
    have c3 : Tryd.prog.cellsOf 3 = 1 := by kernel_rfl
    have c9 : Tryd.prog.cellsOf 9 = 1 := by kernel_rfl
    rw [c40] at hlen
    simp only [c39] at hel
    obtain ⟨l⟩ := cs
    simp only [Prod.mk.injEq] at hx
    have hx1 := hx.1
    unfold Rows.laid_mailsack_flag_flagNames at hx1
    simp only [DataW.agg.injEq] at hx1
    match l, hlen with
    | [c0, c1, c2, c3', c4, c5, c6, c7, c8, c9'], _ =>
    match xs, hn with
    | [x0, x1, x2, x3, x4], _ =>
    simp only [List.map_cons, List.map_nil, List.cons.injEq, and_true] at hx1
    obtain ⟨e0, e1, e2, e3, e4⟩ := hx1
    have one : ∀ (a b : Value) (x : DataW Unit × List MemPlace) (n : Int) (s : List UInt8), DataW.trod (fun _ => ()) Tryd.prog W 0 (fun _ => true) false m 89 [a, b] = some x → .agg [.lit (.int .i64 n), .lit (.string s)] = x.1 →
        a = .int .i64 n ∧ ∃ z : ByteArray, b = .string z ∧ z.data.toList = s := by
      intro a b x n s hx he
      obtain ⟨ys, m', rfl, hy, hly, hny, hey⟩ := DataW.trod_struct Tryd.underlying89 hx
      subst hy
      simp at hny
      match ys, hny with
      | [y0, y1], _ =>
      simp only [List.map_cons, List.map_nil, DataW.agg.injEq, List.cons.injEq, and_true] at he
      have h0 := hey 0 _ rfl
      have h1 := hey 1 _ rfl
      simp [c3, c9] at h0 h1
      obtain ⟨k, ek, hk, _⟩ := DataW.trod_int Tryd.underlying3 h0
      obtain ⟨z, ez, hz, _⟩ := DataW.trod_string Tryd.underlying9 h1
      simp at ek ez
      rw [hk, hz] at he
      simp at he
      exact ⟨by rw [ek, he.1], z, ez, he.2.symm⟩
    have h0 := one _ _ _ _ _ (hel 0 (by decide)) e0
    have h1 := one _ _ _ _ _ (hel 1 (by decide)) e1
    have h2 := one _ _ _ _ _ (hel 2 (by decide)) e2
    have h3 := one _ _ _ _ _ (hel 3 (by decide)) e3
    have h4 := one _ _ _ _ _ (hel 4 (by decide)) e4
    have sz : ∀ (z : ByteArray) (l : List UInt8), z.data.toList = l → z = ⟨l.toArray⟩ := by
      rintro ⟨⟨l⟩⟩ l' rfl; rfl
    obtain ⟨rfl, z0, rfl, hz0⟩ := h0
    obtain ⟨rfl, z1, rfl, hz1⟩ := h1
    obtain ⟨rfl, z2, rfl, hz2⟩ := h2
    obtain ⟨rfl, z3, rfl, hz3⟩ := h3
    obtain ⟨rfl, z4, rfl, hz4⟩ := h4
    rw [sz _ _ hz0, sz _ _ hz1, sz _ _ hz2, sz _ _ hz3, sz _ _ hz4]
    rfl
  subst hcs
  unfold World.var? at hv
  rw [gNames] at hv
  simp only [Option.bind_some] at hv
  split at hv
  · rename_i cs t fr hh
    injection hv with hv
    subst hv
    exact ⟨_, _, hh⟩
  · cases hv
end Go.Proofs.YtnicijeeocknaaaDoor.FlK

namespace Go.Proofs.YtnicijeeocknaaaDoor.FlC
open Go.RowKit Go.Proofs.YtnicijeeocknaaaDoor.FlK Go.Proofs.YtnicijeeocknaaaDoor.FlA Go.Proofs.YtnicijeeocknaaaDoor.FlB

def nameOf (b : Int) : ByteArray := if b = 1 then nAnswered else if b = 2 then nFlagged else if b = 4 then nDeleted else if b = 8 then nSeen else if b = 16 then nDraft else ⟨#[]⟩
def bitOf (s : ByteArray) : Int := if alB nAnswered s then 1 else if alB nFlagged s then 2 else if alB nDeleted s then 4 else if alB nSeen s then 8 else if alB nDraft s then 16 else 0

set_option maxRecDepth 100000 in
theorem five {P : Nat → Prop} (h0 : P 0) (h1 : P 1) (h2 : P 2) (h3 : P 3) (h4 : P 4) : ∀ k, k < 5 → P k := by
  intro k hk
  match k, hk with
  | 0, _ => exact h0
  | 1, _ => exact h1
  | 2, _ => exact h2
  | 3, _ => exact h3
  | 4, _ => exact h4
set_option maxRecDepth 100000 in
theorem nameOf_at : ∀ k, k < 5 → nameOf (bitAt k) = nameAt k := five rfl rfl rfl rfl rfl
set_option maxRecDepth 100000 in
theorem nameOf_none {b : Int} (h : ∀ j, j < 5 → bitAt j ≠ b) : nameOf b = ⟨#[]⟩ := by
  have h0 := h 0 (by decide)
  have h1 := h 1 (by decide)
  have h2 := h 2 (by decide)
  have h3 := h 3 (by decide)
  have h4 := h 4 (by decide)
  simp [bitAt] at h0 h1 h2 h3 h4
  unfold nameOf
  rw [if_neg (fun e => h0 e.symm), if_neg (fun e => h1 e.symm), if_neg (fun e => h2 e.symm), if_neg (fun e => h3 e.symm), if_neg (fun e => h4 e.symm)]
set_option maxRecDepth 100000 in
theorem bitOf_at {s : ByteArray} : ∀ k, k < 5 → (∀ j, j < k → alB (nameAt j) s = false) → alB (nameAt k) s = true → bitOf s = bitAt k := by
  refine five ?_ ?_ ?_ ?_ ?_
  · intro h hk
    simp only [nameAt] at hk
    unfold bitOf
    simp only [hk]; rfl
  · intro h hk
    have h0 := h 0 (by decide)
    simp only [nameAt] at h0 hk
    unfold bitOf
    simp only [h0, hk]; rfl
  · intro h hk
    have h0 := h 0 (by decide)
    have h1 := h 1 (by decide)
    simp only [nameAt] at h0 h1 hk
    unfold bitOf
    simp only [h0, h1, hk]; rfl
  · intro h hk
    have h0 := h 0 (by decide)
    have h1 := h 1 (by decide)
    have h2 := h 2 (by decide)
    simp only [nameAt] at h0 h1 h2 hk
    unfold bitOf
    simp only [h0, h1, h2, hk]; rfl
  · intro h hk
    have h0 := h 0 (by decide)
    have h1 := h 1 (by decide)
    have h2 := h 2 (by decide)
    have h3 := h 3 (by decide)
    simp only [nameAt] at h0 h1 h2 h3 hk
    unfold bitOf
    simp only [h0, h1, h2, h3, hk]; rfl
set_option maxRecDepth 100000 in
theorem bitOf_none {s : ByteArray} (h : ∀ j, j < 5 → alB (nameAt j) s = false) : bitOf s = 0 := by
  have h0 := h 0 (by decide)
  have h1 := h 1 (by decide)
  have h2 := h 2 (by decide)
  have h3 := h 3 (by decide)
  have h4 := h 4 (by decide)
  simp only [nameAt] at h0 h1 h2 h3 h4
  unfold bitOf
  simp only [h0, h1, h2, h3, h4]; rfl

set_option maxRecDepth 100000 in
theorem ret_str {a b : ByteArray} (h : a = b) : Ending.returned (.string a) = .returned (.string b) := by rw [h]
set_option maxRecDepth 100000 in
theorem upto {P : Nat → Prop} {k : Nat} (h : ∀ j, j < k → P j) (hk : P k) : ∀ j, j < k + 1 → P j := fun j hj => by
  by_cases e : j = k
  · subst e; exact hk
  · exact h j (by omega)
set_option maxRecDepth 100000 in
theorem nameAt_len (k : Nat) : (nameAt k).size ≤ maxLen := by
  unfold nameAt
  split <;> decide
set_option maxRecDepth 100000 in
theorem idxF : ∀ k, k < 5 → ∀ w : World, (Instr.index 90 (.agg cells) (.int .i64 (k : Nat))).run Tryd.prog w = .ok (.agg #[.int .i64 (bitAt k), .string (nameAt k)]) w :=
  five (fun _ => by kernel_rfl) (fun _ => by kernel_rfl) (fun _ => by kernel_rfl) (fun _ => by kernel_rfl) (fun _ => by kernel_rfl)

set_option maxRecDepth 100000 in
set_option maxHeartbeats 1000000 in
theorem bit_any (s : ByteArray) (w : World) (hn : Names w) (hs : s.size ≤ maxLen) : Calls Tryd.prog 63 #[.string s] w fun e w' => e = .returned (.int .i64 (bitOf s)) ∧ Below w.heap.size w w' := by
  obtain ⟨t, fr, hn⟩ := hn
  have HN := Lib.hid hn
  clear hn
  have HS := Lib.hid hs
  clear hs
  go_enter Tryd.func63, Tryd.ntmps63
  go_wp2_with (refine wpList_load_row rfl 90 _ rfl 0 rfl t cells fr _ HN.out Tryd.underlying90 rfl (by kernel_rfl) ?_)
  go_loopw [6] (fun s6 wr => ∃ k : Nat, k ≤ 5 ∧ s6 = .int .i64 k ∧ Hid (∀ j, j < k → alB (nameAt j) s = false) ∧ Hid (Below w.heap.size w wr)) (fun s6 _ => 5 - (intOf s6).toNat)
  case atStart => exact ⟨0, Nat.zero_le _, rfl, fun j hj => absurd hj (Nat.not_lt_zero j), Below.refl _ _⟩
  case round =>
    obtain ⟨k, hk, rfl, HT, HB⟩ := hrel
    by_cases hlt : k < 5
    · have I := idxF k hlt
      have L := nameAt_len k
      obtain ⟨x, hx⟩ : ∃ x, x = nameAt k := ⟨_, rfl⟩
      have HX := Lib.hid hx
      rw [← hx] at I L
      have C := fun w => alike_any x s w L HS.out
      unfold AlPost at C
      cases hq : alB x s with
      | true =>
        rw [hq] at C
        have HC := Lib.hid C
        have HQ := Lib.hid hq
        clear hx C hq L
        go_wp2_with (go_at_call 70; refine (HC.out _).mono ?_; rintro e w' ⟨rfl, n, rfl⟩)
        go_ret
        exact ⟨ret_int (bitOf_at k hlt HT.out (by rw [← HX.out]; exact HQ.out)).symm, below_drewN (HB.out.alloc HB.out.size _) _⟩
      | false =>
        rw [hq] at C
        have HC := Lib.hid C
        have HQ := Lib.hid hq
        clear hx C hq L
        go_wp2_with (go_at_call 70; refine (HC.out _).mono ?_; rintro e w' ⟨rfl, n, rfl⟩)
        go_roundw
        case rel => exact ⟨k + 1, by omega, by go_num, upto HT.out (by rw [← HX.out]; exact HQ.out), below_drewN (HB.out.alloc HB.out.size _) _⟩
        case measure => simp [intOf]; omega
    · obtain rfl : k = 5 := by omega
      go_wp2_with fail
      go_ret
      exact ⟨ret_int (bitOf_none HT.out).symm, HB.out⟩
end Go.Proofs.YtnicijeeocknaaaDoor.FlC

namespace Go.Proofs.YtnicijeeocknaaaDoor.FlM
open Go.RowKit Go.Maps Go.Proofs.YtnicijeeocknaaaDoor.FlK Go.Proofs.YtnicijeeocknaaaDoor.FlB Go.Proofs.YtnicijeeocknaaaDoor.FlC

set_option maxRecDepth 100000 in
theorem ba_beq (a b : ByteArray) : (a == b) = (a.data == b.data) := by cases a; cases b; rfl
instance : LawfulBEq ByteArray where
  eq_of_beq {a b} h := by
    rw [ba_beq] at h
    cases a; cases b
    simpa using h
  rfl {a} := by rw [ba_beq]; simp
set_option maxRecDepth 100000 in
theorem bitOf_cases (s : ByteArray) : bitOf s = 1 ∨ bitOf s = 2 ∨ bitOf s = 4 ∨ bitOf s = 8 ∨ bitOf s = 16 ∨ bitOf s = 0 := by
  unfold bitOf
  split
  · exact .inl rfl
  split
  · exact .inr (.inl rfl)
  split
  · exact .inr (.inr (.inl rfl))
  split
  · exact .inr (.inr (.inr (.inl rfl)))
  split
  · exact .inr (.inr (.inr (.inr (.inl rfl))))
  · exact .inr (.inr (.inr (.inr (.inr rfl))))
def bitN (s : ByteArray) : Nat := (bitOf s).toNat
set_option maxRecDepth 100000 in
theorem bitN_cast (s : ByteArray) : bitOf s = (bitN s : Nat) := by
  unfold bitN
  rcases bitOf_cases s with h | h | h | h | h | h <;> rw [h] <;> rfl
set_option maxRecDepth 100000 in
theorem bitN_lt (s : ByteArray) : bitN s < 32 := by
  unfold bitN
  rcases bitOf_cases s with h | h | h | h | h | h <;> rw [h] <;> decide
set_option maxRecDepth 100000 in
theorem or_lt {a b : Nat} (ha : a < 32) (hb : b < 32) : a ||| b < 32 := Nat.or_lt_two_pow (n := 5) ha hb

/-- The bits of the first k names. -/
def fl (zs : List ByteArray) (k : Nat) : Nat := (zs.take k).foldl (fun f s => f ||| bitN s) 0
set_option maxRecDepth 100000 in
theorem fl_succ {zs : List ByteArray} {k : Nat} {x : ByteArray} (h : zs[k]? = some x) : fl zs (k + 1) = fl zs k ||| bitN x := by
  obtain ⟨hl, rfl⟩ := List.getElem?_eq_some_iff.1 h
  unfold fl
  rw [List.take_succ_eq_append_getElem hl, List.foldl_append]; rfl
set_option maxRecDepth 100000 in
theorem fl_lt (zs : List ByteArray) (k : Nat) : fl zs k < 32 := by
  unfold fl
  generalize zs.take k = l
  suffices ∀ (l : List ByteArray) (a : Nat), a < 32 → l.foldl (fun f s => f ||| bitN s) a < 32 from this l 0 (by decide)
  intro l
  induction l with
  | nil => intro a h; exact h
  | cons s l ih => intro a h; exact ih _ (or_lt h (bitN_lt s))

def addW (acc : List ByteArray) (s : ByteArray) : List ByteArray := if bitOf s ≠ 0 then acc else if s ∈ acc then acc else acc ++ [s]
/-- The words among the first k names, each once. -/
def wd (zs : List ByteArray) (k : Nat) : List ByteArray := (zs.take k).foldl addW []
set_option maxRecDepth 100000 in
theorem wd_succ {zs : List ByteArray} {k : Nat} {x : ByteArray} (h : zs[k]? = some x) : wd zs (k + 1) = addW (wd zs k) x := by
  obtain ⟨hl, rfl⟩ := List.getElem?_eq_some_iff.1 h
  unfold wd
  rw [List.take_succ_eq_append_getElem hl, List.foldl_append]; rfl
set_option maxRecDepth 100000 in
theorem wd_flag {zs : List ByteArray} {k : Nat} {x : ByteArray} (h : zs[k]? = some x) (hb : bitOf x ≠ 0) : wd zs (k + 1) = wd zs k := by
  rw [wd_succ h, addW, if_pos hb]
set_option maxRecDepth 100000 in
theorem wd_old {zs : List ByteArray} {k : Nat} {x : ByteArray} (h : zs[k]? = some x) (hc : x ∈ wd zs k) : wd zs (k + 1) = wd zs k := by
  rw [wd_succ h, addW]
  split
  · rfl
  · rfl
set_option maxRecDepth 100000 in
theorem wd_new {zs : List ByteArray} {k : Nat} {x : ByteArray} (h : zs[k]? = some x) (hb : bitOf x = 0) (hc : x ∉ wd zs k) : wd zs (k + 1) = wd zs k ++ [x] := by
  rw [wd_succ h, addW, if_neg (by simpa using hb), if_neg hc]
set_option maxRecDepth 100000 in
theorem wd_le (zs : List ByteArray) : ∀ k, (wd zs k).length ≤ k
  | 0 => by simp [wd]
  | k + 1 => by
    have ih := wd_le zs k
    by_cases hk : k < zs.length
    · rw [wd_succ (List.getElem?_eq_getElem hk)]
      unfold addW
      split
      · omega
      · split
        · omega
        · simp; omega
    · have : wd zs (k + 1) = wd zs k := by unfold wd; rw [List.take_of_length_le (by omega), List.take_of_length_le (by omega)]
      rw [this]; omega

/-- .. and the set that holds just them. -/
def st (zs : List ByteArray) (k : Nat) : DataW Unit := setOf (.agg []) ((wd zs k).map (fun s => Lit.string s.data.toList))
set_option maxRecDepth 100000 in
theorem st_zero (zs : List ByteArray) : st zs 0 = .map [] := by simp [st, wd, setOf]
set_option maxRecDepth 100000 in
theorem any_str (x : ByteArray) (l : List ByteArray) : l.any ((fun y : Lit => y.sameKey (.string x.data.toList)) ∘ fun s => Lit.string s.data.toList) = decide (x ∈ l) := by
  rw [Bool.eq_iff_iff, List.any_eq_true, decide_eq_true_eq]
  constructor
  · rintro ⟨a, ha, hx⟩
    have hx' : (a.data.toList == x.data.toList) = true := hx
    have : a = x := by cases a; cases x; simp at hx'; rw [hx']
    rwa [← this]
  · intro h
    exact ⟨x, h, by show (x.data.toList == x.data.toList) = true; simp⟩
set_option maxRecDepth 100000 in
theorem has_st (zs : List ByteArray) (k : Nat) (x : ByteArray) : Maps.has (st zs k) (.string x.data.toList) = decide (x ∈ wd zs k) := by
  unfold st
  rw [has_setOf _ _ _ (fun y hy => by obtain ⟨_, _, rfl⟩ := List.mem_map.1 hy; trivial), List.any_map]
  exact any_str x _
set_option maxRecDepth 100000 in
theorem st_same {zs : List ByteArray} {k : Nat} (h : wd zs (k + 1) = wd zs k) : st zs (k + 1) = st zs k := by unfold st; rw [h]
set_option maxRecDepth 100000 in
theorem st_new {zs : List ByteArray} {k : Nat} {x : ByteArray} (h : wd zs (k + 1) = wd zs k ++ [x]) : st zs (k + 1) = (st zs k).put (.string x.data.toList) (.agg []) := by
  unfold st
  rw [h, List.map_append, List.map_singleton, setOf_snoc]

set_option maxRecDepth 100000 in
/-- Or of two small numbers, as the model reckons it. -/
theorem bits_or : ∀ a, a < 32 → ∀ b, b < 32 → bits .or .i64 (a : Nat) (b : Nat) = ((a ||| b : Nat) : Int) := by decide +kernel
end Go.Proofs.YtnicijeeocknaaaDoor.FlM

namespace Go.Proofs.YtnicijeeocknaaaDoor.FlArg
open Go.RowKit

theorem add_block (a : Addr) (j : Nat) : (a.add j).block = a.block := by unfold Addr.add; split <;> rfl

/-- A slice of ints that came in. -/
def IntsAt (w : World) (A : Option Addr) (n : Nat) (zs : List Int) : Prop :=
  zs.length = n ∧ (0 < n → ∃ ad, A = some ad ∧ ad.block < w.heap.size ∧ ∀ j z, zs[j]? = some z → w.cell? (ad.add j) = some (.int .i64 z))
/-- A slice of texts that came in. -/
def StrsAt (w : World) (A : Option Addr) (n : Nat) (zs : List ByteArray) : Prop :=
  zs.length = n ∧ (0 < n → ∃ ad, A = some ad ∧ ad.block < w.heap.size ∧ ∀ j z, zs[j]? = some z → w.cell? (ad.add j) = some (.string z))

theorem IntsAt.at_ {w wr : World} {A : Option Addr} {n B : Nat} {zs : List Int} (h : IntsAt w A n zs) (hb : Below B w wr) (hB : w.heap.size ≤ B) {j : Nat} (hj : j < n) :
    ∃ ad x, A = some ad ∧ zs[j]? = some x ∧ wr.cell? (ad.add j) = some (.int .i64 x) := by
  obtain ⟨hl, hc⟩ := h
  obtain ⟨ad, rfl, hlt, hcell⟩ := hc (by omega)
  refine ⟨ad, zs[j]'(by omega), rfl, List.getElem?_eq_getElem (by omega), ?_⟩
  rw [hb.cell (p := ad.add j) (by rw [add_block]; omega)]
  exact hcell j _ (List.getElem?_eq_getElem (by omega))
theorem StrsAt.at_ {w wr : World} {A : Option Addr} {n B : Nat} {zs : List ByteArray} (h : StrsAt w A n zs) (hb : Below B w wr) (hB : w.heap.size ≤ B) {j : Nat} (hj : j < n) :
    ∃ ad x, A = some ad ∧ zs[j]? = some x ∧ wr.cell? (ad.add j) = some (.string x) := by
  obtain ⟨hl, hc⟩ := h
  obtain ⟨ad, rfl, hlt, hcell⟩ := hc (by omega)
  refine ⟨ad, zs[j]'(by omega), rfl, List.getElem?_eq_getElem (by omega), ?_⟩
  rw [hb.cell (p := ad.add j) (by rw [add_block]; omega)]
  exact hcell j _ (List.getElem?_eq_getElem (by omega))
end Go.Proofs.YtnicijeeocknaaaDoor.FlArg
namespace Go.Proofs.YtnicijeeocknaaaDoor.FlD
open Go.RowKit Go.Maps Go.ChangeShapes Go.WideShapes Go.WideMaps Go.Proofs.YtnicijeeocknaaaDoor.FlK Go.Proofs.YtnicijeeocknaaaDoor.FlArg Go.Proofs.YtnicijeeocknaaaDoor.FlA Go.Proofs.YtnicijeeocknaaaDoor.FlB Go.Proofs.YtnicijeeocknaaaDoor.FlC Go.Proofs.YtnicijeeocknaaaDoor.FlM

set_option maxRecDepth 100000 in
theorem law9 : Keyed Tryd.prog 9 := string_keyed Tryd.underlying9
set_option maxRecDepth 100000 in
theorem zero42 (w : World) : (zeroValue 83).run Tryd.prog w = .ok (.agg #[]) w := by kernel_rfl
set_option maxRecDepth 100000 in
theorem info9 : (Tryd.prog.info? 9).map (fun i => (i.zero, i.size, i.bytes)) = some (some (.string ⟨#[]⟩), 1, 16) := by kernel_rfl
set_option maxRecDepth 100000 in
theorem row_ne {w : World} {base : Nat} {e : TypeId} {size : Nat} {v : Value} {n : Nat} {xs : List Value} (h : w.ownsRow base e size v n xs) {b : Nat} (hb : b < base) : some b ≠ v.ownBlock := fun e1 => by
  have := (h.lt b e1.symm).1
  omega
set_option maxRecDepth 100000 in
theorem strs_oneCell (zs : List ByteArray) : ∀ u ∈ zs.map Value.string, u.oneCell' = true := by
  intro u hu
  obtain ⟨z, _, rfl⟩ := List.mem_map.1 hu
  rfl
set_option maxRecDepth 100000 in
theorem grown_below {a b : World} (h : Below a.heap.size a b) (row : Option Nat) : a.grownBy b row := ⟨h.os, h.tape, h.output, h.size, fun i hi _ => h.block i hi⟩

def ST (w : World) (B k : Nat) (zs : List ByteArray) (v : Value) (wr : World) : Prop :=
  wr.ownsMap Tryd.prog 9 unitElem B k (st zs k) ∧ wr.ownsRow (B + 1) 9 1 v (wd zs k).length ((wd zs k).map Value.string) ∧ Below B w wr ∧ B + 1 ≤ wr.heap.size
set_option maxRecDepth 100000 in
theorem ST.below {w wr w2 : World} {B k : Nat} {zs : List ByteArray} {v : Value} (h : ST w B k zs v wr) (hb : Below wr.heap.size wr w2) : ST w B k zs v w2 := by
  obtain ⟨h1, h2, h3, h4⟩ := h
  refine ⟨h1.kept (grown_below hb none) (by simp), h2.kept (grown_below hb none) ?_, h3.trans (hb.mono (by omega)), Nat.le_trans h4 hb.size⟩
  cases hv : v.ownBlock <;> simp
set_option maxRecDepth 100000 in
theorem ST.same {w wr : World} {B k : Nat} {zs : List ByteArray} {v : Value} (h : ST w B k zs v wr) (hw : wd zs (k + 1) = wd zs k) : ST w B (k + 1) zs v wr := by
  obtain ⟨h1, h2, h3, h4⟩ := h
  exact ⟨by rw [st_same hw]; exact h1.mono (Nat.le_succ _), by rw [hw]; exact h2, h3, h4⟩
set_option maxRecDepth 100000 in
theorem fl_flag {zs : List ByteArray} {k f b : Nat} {x : ByteArray} (hf : f = fl zs k) (hx : zs[k]? = some x) (hb : b = bitN x) : f ||| b = fl zs (k + 1) := by rw [fl_succ hx, hf, hb]
def SpPost (zs : List ByteArray) (w : World) (e : Ending) (w' : World) : Prop :=
  ∃ v, e = .returned (.tuple #[.int .i64 (fl zs zs.length : Nat), v, .bool true]) ∧ w'.ownsRow (w.heap.size + 1) 9 1 v (wd zs zs.length).length ((wd zs zs.length).map Value.string) ∧ Below w.heap.size w w'

def good (z : ByteArray) : Prop := bitOf z ≠ 0 ∨ atB z = true
def SqPost (zs : List ByteArray) (w : World) (e : Ending) (w' : World) : Prop :=
  ((∀ z ∈ zs, good z) ∧ SpPost zs w e w') ∨ ((∃ z ∈ zs, ¬ good z) ∧ e = .returned (.tuple #[.int .i64 0, .slice none 0 0, .bool false]) ∧ Below w.heap.size w w')
set_option maxRecDepth 100000 in
theorem good_snoc {zs : List ByteArray} {k : Nat} {x : ByteArray} (h : ∀ z ∈ zs.take k, good z) (hx : zs[k]? = some x) (hg : good x) : ∀ z ∈ zs.take (k + 1), good z := by
  obtain ⟨hl, rfl⟩ := List.getElem?_eq_some_iff.1 hx
  intro z hz
  rw [List.take_succ_eq_append_getElem hl] at hz
  rcases List.mem_append.1 hz with hz | hz
  · exact h z hz
  · obtain rfl := List.mem_singleton.1 hz
    exact hg

set_option maxHeartbeats 2000000 in
set_option maxRecDepth 100000 in
theorem split_any (A : Option Addr) (n cp : Nat) (zs : List ByteArray) (w : World) (hn : Names w) (hz : StrsAt w A n zs) (hsz : ∀ z ∈ zs, z.size ≤ maxLen) (hl : n ≤ 8796093022208)
     : Calls Tryd.prog 44 #[.slice A n cp] w (SqPost zs w) := by
  have hzl := hz.1
  have HZL := Lib.hid hzl
  have HZ := Lib.hid hz
  have HSZ := Lib.hid hsz
  have HN := Lib.hid hn
  clear hz hsz hn hzl
  have hmm := @run_makeMap Tryd.prog
  obtain ⟨i0, hi, hz0, hz1, hz2⟩ := info_parts info9
  have HI := Lib.hid hi
  have HZ0 := Lib.hid hz0
  have HZ1 := Lib.hid hz1
  have HZ2 := Lib.hid hz2
  clear hi hz0 hz1 hz2
  obtain ⟨B, hB⟩ : ∃ B, B = w.heap.size := ⟨_, rfl⟩
  have HB := Lib.hid hB
  go_enter Tryd.func44, Tryd.ntmps44
  go_wp2_with fail
  rw [← hB]
  clear hB hmm
  go_loopw [5, 6, 16] (fun s5 s6 s16 wr => ∃ (k f : Nat) (v : Value), v = s6 ∧ k ≤ n ∧ s16 = .int .i64 k ∧ s5 = .int .i64 f ∧ f < 32 ∧ Hid (f = fl zs k) ∧ Hid (ST w B k zs v wr) ∧ Hid (∀ z ∈ zs.take k, good z)) (fun _ _ s16 _ => n - (intOf s16).toNat)
  case atStart => exact ⟨0, 0, _, rfl, Nat.zero_le _, rfl, rfl, by decide, rfl, by rw [HB.out]; exact ⟨by rw [st_zero]; exact World.ownsMap_made _ _ _ _, World.ownsRow_nil _ _ _ _, (Below.refl _ _).alloc (Nat.le_refl _) _, by simp⟩, by intro z hz; simp at hz⟩
  case round =>
    obtain ⟨k, f, v, rfl, hk, rfl, rfl, hf, HF, HS, HGD⟩ := hrel
    by_cases hlt : k < n
    · obtain ⟨ad, x, rfl, hx, hc1⟩ := HZ.out.at_ HS.out.2.2.1 (Nat.le_of_eq HB.out.symm) hlt
      have hxm := List.mem_of_getElem? hx
      have hxs := HSZ.out x hxm
      have hkey : keyOf Tryd.prog 9 (.string x) = some (.string x.data.toList) := keyOf_string_mk Tryd.underlying9 hxs
      have HX := Lib.hid hx
      obtain ⟨b, hb⟩ : ∃ b, b = bitN x := ⟨_, rfl⟩
      have hb32 : b < 32 := by rw [hb]; exact bitN_lt x
      have hbx : bitOf x = (b : Int) := by rw [hb]; exact bitN_cast x
      have C12 := bit_any x wr (HN.out.below HS.out.2.2.1 (by have := HN.out.size; rw [HB.out]; exact this)) hxs
      rw [hbx] at C12
      have K12 := Lib.hid C12
      have HKEY := Lib.hid hkey
      have HBX := Lib.hid hbx
      have HBN := Lib.hid hb
      clear hx hxm hb hbx C12 hkey
      by_cases h0 : b = 0
      · subst h0
        have C10 := fun w => may_any x w
        cases ha : atB x with
        | false =>
          rw [ha] at C10
          have K10 := Lib.hid C10
          have HBAD := Lib.hid (show ∃ z ∈ zs, ¬ good z from ⟨x, List.mem_of_getElem? HX.out, fun hg => by
            rcases hg with hg | hg
            · exact hg (by rw [HBX.out]; rfl)
            · rw [ha] at hg; cases hg⟩)
          clear ha C10
          go_wp2_with fail
          refine K12.out.mono ?_
          rintro e w2 ⟨rfl, hb2⟩
          have HS2 := Lib.hid (HS.out.below hb2)
          clear hb2 K12
          go_wp2_with (go_at_call 62; refine (K10.out _).mono ?_; rintro e w' ⟨rfl, rfl⟩)
          go_ret3
          exact .inr ⟨HBAD.out, rfl, by have := HS2.out.2.2.1; rw [HB.out] at this; exact this⟩
        | true =>
        rw [ha] at C10
        have K10 := Lib.hid C10
        have HGN := Lib.hid (show ∀ z ∈ zs.take (k + 1), good z from good_snoc HGD.out HX.out (.inr ha))
        clear ha C10
        by_cases hc : x ∈ wd zs k
        · have hhas : Maps.has (st zs k) (.string x.data.toList) = true := by rw [has_st]; exact decide_eq_true hc
          have HC := Lib.hid hc
          clear hc
          go_wp2_with fail
          refine K12.out.mono ?_
          rintro e w2 ⟨rfl, hb2⟩
          have HB2 := Lib.hid hb2
          have HS2 := Lib.hid (HS.out.below hb2)
          clear hb2 K12
          go_wp2_with (first
            | (go_at_call 62; refine (K10.out _).mono ?_; rintro e w' ⟨rfl, rfl⟩)
            | (at_lookup; refine wpList_lookup_own_unit _ rfl _ _ 81 rfl 9 83 law9 Tryd.underlying81 (zero42 _) B k _ rfl HS2.out.1 _ _ rfl HKEY.out ?_))
          go_roundw
          case rel => exact ⟨k + 1, f, v, rfl, by omega, by go_num, rfl, hf, by have := fl_flag HF.out HX.out HBN.out; rw [Nat.or_zero] at this; exact this, (HS2.out.same (wd_old HX.out HC.out)).below ((Below.refl _ _).alloc (Nat.le_refl _) _), HGN⟩
          case measure => simp [intOf]; omega
        · have hhas : Maps.has (st zs k) (.string x.data.toList) = false := by rw [has_st]; exact decide_eq_false hc
          have hnew := wd_new HX.out HBX.out hc
          have HNEW := Lib.hid hnew
          clear hc hnew
          go_wp2_with fail
          refine K12.out.mono ?_
          rintro e w2 ⟨rfl, hb2⟩
          have HB2 := Lib.hid hb2
          have HS2 := Lib.hid (HS.out.below hb2)
          clear hb2 K12
          have hwl := wd_le zs k
          go_wp2_with (first
            | (go_at_call 62; refine (K10.out _).mono ?_; rintro e w' ⟨rfl, rfl⟩)
            | (at_lookup; refine wpList_lookup_own_unit _ rfl _ _ 81 rfl 9 83 law9 Tryd.underlying81 (zero42 _) B k _ rfl HS2.out.1 _ _ rfl HKEY.out ?_)
            | (at_mapUpdate; refine wpList_mapUpdate_own _ rfl _ _ _ 81 rfl 9 83 law9 Tryd.underlying81 (unitElem (H := Unit)) B k _ rfl (HS2.out.1.alloc _) (by unfold maxLen; omega) _ _ _ rfl rfl HKEY.out _ [] unitElem_mk ?_; intro w3 hown3 hgrow3)
            | (at_builtin; refine wpList_append_own _ rfl _ _ 22 rfl (B + 1) 9 i0 (.string ⟨#[]⟩) 1 16 Tryd.underlying22 HI.out HZ0.out HZ1.out HZ2.out rfl (by decide) _ _ _ rfl (((HS2.out.2.1.alloc _).kept hgrow3 (Or.inr (row_ne HS2.out.2.1 (Nat.lt_succ_self _)).symm)).alloc _) ⟨w3.heap.size, 0, none⟩ 1 1 [.string x] rfl rfl (cell_one_new _ _ _) (strs_oneCell [x]) (by unfold maxLen; omega) (by omega) (by have := hgrow3.size; have := HS2.out.2.2.2; simp at *; omega) ?_; intro v' w4 hown4 hgrow4 hnil4))
          have hr1 := (HS2.out.2.1.alloc (.cells #[] 83)).kept hgrow3 (Or.inr (row_ne HS2.out.2.1 (Nat.lt_succ_self _)).symm)
          have s1 := hgrow3.size
          have s2 := hgrow4.size
          have s0 := HS2.out.2.2.2
          simp at s1 s2
          go_roundw
          case rel =>
            refine ⟨k + 1, f, v', rfl, by omega, by go_num, rfl, hf, by have := fl_flag HF.out HX.out HBN.out; rw [Nat.or_zero] at this; exact this, ⟨?_, ?_, ?_, ?_⟩, HGN⟩
            · rw [st_new HNEW.out]
              exact (hown3.alloc _).kept hgrow4 (row_ne hr1 (Nat.lt_succ_self _))
            · rw [HNEW.out]
              simpa using hown4
            · exact ((((HS2.out.2.2.1.alloc (by omega) _).grown hgrow3 (by simp; omega) (fun j hj => by cases hj; exact Nat.le_refl _)).alloc (by omega) _).grown hgrow4 (by simp; omega) (fun j hj => Nat.le_trans (Nat.le_succ _) (hr1.lt j hj).1))
            · omega
          case measure => simp [intOf]; omega
      · have hb0 : ((b : Int) != 0) = true := by simpa using h0
        have hor := bits_or f hf b hb32
        obtain ⟨g, hg⟩ : ∃ g, g = f ||| b := ⟨_, rfl⟩
        have hg32 : g < 32 := by rw [hg]; exact or_lt hf hb32
        rw [← hg] at hor
        have HG := Lib.hid hg
        clear hg
        go_wp2_with fail
        refine K12.out.mono ?_
        rintro e w2 ⟨rfl, hb2⟩
        have HS2 := Lib.hid (HS.out.below hb2)
        clear hb2 K12
        go_wp2_with fail
        go_roundw
        case rel => exact ⟨k + 1, g, v, rfl, by omega, by go_num, rfl, hg32, by have := fl_flag HF.out HX.out HBN.out; rw [← HG.out] at this; exact this, HS2.out.same (wd_flag HX.out (by rw [HBX.out]; omega)), good_snoc HGD.out HX.out (.inl (by rw [HBX.out]; omega))⟩
        case measure => simp [intOf]; omega
    · obtain rfl : k = n := by omega
      go_wp2_with fail
      go_ret3
      have h1 := HS.out
      rw [HB.out] at h1
      have hk1 : k = zs.length := HZL.out.symm
      subst hk1
      exact .inl ⟨by have := HGD.out; rwa [List.take_length] at this, v, by rw [HF.out]; rfl, h1.2.1, h1.2.2.1⟩
end Go.Proofs.YtnicijeeocknaaaDoor.FlD
