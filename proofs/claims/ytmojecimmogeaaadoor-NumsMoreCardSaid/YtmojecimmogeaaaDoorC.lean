/-
  strings.Cut at one letter: what stands ahead of its first place, and what behind.
-/
import Derived.Test.YtmojecimmogeaaaDoorB
import Derived.Lib.CutLaws
import Derived.RegionTactic
namespace Go.Proofs.YtmojecimmogeaaaDoor.C
open Go.RowKit Go.Proofs.YtmojecimmogeaaaDoor.Kit Go.Proofs.YtmojecimmogeaaaDoor.A Go.Proofs.YtmojecimmogeaaaDoor.B

set_option maxHeartbeats 1000000 in
set_option maxRecDepth 100000 in
theorem idx63 (s : ByteArray) (c : Int) (w : World) : Calls Tryd.prog 49 #[.string s, .int .u8 c] w fun e w' => e = .returned (.int .i64 (Lib.indexByte s.data.toList c.toNat.toUInt8)) ∧ w = w' := by
  go_enter Tryd.func49, Tryd.ntmps49
  go_wp2
  rw [run_callFunc_extern Tryd.func63 (by kernel_rfl) (by kernel_rfl) (by kernel_rfl) (e := Extern.BytealgIndexByte.indexByte) (by kernel_rfl), Lib.run_indexByteString]
  simp only [Result.andThen]
  rw [Oper.upon_value]
  go_wp2
  go_ret
  exact ⟨rfl, rfl⟩

theorem byte_back (c : UInt8) : ((c.toNat : Int)).toNat.toUInt8 = c := by simp
theorem toList_ne {x y : ByteArray} (h : x ≠ y) : (x.toList == y.toList) = false := by
  rw [beq_eq_false_iff_ne]
  intro e
  rw [ByteArray.toList_eq, ByteArray.toList_eq] at e
  exact h (ByteArray.ext (Array.toList_inj.1 e))
theorem idx_self (c : UInt8) : Lib.indexByte [c] c = 0 := by simp [Lib.indexByte]

set_option maxHeartbeats 1000000 in
set_option maxRecDepth 100000 in
theorem index_any (s : ByteArray) (c : UInt8) (n : Int) (hn : Lib.indexByte s.data.toList c = n) (w : World) : Calls Tryd.prog 34 #[.string s, .string ⟨#[c]⟩] w fun e w' => e = .returned (.int .i64 n) ∧ w = w' := by
  have I := fun w => idx63 s (c.toNat : Int) w
  rw [byte_back, hn] at I
  have HI := Lib.hid I
  clear I
  by_cases hs : s = ⟨#[c]⟩
  · subst hs
    have h0 : n = 0 := by rw [← hn]; exact idx_self c
    subst h0
    have hb : ((⟨#[c]⟩ : ByteArray).toList == (⟨#[c]⟩ : ByteArray).toList) = true := by simp
    clear hn
    go_enter Tryd.func34, Tryd.ntmps34
    go_wp2_with fail
    go_ret
    exact ⟨rfl, rfl⟩
  · have hb : ([c] == s.toList) = false := by
      rw [beq_eq_false_iff_ne]
      intro e
      refine hs (ByteArray.ext (Array.toList_inj.1 ?_))
      rw [ByteArray.toList_eq] at e
      exact e.symm
    clear hs hn
    go_enter Tryd.func34, Tryd.ntmps34
    go_wp2_with (go_at_call 49; refine (HI.out _).mono ?_; rintro e w' ⟨rfl, rfl⟩)
    go_ret
    exact ⟨rfl, rfl⟩

set_option maxHeartbeats 1000000 in
set_option maxRecDepth 100000 in
theorem slcut_hit (s : ByteArray) (c : UInt8) (i : Nat) (hi : i < s.size) (hs : s.size ≤ maxLen) (hn : Lib.indexByte s.data.toList c = i) (w : World) : Calls Tryd.prog 27 #[.string s, .string ⟨#[c]⟩] w fun e w' => e = .returned (.tuple #[.string (s.extract 0 i), .string (s.extract (i + 1) s.size), .bool true]) ∧ Drawn w w' := by
  have HI := Lib.hid (fun w => index_any s c i hn w)
  unfold maxLen at hs
  have c0 : (s.size : Int) ≤ 9223372036854775807 := by omega
  have c1 : (0 : Int) ≤ ↑i := by omega
  have c2 : (↑i : Int) ≤ ↑s.size := by omega
  have c3 : (0 : Int) ≤ ↑i + 1 := by omega
  have c4 : (↑i + 1 : Int) ≤ ↑s.size := by omega
  clear hn
  go_enter Tryd.func27, Tryd.ntmps27
  go_wp2_with (go_at_call 34; refine (HI.out _).mono ?_; rintro e w' ⟨rfl, rfl⟩)
  go_region
  go_wp2
  go_ret3
  exact ⟨rfl, 1, rfl⟩
set_option maxHeartbeats 1000000 in
set_option maxRecDepth 100000 in
theorem slcut_miss (s : ByteArray) (c : UInt8) (hn : Lib.indexByte s.data.toList c = -1) (w : World) : Calls Tryd.prog 27 #[.string s, .string ⟨#[c]⟩] w fun e w' => e = .returned (.tuple #[.string s, .string ⟨#[]⟩, .bool false]) ∧ Drawn w w' := by
  have HI := Lib.hid (fun w => index_any s c (-1) hn w)
  clear hn
  go_enter Tryd.func27, Tryd.ntmps27
  go_wp2_with (go_at_call 34; refine (HI.out _).mono ?_; rintro e w' ⟨rfl, rfl⟩)
  go_ret3
  exact ⟨rfl, 0, rfl⟩

theorem idx_at (x r : List UInt8) (c : UInt8) (h : c ∉ x) : Lib.indexByte (x ++ c :: r) c = x.length := by
  induction x with
  | nil => simp [Lib.indexByte]
  | cons b x ih =>
    have hb : (b == c) = false := by rw [beq_eq_false_iff_ne]; exact fun e => h (by rw [e]; exact List.mem_cons_self)
    have hx := ih (fun hc => h (List.mem_cons_of_mem _ hc))
    simp only [List.cons_append, Lib.indexByte, hb, hx]
    have : (((x.length : Nat) : Int) == -1) = false := by rw [beq_eq_false_iff_ne]; omega
    rw [this]
    simp
theorem idx_none (x : List UInt8) (c : UInt8) (h : c ∉ x) : Lib.indexByte x c = -1 := by
  induction x with
  | nil => rfl
  | cons b x ih =>
    have hb : (b == c) = false := by rw [beq_eq_false_iff_ne]; exact fun e => h (by rw [e]; exact List.mem_cons_self)
    have hx := ih (fun hc => h (List.mem_cons_of_mem _ hc))
    simp only [Lib.indexByte, hb, hx]
    simp

set_option maxHeartbeats 1000000 in
/-- What stands ahead of the first place, and what behind. -/
theorem cut_hit (x r : List UInt8) (c : UInt8) (h : c ∉ x) (hs : (x ++ c :: r).length ≤ maxLen) (w : World) :
    Calls Tryd.prog 19 #[.string ⟨(x ++ c :: r).toArray⟩, .string ⟨#[c]⟩] w fun e w' => e = .returned (.tuple #[.string ⟨x.toArray⟩, .string ⟨r.toArray⟩, .bool true]) ∧ Drawn w w' := by
  obtain ⟨s, hse⟩ : ∃ s : ByteArray, s = ⟨(x ++ c :: r).toArray⟩ := ⟨_, rfl⟩
  have hsz : s.size = x.length + (r.length + 1) := by rw [hse]; simp [ByteArray.size]
  have hi : Lib.indexByte s.data.toList c = (x.length : Nat) := by rw [hse]; exact idx_at x r c h
  have e1 : s.extract 0 x.length = ⟨x.toArray⟩ := by rw [Lib.extract_eq, hse]; simp
  have e2 : s.extract (x.length + 1) s.size = ⟨r.toArray⟩ := by
    rw [Lib.extract_eq, hsz, hse]
    congr 2
    simp only [List.drop_append]
    rw [List.drop_eq_nil_of_le (by omega), show x.length + 1 - x.length = 1 by omega]
    simp only [List.nil_append, List.drop_succ_cons, List.drop_zero]
    exact List.take_of_length_le (by omega)
  have K := fun w => slcut_hit s c x.length (by omega) (by rw [hsz]; simpa using hs) hi w
  rw [e1, e2] at K
  have HK := Lib.hid K
  rw [← hse]
  clear K e1 e2 hi hsz hse hs h
  go_enter Tryd.func19, Tryd.ntmps19
  go_wp2_with (go_at_call 27; refine (HK.out _).mono ?_; rintro e w' ⟨rfl, hd⟩)
  go_ret3
  exact ⟨rfl, hd⟩
set_option maxHeartbeats 1000000 in
theorem cut_miss (x : List UInt8) (c : UInt8) (h : c ∉ x) (w : World) :
    Calls Tryd.prog 19 #[.string ⟨x.toArray⟩, .string ⟨#[c]⟩] w fun e w' => e = .returned (.tuple #[.string ⟨x.toArray⟩, .string ⟨#[]⟩, .bool false]) ∧ Drawn w w' := by
  have HK := Lib.hid (fun w => slcut_miss ⟨x.toArray⟩ c (by simpa using idx_none x c h) w)
  clear h
  go_enter Tryd.func19, Tryd.ntmps19
  go_wp2_with (go_at_call 27; refine (HK.out _).mono ?_; rintro e w' ⟨rfl, hd⟩)
  go_ret3
  exact ⟨rfl, hd⟩
end Go.Proofs.YtmojecimmogeaaaDoor.C
