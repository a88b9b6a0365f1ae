/-
  What bytes begin with: bytes.Equal, bytes.HasPrefix, bytes.CutPrefix at a mark of three bytes.
-/
import Derived.Test.YthbilcadifbaeaaDoorOlR
namespace Go.Proofs.YthbilcadifbaeaaDoor.OlX
open Go.RowKit Go.Proofs.YthbilcadifbaeaaDoor.BxD Go.Proofs.YthbilcadifbaeaaDoor.PkKit Go.Proofs.YthbilcadifbaeaaDoor.PkF Go.Proofs.YthbilcadifbaeaaDoor.OlD Go.Proofs.YthbilcadifbaeaaDoor.OlR

theorem text_eq {l1 l2 : List UInt8} : (((⟨l1.toArray⟩ : ByteArray) == ⟨l2.toArray⟩)) = decide (l1 = l2) := by
  rw [Bool.eq_iff_iff]
  simp
set_option maxHeartbeats 1000000 in
set_option maxRecDepth 100000 in
theorem equal_any {w : World} {B1 B2 n1 n2 c1 c2 : Nat} {A1 A2 : Option Addr} {l1 l2 : List UInt8} (h1 : BytesAt w B1 A1 n1 l1) (h2 : BytesAt w B2 A2 n2 l2) :
    Calls Tryd.prog 154 #[.slice A1 n1 c1, .slice A2 n2 c2] w fun e w' => e = .returned (.bool (decide (l1 = l2))) ∧ w = w' := by
  have q1 := h1.conv c1
  have q2 := h2.conv c2
  have q3 := text_eq (l1 := l1) (l2 := l2)
  obtain ⟨b, hb⟩ : ∃ b, b = decide (l1 = l2) := ⟨_, rfl⟩
  obtain ⟨t1, ht1⟩ : ∃ t1 : ByteArray, t1 = ⟨l1.toArray⟩ := ⟨_, rfl⟩
  obtain ⟨t2, ht2⟩ : ∃ t2 : ByteArray, t2 = ⟨l2.toArray⟩ := ⟨_, rfl⟩
  rw [← ht1, ← ht2, ← hb, beq_toListBytes] at q3
  rw [← ht1] at q1
  rw [← ht2] at q2
  rw [← hb]
  clear hb ht1 ht2 h1 h2
  go_enter Tryd.func154, Tryd.ntmps154
  go_wp2_with fail
  go_ret
  first | exact ⟨rfl, rfl⟩ | exact ⟨by rw [q3], rfl⟩
set_option maxHeartbeats 1000000 in
set_option maxRecDepth 100000 in
theorem hasPrefix_any {w : World} {B1 B2 n cp c2 : Nat} {A A2 : Option Addr} {l l2 : List UInt8} (h1 : BytesAt w B1 A n l) (hc : n ≤ cp) (hn : n ≤ 140737488355328) (h2 : BytesAt w B2 A2 3 l2) :
    Calls Tryd.prog 137 #[.slice A n cp, .slice A2 3 c2] w fun e w' => e = .returned (.bool (decide (l.take 3 = l2))) ∧ w = w' := by
  by_cases h3 : n < 3
  · have hd : decide (l.take 3 = l2) = false := decide_eq_false fun e => by
      have e1 := congrArg List.length e
      rw [List.length_take, h1.1, h2.1] at e1
      omega
    rw [hd]
    clear h1 h2 hd
    go_enter Tryd.func137, Tryd.ntmps137
    go_wp2_with fail
    go_ret
    exact ⟨rfl, rfl⟩
  · have h3' : (3 : Int) ≤ (n : Int) := by omega
    have h4 : 3 ≤ cp := by omega
    have K := Lib.hid (equal_any (c1 := cp) (c2 := c2) (h1.take (k := 3) (by omega)) h2)
    clear h1 h2 h3
    go_enter Tryd.func137, Tryd.ntmps137
    go_wp2_with (go_at_call 154; go_loud (
       refine K.out.mono ?_
       rintro e w1 ⟨rfl, rfl⟩))
    go_ret
    exact ⟨rfl, rfl⟩
/-- What a cut tells. -/
def CutP (w : World) (B : Nat) (A : Option Addr) (n cp : Nat) (l l2 : List UInt8) (e : Ending) (w' : World) : Prop :=
  w = w' ∧ ((l.take 3 = l2 ∧ ∃ A' c', e = .returned (.tuple #[.slice A' (n - 3) c', .bool true]) ∧ BytesAt w B A' (n - 3) (l.drop 3) ∧ n - 3 ≤ c') ∨ (l.take 3 ≠ l2 ∧ e = .returned (.tuple #[.slice A n cp, .bool false])))
theorem add3 (A : Option Addr) : A.map (·.add 3) = A.map (fun x => { block := x.block, off := x.off + 3 }) := by
  cases A <;> simp [Addr.add]
set_option maxHeartbeats 1000000 in
set_option maxRecDepth 100000 in
theorem cutPrefix_any {w : World} {B1 B2 n cp c2 : Nat} {A A2 : Option Addr} {l l2 : List UInt8} (h1 : BytesAt w B1 A n l) (hc : n ≤ cp) (hn : n ≤ 140737488355328) (h2 : BytesAt w B2 A2 3 l2) :
    Calls Tryd.prog 114 #[.slice A n cp, .slice A2 3 c2] w (CutP w B1 A n cp l l2) := by
  have K0 := hasPrefix_any (c2 := c2) h1 hc hn h2
  by_cases hd : l.take 3 = l2
  · have h3 : 3 ≤ n := by
      have e1 := congrArg List.length hd
      rw [List.length_take, h1.1, h2.1] at e1
      omega
    rw [decide_eq_true hd] at K0
    have K := Lib.hid K0
    have HD := Lib.hid hd
    have hcut := h1.cut (k := 3) (cp := cp) h3 hc
    by_cases h33 : cp = 3
    · rw [if_pos h33] at hcut
      have HC := Lib.hid hcut
      clear K0 h1 h2 hd hcut
      subst h33
      have hn3 : n = 3 := by omega
      subst hn3
      go_enter Tryd.func114, Tryd.ntmps114
      go_wp2_with (go_at_call 137; go_loud (
         refine K.out.mono ?_
         rintro e w1 ⟨rfl, rfl⟩))
      first | go_ret2 | go_ret
      exact ⟨rfl, .inl ⟨HD.out, _, _, rfl, HC.out, by omega⟩⟩
    · rw [if_neg h33, add3] at hcut
      have HC := Lib.hid hcut
      clear K0 h1 h2 hd hcut
      go_enter Tryd.func114, Tryd.ntmps114
      go_wp2_with (go_at_call 137; go_loud (
         refine K.out.mono ?_
         rintro e w1 ⟨rfl, rfl⟩))
      first | go_ret2 | go_ret
      exact ⟨rfl, .inl ⟨HD.out, _, _, rfl, HC.out, by omega⟩⟩
  · rw [decide_eq_false hd] at K0
    have K := Lib.hid K0
    have HD := Lib.hid hd
    clear K0 h1 h2 hd
    go_enter Tryd.func114, Tryd.ntmps114
    go_wp2_with (go_at_call 137; go_loud (
       refine K.out.mono ?_
       rintro e w1 ⟨rfl, rfl⟩))
    first | go_ret2 | go_ret
    exact ⟨rfl, .inr ⟨HD.out, rfl⟩⟩
set_option maxHeartbeats 1000000 in
set_option maxRecDepth 100000 in
theorem first_any {cg : Bool} {w : World} {R T : Nat} {s : St} (h : FRd cg w R T s) : Calls Tryd.prog 116 #[ptr R] w fun e w' => e = .returned (.int .i64 (firstS s : Nat)) ∧ w = w' := by
  obtain ⟨l, er, ov⟩ := s
  obtain ⟨c0, c1, f1⟩ := h.cells
  have K := Lib.hid (err_any h.rd)
  clear h
  cases ov with
  | true =>
    go_enter Tryd.func116, Tryd.ntmps116
    go_wp2_with fail
    go_ret
    exact ⟨rfl, rfl⟩
  | false =>
    go_enter Tryd.func116, Tryd.ntmps116
    go_wp2_with (go_at_call 143; go_loud (
       refine K.out.mono ?_
       rintro e w1 ⟨rfl, rfl⟩))
    go_ret
    exact ⟨rfl, rfl⟩
end Go.Proofs.YthbilcadifbaeaaDoor.OlX
