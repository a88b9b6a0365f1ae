/-
  Rows as bytes, bytes as rows, as data: pure.
-/
import Derived.Test.YtchlbbndfhibgaaGreatDoorRwD
import Derived.Test.YtchlbbndfhibgaaGreatDoorL2
set_option linter.unusedVariables false
set_option linter.unusedSimpArgs false
namespace Go.Proofs.YtchlbbndfhibgaaGreatDoor.RpD
open Go.RowKit Go.Proofs.YtchlbbndfhibgaaGreatDoor.BxD Go.Proofs.YtchlbbndfhibgaaGreatDoor.RwD Go.Proofs.YtchlbbndfhibgaaGreatDoor.PkA Go.Proofs.YtchlbbndfhibgaaGreatDoor.PkB Go.Proofs.YtchlbbndfhibgaaGreatDoor.PkD Go.Proofs.YtchlbbndfhibgaaGreatDoor.PkF Go.Proofs.YtchlbbndfhibgaaGreatDoor.OlD Go.Proofs.YtchlbbndfhibgaaGreatDoor.PtD Go.Proofs.YtchlbbndfhibgaaGreatDoor.PtR

/-- A message's flags and keys; a message; a row. -/
def flb (m : Msg) : List UInt8 := nums [m.flags, (m.keys.length : Nat)] ++ nums m.keys
def msb (m : Msg) : List UInt8 := nums [m.uid, m.mod, m.date] ++ (tx m.id ++ (flb m ++ tx m.text))
def rob (r : Row) : List UInt8 :=
  nums [r.kind] ++ (if r.kind = 1 then msb r.msg else if r.kind = 2 then nums [r.uid, r.mod] ++ flb r.msg else if r.kind = 3 ∨ r.kind = 6 then nums [r.uid, r.mod] else if r.kind = 4 then tx r.text else if r.kind = 5 then nums [r.uid] ++ tx r.text else if r.kind = 7 then nums [r.mod] else [])
/-- A key; keys; a message; a row: as they are read. -/
def kyF (s : St) : Int × St := (((ntS 63 s).1 : Nat), (ntS 63 s).2)
def kyR (s : St) : List Int × St := itG kyF (ntS 64 s).1 (ntS 64 s).2
def msgR (s : St) : Msg × St :=
  let u := ntS 1000000 s
  let o := ntS 1000000 u.2
  let d := ntS 1000000 o.2
  let i := txtS 24 d.2
  let f := ntS 1000000 i.2
  let k := kyR f.2
  let x := txtS 300 k.2
  (⟨(u.1 : Nat), (o.1 : Nat), (d.1 : Nat), i.1, (f.1 : Nat), k.1, x.1⟩, x.2)
def nX : ByteArray := ⟨#[]⟩
def roS (s : St) : Row × St :=
  let k := ntS 1000000 s
  if k.1 = 1 then (⟨1, 0, 0, (msgR k.2).1, nX⟩, (msgR k.2).2)
  else if k.1 = 2 then
    let a := ntS 1000000 k.2
    let b := ntS 1000000 a.2
    let f := ntS 1000000 b.2
    let q := kyR f.2
    (⟨2, (a.1 : Nat), (b.1 : Nat), ⟨0, 0, 0, nX, (f.1 : Nat), q.1, nX⟩, nX⟩, q.2)
  else if k.1 = 3 ∨ k.1 = 6 then
    let a := ntS 1000000 k.2
    let b := ntS 1000000 a.2
    (⟨(k.1 : Nat), (a.1 : Nat), (b.1 : Nat), noM, nX⟩, b.2)
  else if k.1 = 4 then (⟨4, 0, 0, noM, (txtS 24 k.2).1⟩, (txtS 24 k.2).2)
  else if k.1 = 5 then
    let a := ntS 1000000 k.2
    (⟨5, (a.1 : Nat), 0, noM, (txtS 24 a.2).1⟩, (txtS 24 a.2).2)
  else if k.1 = 7 then (⟨7, 0, ((ntS 1000000 k.2).1 : Nat), noM, nX⟩, (ntS 1000000 k.2).2)
  else (⟨(k.1 : Nat), 0, 0, noM, nX⟩, rfS k.2)
/-- Rows, until nothing is left; 200 at most. -/
def prR : Nat → List Row → St → List Row × Int
  | 0, acc, _ => (acc, 0)
  | f + 1, acc, s => if s.1.length = 0 then (acc, 0) else if acc.length = 200 then ([], 4) else if firstS (roS s).2 = 0 then prR f (acc ++ [(roS s).1]) (roS s).2 else ([], (firstS (roS s).2 : Nat))
def parseR (l : List UInt8) : List Row × Int := prR 202 [] (l, 0, false)
/-- A row is told by its bytes, and by nothing else. -/
def backR (r : Row) : Bool := decide (parseR (rob r) = ([r], 0))
def bytesR (l : List Row) : List UInt8 := if 200 < l.length then [] else if l.all backR then l.flatMap rob else []
theorem bytes_parts {l a b : List Row} (e : l = a ++ b) : bytesR l = [] ∨ bytesR l = bytesR a ++ bytesR b := by
  subst e
  unfold bytesR
  by_cases h : 200 < (a ++ b).length
  · exact .inl (if_pos h)
  rw [List.length_append] at h
  by_cases h2 : (a ++ b).all backR = true
  · right
    have h3 := h2
    rw [List.all_append, Bool.and_eq_true] at h3
    rw [if_neg (by rw [List.length_append]; omega), if_pos h2, if_neg (by omega), if_pos h3.1, if_neg (by omega), if_pos h3.2, List.flatMap_append]
  · left
    rw [if_neg (by rw [List.length_append]; omega), if_neg h2]
theorem txt_small (m : Nat) (s : St) : (txtS m s).1.size ≤ m := by
  unfold txtS
  split
  · exact Nat.zero_le _
  · have h : (PkF.tz s.1 m).1.length ≤ m := by
      unfold PkF.tz
      split
      · simp
      · split
        · simp
        · split
          · simp
          · rename_i h1 h2 h3
            simp only [List.length_take]
            omega
    show (PkF.tz s.1 m).1.toArray.size ≤ m
    simpa using h
theorem kyR_small (s : St) : (kyR s).1.length ≤ 64 := by
  unfold kyR
  rw [itG_len]
  exact nt_le _ _
theorem msgR_small (s : St) : (msgR s).1.keys.length ≤ 64 ∧ (msgR s).1.id.size ≤ 300 ∧ (msgR s).1.text.size ≤ 300 := by
  unfold msgR
  generalize ntS 1000000 = N
  exact ⟨kyR_small _, Nat.le_trans (txt_small 24 _) (by decide), txt_small 300 _⟩
/-- A row that was read is small. -/
theorem ro_small (s : St) : (roS s).1.msg.keys.length ≤ 64 ∧ (roS s).1.msg.id.size ≤ 300 ∧ (roS s).1.msg.text.size ≤ 300 ∧ (roS s).1.text.size ≤ 300 := by
  have z : nX.size ≤ 300 := Nat.zero_le _
  have t := fun s => Nat.le_trans (txt_small 24 s) (show 24 ≤ 300 by decide)
  have m := msgR_small
  have n0 : noM.keys.length ≤ 64 ∧ noM.id.size ≤ 300 ∧ noM.text.size ≤ 300 := ⟨Nat.zero_le _, Nat.zero_le _, Nat.zero_le _⟩
  unfold roS
  generalize ntS 1000000 = N
  simp only
  by_cases h1 : (N s).1 = 1
  · rw [if_pos h1]
    exact ⟨(m _).1, (m _).2.1, (m _).2.2, z⟩
  rw [if_neg h1]
  by_cases h2 : (N s).1 = 2
  · rw [if_pos h2]
    exact ⟨kyR_small _, z, z, z⟩
  rw [if_neg h2]
  by_cases h3 : (N s).1 = 3 ∨ (N s).1 = 6
  · rw [if_pos h3]
    exact ⟨n0.1, n0.2.1, n0.2.2, z⟩
  rw [if_neg h3]
  by_cases h4 : (N s).1 = 4
  · rw [if_pos h4]
    exact ⟨n0.1, n0.2.1, n0.2.2, t _⟩
  rw [if_neg h4]
  by_cases h5 : (N s).1 = 5
  · rw [if_pos h5]
    exact ⟨n0.1, n0.2.1, n0.2.2, t _⟩
  rw [if_neg h5]
  by_cases h7 : (N s).1 = 7
  · rw [if_pos h7]
    exact ⟨n0.1, n0.2.1, n0.2.2, z⟩
  · rw [if_neg h7]
    exact ⟨n0.1, n0.2.1, n0.2.2, z⟩
end Go.Proofs.YtchlbbndfhibgaaGreatDoor.RpD
