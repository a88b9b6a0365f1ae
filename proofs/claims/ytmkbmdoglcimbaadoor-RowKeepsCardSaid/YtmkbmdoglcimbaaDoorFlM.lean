/-
  What a row of names splits into: the flags' bits together, and the other names in order, each once. Plain lemmas: nothing here walks.
-/
import Derived.Test.YtmkbmdoglcimbaaDoorFlC
import Derived.Maps.OwnSet
namespace Go.Proofs.YtmkbmdoglcimbaaDoor.FlM
open Go.RowKit Go.Maps Go.Proofs.YtmkbmdoglcimbaaDoor.FlK Go.Proofs.YtmkbmdoglcimbaaDoor.FlB Go.Proofs.YtmkbmdoglcimbaaDoor.FlC

set_option maxRecDepth 100000 in
theorem ba_beq (a b : ByteArray) : (a == b) = (a.data == b.data) := by cases a; cases b; rfl
instance : LawfulBEq ByteArray where
  eq_of_beq {a b} h := by
    rw [ba_beq] at h
    cases a; cases b
    simpa using h
  rfl {a} := by rw [ba_beq]; simp
set_option maxRecDepth 100000 in
theorem bitOf_cases (s : ByteArray) : bitOf s = 1 ∨ bitOf s = 2 ∨ bitOf s = 4 ∨ bitOf s = 8 ∨ bitOf s = 16 ∨ bitOf s = 0 := by
  unfold bitOf
  split
  · exact .inl rfl
  split
  · exact .inr (.inl rfl)
  split
  · exact .inr (.inr (.inl rfl))
  split
  · exact .inr (.inr (.inr (.inl rfl)))
  split
  · exact .inr (.inr (.inr (.inr (.inl rfl))))
  · exact .inr (.inr (.inr (.inr (.inr rfl))))
def bitN (s : ByteArray) : Nat := (bitOf s).toNat
set_option maxRecDepth 100000 in
theorem bitN_cast (s : ByteArray) : bitOf s = (bitN s : Nat) := by
  unfold bitN
  rcases bitOf_cases s with h | h | h | h | h | h <;> rw [h] <;> rfl
set_option maxRecDepth 100000 in
theorem bitN_lt (s : ByteArray) : bitN s < 32 := by
  unfold bitN
  rcases bitOf_cases s with h | h | h | h | h | h <;> rw [h] <;> decide
set_option maxRecDepth 100000 in
theorem or_lt {a b : Nat} (ha : a < 32) (hb : b < 32) : a ||| b < 32 := Nat.or_lt_two_pow (n := 5) ha hb

/-- The bits of the first k names. -/
def fl (zs : List ByteArray) (k : Nat) : Nat := (zs.take k).foldl (fun f s => f ||| bitN s) 0
set_option maxRecDepth 100000 in
theorem fl_succ {zs : List ByteArray} {k : Nat} {x : ByteArray} (h : zs[k]? = some x) : fl zs (k + 1) = fl zs k ||| bitN x := by
  obtain ⟨hl, rfl⟩ := List.getElem?_eq_some_iff.1 h
  unfold fl
  rw [List.take_succ_eq_append_getElem hl, List.foldl_append]; rfl
set_option maxRecDepth 100000 in
theorem fl_lt (zs : List ByteArray) (k : Nat) : fl zs k < 32 := by
  unfold fl
  generalize zs.take k = l
  suffices ∀ (l : List ByteArray) (a : Nat), a < 32 → l.foldl (fun f s => f ||| bitN s) a < 32 from this l 0 (by decide)
  intro l
  induction l with
  | nil => intro a h; exact h
  | cons s l ih => intro a h; exact ih _ (or_lt h (bitN_lt s))

def addW (acc : List ByteArray) (s : ByteArray) : List ByteArray := if bitOf s ≠ 0 then acc else if s ∈ acc then acc else acc ++ [s]
/-- The words among the first k names, each once. -/
def wd (zs : List ByteArray) (k : Nat) : List ByteArray := (zs.take k).foldl addW []
set_option maxRecDepth 100000 in
theorem wd_succ {zs : List ByteArray} {k : Nat} {x : ByteArray} (h : zs[k]? = some x) : wd zs (k + 1) = addW (wd zs k) x := by
  obtain ⟨hl, rfl⟩ := List.getElem?_eq_some_iff.1 h
  unfold wd
  rw [List.take_succ_eq_append_getElem hl, List.foldl_append]; rfl
set_option maxRecDepth 100000 in
theorem wd_flag {zs : List ByteArray} {k : Nat} {x : ByteArray} (h : zs[k]? = some x) (hb : bitOf x ≠ 0) : wd zs (k + 1) = wd zs k := by
  rw [wd_succ h, addW, if_pos hb]
set_option maxRecDepth 100000 in
theorem wd_old {zs : List ByteArray} {k : Nat} {x : ByteArray} (h : zs[k]? = some x) (hc : x ∈ wd zs k) : wd zs (k + 1) = wd zs k := by
  rw [wd_succ h, addW]
  split
  · rfl
  · rfl
set_option maxRecDepth 100000 in
theorem wd_new {zs : List ByteArray} {k : Nat} {x : ByteArray} (h : zs[k]? = some x) (hb : bitOf x = 0) (hc : x ∉ wd zs k) : wd zs (k + 1) = wd zs k ++ [x] := by
  rw [wd_succ h, addW, if_neg (by simpa using hb), if_neg hc]
set_option maxRecDepth 100000 in
theorem wd_le (zs : List ByteArray) : ∀ k, (wd zs k).length ≤ k
  | 0 => by simp [wd]
  | k + 1 => by
    have ih := wd_le zs k
    by_cases hk : k < zs.length
    · rw [wd_succ (List.getElem?_eq_getElem hk)]
      unfold addW
      split
      · omega
      · split
        · omega
        · simp; omega
    · have : wd zs (k + 1) = wd zs k := by unfold wd; rw [List.take_of_length_le (by omega), List.take_of_length_le (by omega)]
      rw [this]; omega

/-- .. and the set that holds just them. -/
def st (zs : List ByteArray) (k : Nat) : DataW Unit := setOf (.agg []) ((wd zs k).map (fun s => Lit.string s.data.toList))
set_option maxRecDepth 100000 in
theorem st_zero (zs : List ByteArray) : st zs 0 = .map [] := by simp [st, wd, setOf]
set_option maxRecDepth 100000 in
theorem any_str (x : ByteArray) (l : List ByteArray) : l.any ((fun y : Lit => y.sameKey (.string x.data.toList)) ∘ fun s => Lit.string s.data.toList) = decide (x ∈ l) := by
  rw [Bool.eq_iff_iff, List.any_eq_true, decide_eq_true_eq]
  constructor
  · rintro ⟨a, ha, hx⟩
    have hx' : (a.data.toList == x.data.toList) = true := hx
    have : a = x := by cases a; cases x; simp at hx'; rw [hx']
    rwa [← this]
  · intro h
    exact ⟨x, h, by show (x.data.toList == x.data.toList) = true; simp⟩
set_option maxRecDepth 100000 in
theorem has_st (zs : List ByteArray) (k : Nat) (x : ByteArray) : Maps.has (st zs k) (.string x.data.toList) = decide (x ∈ wd zs k) := by
  unfold st
  rw [has_setOf _ _ _ (fun y hy => by obtain ⟨_, _, rfl⟩ := List.mem_map.1 hy; trivial), List.any_map]
  exact any_str x _
set_option maxRecDepth 100000 in
theorem st_same {zs : List ByteArray} {k : Nat} (h : wd zs (k + 1) = wd zs k) : st zs (k + 1) = st zs k := by unfold st; rw [h]
set_option maxRecDepth 100000 in
theorem st_new {zs : List ByteArray} {k : Nat} {x : ByteArray} (h : wd zs (k + 1) = wd zs k ++ [x]) : st zs (k + 1) = (st zs k).put (.string x.data.toList) (.agg []) := by
  unfold st
  rw [h, List.map_append, List.map_singleton, setOf_snoc]

set_option maxRecDepth 100000 in
/-- Or of two small numbers, as the model reckons it. -/
theorem bits_or : ∀ a, a < 32 → ∀ b, b < 32 → bits .or .i64 (a : Nat) (b : Nat) = ((a ||| b : Nat) : Int) := by decide +kernel
end Go.Proofs.YtmkbmdoglcimbaaDoor.FlM
