/-
  BxD
-/
import Derived.Test.YtolkghdeppoanaaRows
import Derived.Lib.Hide
import Derived.Lib.ItoaNum
set_option linter.unusedVariables false
set_option linter.unusedSimpArgs false
namespace Go.Proofs.Ytolkghdeppoanaa.BxD
open Go.RowKit

theorem ba_beq (a b : ByteArray) : (a == b) = (a.data == b.data) := by cases a; cases b; rfl
instance ba_law : LawfulBEq ByteArray where
  eq_of_beq {a b} h := by
    rw [ba_beq] at h
    exact ByteArray.ext (eq_of_beq h)
  rfl {a} := by rw [ba_beq]; simp
instance ba_dec : DecidableEq ByteArray := fun a b => decidable_of_iff (a.data = b.data) ⟨fun h => ByteArray.ext h, fun h => by rw [h]⟩

/-- A message. -/
structure Msg where
  uid : Int
  mod : Int
  date : Int
  id : ByteArray
  flags : Int
  keys : List Int
  text : ByteArray
theorem Msg.same {a b : Msg} : (a.uid = b.uid ∧ a.mod = b.mod ∧ a.date = b.date ∧ a.id = b.id ∧ a.flags = b.flags ∧ a.keys = b.keys ∧ a.text = b.text) ↔ a = b := by
  cases a; cases b; simp
instance Msg.dec : DecidableEq Msg := fun _ _ => decidable_of_iff _ Msg.same
/-- A box. -/
structure Box where
  id : ByteArray
  valid : Int
  next : Int
  high : Int
  words : List ByteArray
  msgs : List Msg
theorem Box.same {a b : Box} : (a.id = b.id ∧ a.valid = b.valid ∧ a.next = b.next ∧ a.high = b.high ∧ a.words = b.words ∧ a.msgs = b.msgs) ↔ a = b := by
  cases a; cases b; simp
instance Box.dec : DecidableEq Box := fun _ _ => decidable_of_iff _ Box.same

/-- May the byte stand in an atom? -/
def signs : List UInt8 := [46, 95, 45, 36, 47]
def atC (c : UInt8) : Bool :=
  (decide (97 ≤ c.toNat) && decide (c.toNat ≤ 122)) || (decide (65 ≤ c.toNat) && decide (c.toNat ≤ 90)) || (decide (48 ≤ c.toNat) && decide (c.toNat ≤ 57)) || signs.contains c
/-- Is the text an atom? -/
def atB (s : ByteArray) : Bool := decide (1 ≤ s.size) && decide (s.size ≤ 24) && s.data.toList.all atC
theorem atB_short {s : ByteArray} (h : s.size < 1) : atB s = false := by unfold atB; rw [decide_eq_false (show ¬ 1 ≤ s.size by omega)]; rfl
theorem atB_long {s : ByteArray} (h : 24 < s.size) : atB s = false := by unfold atB; rw [decide_eq_false (show ¬ s.size ≤ 24 by omega)]; simp
theorem atB_bad {s : ByteArray} {k : Nat} (h : k < s.size) (hc : atC s[k] = false) : atB s = false := by
  unfold atB
  have : s.data.toList.all atC = false := by
    rw [List.all_eq_false]
    exact ⟨s.data[k]'h, by simp, by have e : s.data[k]'h = s[k] := rfl; rw [e, hc]; decide⟩
  rw [this]; simp
theorem atB_good {s : ByteArray} {k : Nat} (h1 : 1 ≤ s.size) (h2 : s.size ≤ 24) (hk : k = s.size) (h : (s.data.toList.take k).all atC = true) : atB s = true := by
  unfold atB
  rw [List.take_of_length_le (by simp; omega)] at h
  rw [h, decide_eq_true h1, decide_eq_true h2]; rfl
theorem atB_size {s : ByteArray} (h : atB s = true) : 1 ≤ s.size ∧ s.size ≤ 24 := by
  unfold atB at h
  simp only [Bool.and_eq_true, decide_eq_true_eq] at h
  exact h.1
theorem atC_snoc (s : ByteArray) (k : Nat) (h : k < s.size) : (s.data.toList.take (k + 1)).all atC = ((s.data.toList.take k).all atC && atC s[k]) := by
  rw [List.take_succ_eq_append_getElem (by simpa using h), List.all_append]; simp; rfl

/-- What must be below the i-th key. -/
def pk (ks : List Int) (i : Nat) : Int := if i = 0 then -1 else ks.getD (i - 1) 0
def okK (ks : List Int) (n : Nat) (i : Nat) : Prop := pk ks i < ks.getD i 0 ∧ ks.getD i 0 < (n : Int)
instance okK_dec (ks : List Int) (n i : Nat) : Decidable (okK ks n i) := inferInstanceAs (Decidable (_ ∧ _))
/-- Do the keys rise, all below n? -/
def keysB (ks : List Int) (n : Nat) : Bool := decide (∀ i, i < ks.length → okK ks n i)
theorem getD_some {α : Type} {l : List α} {i : Nat} {x : α} (d : α) (h : l[i]? = some x) : l.getD i d = x := by rw [List.getD_eq_getElem?_getD, h]; rfl
theorem pk_zero (ks : List Int) : pk ks 0 = -1 := rfl
theorem pk_succ {ks : List Int} {i : Nat} {x : Int} (h : ks[i]? = some x) : pk ks (i + 1) = x := by unfold pk; rw [if_neg (by omega), Nat.add_sub_cancel, getD_some 0 h]
theorem keysB_bad {ks : List Int} {n i : Nat} {x : Int} (hx : ks[i]? = some x) (h : x ≤ pk ks i ∨ (n : Int) ≤ x) : keysB ks n = false := by
  refine decide_eq_false fun H => ?_
  have hi : i < ks.length := (List.getElem?_eq_some_iff.1 hx).1
  obtain ⟨h1, h2⟩ := H i hi
  rw [getD_some 0 hx] at h1 h2
  omega
theorem keysB_good {ks : List Int} {n k : Nat} (hk : ks.length ≤ k) (h : ∀ i, i < k → okK ks n i) : keysB ks n = true := decide_eq_true fun i hi => h i (by omega)
theorem okK_next {ks : List Int} {n k : Nat} {x : Int} (h : ∀ i, i < k → okK ks n i) (hx : ks[k]? = some x) (h1 : pk ks k < x) (h2 : x < (n : Int)) : ∀ i, i < k + 1 → okK ks n i := by
  intro i hi
  by_cases he : i = k
  · subst he; exact ⟨by rw [getD_some 0 hx]; exact h1, by rw [getD_some 0 hx]; exact h2⟩
  · exact h i (by omega)

/-- Is n from a to b? -/
def inB (a n b : Int) : Bool := decide (a ≤ n ∧ n ≤ b)
theorem inB_true {a n b : Int} (h1 : a ≤ n) (h2 : n ≤ b) : inB a n b = true := decide_eq_true ⟨h1, h2⟩
theorem inB_false {a n b : Int} (h : n < a ∨ b < n) : inB a n b = false := decide_eq_false (by omega)
theorem inB_out {a n b : Int} (h : inB a n b = true) : a ≤ n ∧ n ≤ b := of_decide_eq_true h
theorem inB_not {a n b : Int} (h : inB a n b = false) : n < a ∨ b < n := by have := of_decide_eq_false h; omega
/-- May the message be one of a box of n words? -/
def mmB (n : Nat) (m : Msg) : Bool :=
  inB 1 m.uid 999999 && (inB 1 m.mod 1000000 && (inB 0 m.date 1000000 && (atB m.id && (inB 0 m.flags 31 && (keysB m.keys n && decide (m.text.size ≤ 300))))))
def mmE (n : Nat) (m : Msg) : Int := if mmB n m then 0 else 1

/-- May the words be a box's? -/
def okW (ws : List ByteArray) (i : Nat) : Prop := atB (ws.getD i ⟨#[]⟩) = true ∧ ws.getD i ⟨#[]⟩ ∉ ws.take i
instance okW_dec (ws : List ByteArray) (i : Nat) : Decidable (okW ws i) := inferInstanceAs (Decidable (_ ∧ _))
def wordsB (ws : List ByteArray) : Bool := decide (∀ i, i < ws.length → okW ws i)
theorem wordsB_bad {ws : List ByteArray} {i : Nat} {x : ByteArray} (hx : ws[i]? = some x) (h : atB x = false ∨ x ∈ ws.take i) : wordsB ws = false := by
  refine decide_eq_false fun H => ?_
  have hi : i < ws.length := (List.getElem?_eq_some_iff.1 hx).1
  obtain ⟨h1, h2⟩ := H i hi
  rw [getD_some _ hx] at h1 h2
  rcases h with h | h
  · rw [h] at h1; cases h1
  · exact h2 h
theorem wordsB_good {ws : List ByteArray} {k : Nat} (hk : ws.length ≤ k) (h : ∀ i, i < k → okW ws i) : wordsB ws = true := decide_eq_true fun i hi => h i (by omega)
theorem okW_next {ws : List ByteArray} {k : Nat} {x : ByteArray} (h : ∀ i, i < k → okW ws i) (hx : ws[k]? = some x) (h1 : atB x = true) (h2 : x ∉ ws.take k) : ∀ i, i < k + 1 → okW ws i := by
  intro i hi
  by_cases he : i = k
  · subst he; exact ⟨by rw [getD_some _ hx]; exact h1, by rw [getD_some _ hx]; exact h2⟩
  · exact h i (by omega)

/-- What the i-th UID must be above. -/
def pu (ms : List Msg) (i : Nat) : Int := if i = 0 then 0 else (ms[i - 1]?.map Msg.uid).getD 0
theorem pu_zero (ms : List Msg) : pu ms 0 = 0 := rfl
theorem pu_succ {ms : List Msg} {i : Nat} {m : Msg} (h : ms[i]? = some m) : pu ms (i + 1) = m.uid := by unfold pu; rw [if_neg (by omega), Nat.add_sub_cancel, h]; rfl
def okM (b : Box) (i : Nat) : Prop := ∀ m, b.msgs[i]? = some m → mmB b.words.length m = true ∧ pu b.msgs i < m.uid ∧ m.uid < b.next ∧ m.mod ≤ b.high
theorem okM_iff (b : Box) (i : Nat) : ((b.msgs[i]?.all fun m => mmB b.words.length m && (decide (pu b.msgs i < m.uid) && (decide (m.uid < b.next) && decide (m.mod ≤ b.high)))) = true) ↔ okM b i := by
  unfold okM
  cases b.msgs[i]? with
  | none => simp
  | some m => simp
instance okM_dec (b : Box) (i : Nat) : Decidable (okM b i) := decidable_of_iff _ (okM_iff b i)
def msgsB (b : Box) : Bool := decide (∀ i, i < b.msgs.length → okM b i)
theorem msgsB_bad {b : Box} {i : Nat} {m : Msg} (hx : b.msgs[i]? = some m) (h : mmB b.words.length m = false ∨ m.uid ≤ pu b.msgs i ∨ b.next ≤ m.uid ∨ b.high < m.mod) : msgsB b = false := by
  refine decide_eq_false fun H => ?_
  have hi : i < b.msgs.length := (List.getElem?_eq_some_iff.1 hx).1
  obtain ⟨h1, h2, h3, h4⟩ := H i hi m hx
  rcases h with h | h | h | h
  · rw [h] at h1; cases h1
  all_goals omega
theorem msgsB_good {b : Box} {k : Nat} (hk : b.msgs.length ≤ k) (h : ∀ i, i < k → okM b i) : msgsB b = true := decide_eq_true fun i hi => h i (by omega)
theorem okM_next {b : Box} {k : Nat} {m : Msg} (h : ∀ i, i < k → okM b i) (hx : b.msgs[k]? = some m) (h1 : mmB b.words.length m = true) (h2 : pu b.msgs k < m.uid) (h3 : m.uid < b.next) (h4 : m.mod ≤ b.high) : ∀ i, i < k + 1 → okM b i := by
  intro i hi
  by_cases he : i = k
  · subst he
    intro m' hm'
    obtain rfl : m = m' := Option.some.inj (hx.symm.trans hm')
    exact ⟨h1, h2, h3, h4⟩
  · exact h i (by omega)

/-- May the box's own numbers be? -/
def headB (b : Box) : Bool :=
  atB b.id && (decide (b.id.size ≤ 12) && (inB 1 b.valid 1000000 && (inB 1 b.high 1000000 && inB 1 b.next 1000000)))
def mbE (b : Box) : Int :=
  if headB b then if 64 < b.words.length ∨ 60 < b.msgs.length then 4 else if wordsB b.words then if msgsB b then 0 else 1 else 1 else 1

/-- Where is the UID? -/
def findI (ms : List Msg) (u : Int) : Int := match ms.findIdx? (fun m => decide (m.uid = u)) with
  | some i => (i : Int)
  | none => -1
theorem findI_hit {ms : List Msg} {u : Int} {k : Nat} {m : Msg} (h : ∀ i x, i < k → ms[i]? = some x → x.uid ≠ u) (hm : ms[k]? = some m) (hu : m.uid = u) : findI ms u = k := by
  have : ms.findIdx? (fun m => decide (m.uid = u)) = some k := by
    rw [List.findIdx?_eq_some_iff_getElem]
    obtain ⟨hk, e⟩ := List.getElem?_eq_some_iff.1 hm
    refine ⟨hk, by rw [e]; exact decide_eq_true hu, fun j hj => ?_⟩
    have := h j _ hj (List.getElem?_eq_getElem (by omega))
    simpa using this
  unfold findI
  rw [this]
theorem findI_none {ms : List Msg} {u : Int} (h : ∀ x, x ∈ ms → x.uid ≠ u) : findI ms u = -1 := by
  have : ms.findIdx? (fun m => decide (m.uid = u)) = none := by
    rw [List.findIdx?_eq_none_iff]
    intro x hx
    simpa using h x hx
  unfold findI
  rw [this]

/-- The words of keys. -/
def word1 (ws : List ByteArray) (k : Int) : List ByteArray := if 0 ≤ k then (ws[k.toNat]?).toList else []
def wordsOf (ws : List ByteArray) (ks : List Int) : List ByteArray := ks.flatMap (word1 ws)
theorem wordsOf_snoc {ws : List ByteArray} {ks : List Int} {k : Nat} {x : Int} (hx : ks[k]? = some x) : wordsOf ws (ks.take (k + 1)) = wordsOf ws (ks.take k) ++ word1 ws x := by
  obtain ⟨hl, rfl⟩ := List.getElem?_eq_some_iff.1 hx
  unfold wordsOf
  rw [List.take_succ_eq_append_getElem hl, List.flatMap_append]; simp
theorem word1_in {ws : List ByteArray} {x : Int} {s : ByteArray} (h0 : 0 ≤ x) (hs : ws[x.toNat]? = some s) : word1 ws x = [s] := by unfold word1; rw [if_pos h0, hs]; rfl
theorem word1_low {ws : List ByteArray} {x : Int} (h0 : x < 0) : word1 ws x = [] := by unfold word1; rw [if_neg (by omega)]
theorem word1_high {ws : List ByteArray} {x : Int} (h0 : (ws.length : Int) ≤ x) : word1 ws x = [] := by
  unfold word1
  rw [if_pos (by omega), List.getElem?_eq_none (by omega)]; rfl
theorem wordsOf_le (ws : List ByteArray) : ∀ ks : List Int, (wordsOf ws ks).length ≤ ks.length
  | [] => Nat.le_refl _
  | k :: r => by
    have := wordsOf_le ws r
    unfold wordsOf at this ⊢
    rw [List.flatMap_cons, List.length_append, List.length_cons]
    have h1 : (word1 ws k).length ≤ 1 := by
      unfold word1
      split
      · cases ws[k.toNat]? <;> simp
      · simp
    omega

/-- How many are unseen? -/
def unB (m : Msg) : Bool := bits .and .i64 m.flags 8 == 0
def unI (ms : List Msg) : Nat := (ms.filter unB).length
theorem unI_snoc {ms : List Msg} {k : Nat} {m : Msg} (hm : ms[k]? = some m) : unI (ms.take (k + 1)) = unI (ms.take k) + if unB m then 1 else 0 := by
  obtain ⟨hl, rfl⟩ := List.getElem?_eq_some_iff.1 hm
  unfold unI
  rw [List.take_succ_eq_append_getElem hl, List.filter_append, List.length_append]
  cases h : unB ms[k] <;> simp [h]
theorem unI_le (ms : List Msg) : unI ms ≤ ms.length := List.length_filter_le _ _

/-- A message's first name. -/
def ownT (id : ByteArray) (u : Int) : ByteArray := (⟨#[101]⟩ ++ ⟨(Lib.itoa (max u 0)).toArray⟩ ++ ⟨#[45]⟩) ++ id
end Go.Proofs.Ytolkghdeppoanaa.BxD
