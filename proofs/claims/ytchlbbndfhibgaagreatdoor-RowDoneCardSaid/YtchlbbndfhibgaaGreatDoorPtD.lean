/-
  Numbers of few bytes, one behind the other; what a reader of parts tells, whatever the bytes are; what was read is what was written: pure.
-/
import Derived.Test.YtchlbbndfhibgaaGreatDoorJ1
import Derived.Test.YtchlbbndfhibgaaGreatDoorOlD
set_option linter.unusedVariables false
set_option linter.unusedSimpArgs false
namespace Go.Proofs.YtchlbbndfhibgaaGreatDoor.PtD
open Go.RowKit Go.Proofs.YtchlbbndfhibgaaGreatDoor.BxD Go.Proofs.YtchlbbndfhibgaaGreatDoor.BxOp Go.Proofs.YtchlbbndfhibgaaGreatDoor.PkA Go.Proofs.YtchlbbndfhibgaaGreatDoor.PkB Go.Proofs.YtchlbbndfhibgaaGreatDoor.PkD Go.Proofs.YtchlbbndfhibgaaGreatDoor.PkF Go.Proofs.YtchlbbndfhibgaaGreatDoor.OlD

/-- What a message of a box that may be is. -/
theorem mm_parts {n : Nat} {m : Msg} (h : mmB n m = true) : (1 ≤ m.uid ∧ m.uid ≤ 999999) ∧ (1 ≤ m.mod ∧ m.mod ≤ 1000000) ∧ (0 ≤ m.date ∧ m.date ≤ 1000000) ∧ atB m.id = true ∧ (0 ≤ m.flags ∧ m.flags ≤ 31) ∧ keysB m.keys n = true ∧ m.text.size ≤ 300 := by
  unfold mmB at h
  simp only [Bool.and_eq_true, decide_eq_true_eq] at h
  obtain ⟨h1, h2, h3, h4, h5, h6, h7⟩ := h
  exact ⟨inB_out h1, inB_out h2, inB_out h3, h4, inB_out h5, h6, h7⟩
theorem mm_of {n : Nat} {m : Msg} (h1 : 1 ≤ m.uid ∧ m.uid ≤ 999999) (h2 : 1 ≤ m.mod ∧ m.mod ≤ 1000000) (h3 : 0 ≤ m.date ∧ m.date ≤ 1000000) (h4 : atB m.id = true) (h5 : 0 ≤ m.flags ∧ m.flags ≤ 31) (h6 : keysB m.keys n = true) (h7 : m.text.size ≤ 300) : mmB n m = true := by
  unfold mmB
  simp only [Bool.and_eq_true, decide_eq_true_eq]
  exact ⟨inB_true h1.1 h1.2, inB_true h2.1 h2.2, inB_true h3.1 h3.2, h4, inB_true h5.1 h5.2, h6, h7⟩
/-- What a box that may be is. -/
structure Good (b : Box) : Prop where
  ida : atB b.id = true
  ids : b.id.size ≤ 12
  val : 1 ≤ b.valid ∧ b.valid ≤ 1000000
  hig : 1 ≤ b.high ∧ b.high ≤ 1000000
  nxt : 1 ≤ b.next ∧ b.next ≤ 1000000
  wl : b.words.length ≤ 64
  ml : b.msgs.length ≤ 60
  ws : wordsB b.words = true
  ms : ∀ m ∈ b.msgs, okOne b m
  ri : Rises b.msgs
theorem good_of {b : Box} (h : mbE b = 0) : Good b := by
  obtain ⟨h1, h2, h3, h4⟩ := mb_ok h
  unfold headB at h1
  simp only [Bool.and_eq_true, decide_eq_true_eq] at h1
  obtain ⟨a1, a2, a3, a4, a5⟩ := h1
  obtain ⟨m1, m2⟩ := (msgsB_iff b).1 h4
  exact ⟨a1, a2, inB_out a3, inB_out a4, inB_out a5, by omega, by omega, h3, m1, m2⟩
theorem good_may {b : Box} (h : Good b) : mbE b = 0 := by
  refine mb_of ?_ ?_ h.ws ((msgsB_iff b).2 ⟨h.ms, h.ri⟩)
  · unfold headB
    simp only [Bool.and_eq_true, decide_eq_true_eq]
    exact ⟨h.ida, h.ids, inB_true h.val.1 h.val.2, inB_true h.hig.1 h.hig.2, inB_true h.nxt.1 h.nxt.2⟩
  · have := h.wl; have := h.ml; omega
theorem wordsB_at {ws : List ByteArray} (h : wordsB ws = true) : ∀ s ∈ ws, atB s = true := by
  intro s hs
  obtain ⟨i, hi⟩ := List.mem_iff_getElem?.1 hs
  have := (of_decide_eq_true h) i (List.getElem?_eq_some_iff.1 hi).1
  unfold okW at this
  rw [getD_some _ hi] at this
  exact this.1
theorem wordsB_take {ws : List ByteArray} (h : wordsB ws = true) (k : Nat) : wordsB (ws.take k) = true := by
  refine decide_eq_true fun i hi => ?_
  rw [List.length_take] at hi
  have hi2 : i < ws.length := by omega
  have := (of_decide_eq_true h) i hi2
  unfold okW at this ⊢
  have e : (ws.take k)[i]? = ws[i]? := by rw [List.getElem?_take, if_pos (by omega)]
  rw [List.getD_eq_getElem?_getD, e, ← List.getD_eq_getElem?_getD, List.take_take, Nat.min_eq_left (by omega)]
  exact this

/-- Numbers of few bytes, one behind the other. -/
def nums (zs : List Int) : List UInt8 := zs.flatMap fun z => Lib.uvarint (cl z)
theorem nums_snoc {zs : List Int} {k : Nat} {x : Int} (h : zs[k]? = some x) : nums (zs.take (k + 1)) = nums (zs.take k) ++ Lib.uvarint (cl x) := by
  obtain ⟨hl, rfl⟩ := List.getElem?_eq_some_iff.1 h
  unfold nums
  rw [List.take_succ_eq_append_getElem hl, List.flatMap_append]
  simp
theorem nums_len (zs : List Int) : (nums zs).length ≤ 6 * zs.length := by
  induction zs with
  | nil => exact Nat.le_refl _
  | cons z zs ih =>
    have h1 := uv_len (cl_le z)
    unfold nums at ih ⊢
    rw [List.flatMap_cons, List.length_append, List.length_cons]
    omega
theorem nums_cons (z : Int) (zs : List Int) : nums (z :: zs) = nums [z] ++ nums zs := by simp [nums]
theorem nums_one (z : Int) : nums [z] = Lib.uvarint (cl z) := by simp [nums]
theorem nums_nil : nums [] = [] := rfl

/-- A number of few bytes; one of m at most. -/
def numV (s : St) : Nat × St := if s.2.1 ≠ 0 then (0, s) else ((ps s.1).1, (s.1.drop (ps s.1).2.1, (ps s.1).2.2, s.2.2))
def ntS (m : Nat) (s : St) : Nat × St := if m < (numV s).1 then (0, ((numV s).2.1, (numV s).2.2.1, true)) else numV s
theorem nt_le (m : Nat) (s : St) : (ntS m s).1 ≤ m := by
  unfold ntS
  split
  · exact Nat.zero_le _
  · omega
theorem nt_good {z : Int} {m : Nat} (h0 : 0 ≤ z) (hz : z ≤ m) (hm : m ≤ 1099511627776) (rest : List UInt8) (ov : Bool) : ntS m (nums [z] ++ rest, 0, ov) = (z.toNat, (rest, 0, ov)) := by
  have hc : cl z = z.toNat := by unfold cl; omega
  have hv : numV (nums [z] ++ rest, 0, ov) = (z.toNat, (rest, 0, ov)) := by
    unfold numV
    rw [if_neg (by simp), nums_one, hc]
    simp only
    rw [ps_uv (by omega)]
    simp only [List.drop_left' rfl]
  unfold ntS
  rw [hv, if_neg (by omega)]
theorem txt_good {s : ByteArray} {m : Nat} (h : s.size ≤ m) (hm : m ≤ 300) (rest : List UInt8) (ov : Bool) : txtS m (tx s ++ rest, 0, ov) = (s, (rest, 0, ov)) := by
  unfold txtS
  rw [if_neg (by simp)]
  simp only [tz_gen h hm rest]
/-- So many, one behind the other, with a state of their own. -/
def itG {σ α : Type} (f : σ → α × σ) : Nat → σ → List α × σ
  | 0, s => ([], s)
  | k + 1, s => ((itG f k s).1 ++ [(f (itG f k s).2).1], (f (itG f k s).2).2)
theorem itG_len {σ α : Type} (f : σ → α × σ) : ∀ (k : Nat) (s : σ), (itG f k s).1.length = k
  | 0, _ => rfl
  | k + 1, s => by
    unfold itG
    rw [List.length_append, itG_len f k s]
    rfl
theorem itG_cons {σ α : Type} (f : σ → α × σ) : ∀ (k : Nat) (s : σ), itG f (k + 1) s = ((f s).1 :: (itG f k (f s).2).1, (itG f k (f s).2).2)
  | 0, _ => rfl
  | k + 1, s => by
    have h := itG_cons f k s
    show ((itG f (k + 1) s).1 ++ [(f (itG f (k + 1) s).2).1], (f (itG f (k + 1) s).2).2) = _
    rw [h]
    rfl
theorem it_itG {α : Type} (f : St → α × St) : ∀ (k : Nat) (s : St), itS f k s = itG f k s
  | 0, _ => rfl
  | k + 1, s => by
    unfold itS itG
    rw [it_itG f k s]

/-! What was read is what was written. -/
def Okk (s : St) : Prop := s.2.1 = 0 ∧ s.2.2 = false
/-- All is well behind it: so it was ahead of it, and just these bytes were read. -/
def Rv (s : St) (l : List UInt8) (s' : St) : Prop := Okk s' → Okk s ∧ s.1 = l ++ s'.1
theorem Rv.refl (s : St) : Rv s [] s := fun h => ⟨h, rfl⟩
theorem Rv.trans {s s1 s2 : St} {a b : List UInt8} (h : Rv s a s1) (k : Rv s1 b s2) : Rv s (a ++ b) s2 := fun o => by
  obtain ⟨o1, e1⟩ := k o
  obtain ⟨o0, e0⟩ := h o1
  exact ⟨o0, by rw [e0, e1, List.append_assoc]⟩
theorem nt_rv {m : Nat} (hm : m ≤ 1099511627776) (s : St) : Rv s (nums [(((ntS m s).1 : Nat) : Int)]) (ntS m s).2 := by
  obtain ⟨l, er, ov⟩ := s
  rintro ⟨h1, h2⟩
  have hle := nt_le m (l, er, ov)
  rw [nums_one, cl_nat (by omega)]
  unfold ntS at h1 h2 hle ⊢
  split at h2
  · cases h2
  rename_i hn
  rw [if_neg hn] at h1 hle ⊢
  unfold numV at h1 h2 hn ⊢
  by_cases h0 : er = 0
  · subst h0
    simp only [ne_eq, not_true_eq_false, if_false] at h1 h2 ⊢
    obtain ⟨y, r, e1, e2, _, _⟩ := ps_ok h1
    refine ⟨⟨rfl, h2⟩, ?_⟩
    rw [e2]
    simp only
    rw [e1, List.drop_left' rfl]
  · simp only [ne_eq, h0, not_false_eq_true, if_true] at h1
theorem txt_rv {m : Nat} (s : St) : Rv s (tx (txtS m s).1) (txtS m s).2 := by
  obtain ⟨l, er, ov⟩ := s
  rintro ⟨h1, h2⟩
  unfold txtS at h1 h2 ⊢
  by_cases h0 : er = 0
  · subst h0
    simp only [ne_eq, not_true_eq_false, if_false] at h1 h2 ⊢
    unfold tz at h1 ⊢
    by_cases hp : (ps l).2.2 = 0
    · obtain ⟨y, r, e1, e2, _, _⟩ := ps_ok hp
      rw [if_neg (by simpa using hp)] at h1 ⊢
      by_cases hm : (m : Int) < ((ps l).1 : Nat)
      · rw [if_pos hm] at h1
        cases h1
      rw [if_neg hm] at h1 ⊢
      by_cases hl : l.length < (ps l).2.1 + (ps l).1
      · rw [if_pos hl] at h1
        cases h1
      rw [if_neg hl] at h1 ⊢
      refine ⟨⟨rfl, h2⟩, ?_⟩
      simp only
      rw [e2] at hl ⊢
      simp only at hl ⊢
      rw [e1] at hl ⊢
      rw [List.length_append] at hl
      rw [List.drop_left' rfl, ← List.drop_drop, List.drop_left' rfl]
      unfold tx
      have hs : ((⟨(r.take y).toArray⟩ : ByteArray)).size = y := by
        show (r.take y).toArray.size = y
        rw [List.size_toArray, List.length_take]; omega
      rw [hs]
      simp
    · rw [if_pos (by simpa using hp)] at h1
      exact absurd h1 hp
  · simp only [ne_eq, h0, not_false_eq_true, if_true] at h1
theorem words_rv : ∀ (k : Nat) (s : St), Rv s ((itS (txtS 24) k s).1.flatMap tx) (itS (txtS 24) k s).2
  | 0, s => Rv.refl s
  | k + 1, s => by
    unfold itS
    rw [List.flatMap_append]
    have h := (words_rv k s).trans (txt_rv (m := 24) (itS (txtS 24) k s).2)
    simpa using h

/-! Errors: the end, or no such thing. -/
def Erk (s : St) : Prop := s.2.1 = 0 ∨ s.2.1 = 2 ∨ s.2.1 = 3
theorem nt_er {s : St} (m : Nat) (h : Erk s) : Erk (ntS m s).2 := by
  have hv : Erk (numV s).2 := by
    unfold numV
    split
    · exact h
    · by_cases hp : (ps s.1).2.2 = 0
      · exact .inl hp
      · rcases ps_err hp with e | e
        · right; left; simp only [e]
        · right; right; simp only [e]
  unfold ntS
  split
  · exact hv
  · exact hv
theorem txt_er {s : St} (m : Int) (h : Erk s) : Erk (txtS m s).2 := by
  unfold txtS
  split
  · exact h
  · show Erk ((tz s.1 m).2.1, (tz s.1 m).2.2, s.2.2)
    unfold tz
    split
    · rename_i hp
      rcases ps_err hp with e | e
      · right; left; simp only [e]
      · right; right; simp only [e]
    · split
      · exact .inr (.inr rfl)
      · split
        · exact .inr (.inl rfl)
        · exact .inl rfl
theorem itG_er {σ α : Type} {f : σ → α × σ} {g : σ → St} (hf : ∀ s, Erk (g s) → Erk (g (f s).2)) : ∀ (k : Nat) (s : σ), Erk (g s) → Erk (g (itG f k s).2)
  | 0, _, h => h
  | k + 1, s, h => hf _ (itG_er hf k s h)
theorem first_er {s : St} (h : Erk s) : firstS s = 0 ∨ firstS s = 2 ∨ firstS s = 3 := by
  unfold firstS
  split
  · exact .inr (.inr rfl)
  · exact h
theorem first_ok {s : St} : firstS s = 0 ↔ Okk s := by
  obtain ⟨l, er, ov⟩ := s
  unfold firstS Okk
  cases ov <;> simp
end Go.Proofs.YtchlbbndfhibgaaGreatDoor.PtD
