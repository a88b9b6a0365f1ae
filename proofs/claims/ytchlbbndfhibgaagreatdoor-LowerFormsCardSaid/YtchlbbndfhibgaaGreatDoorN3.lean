/-
  PtD + F3D
-/
import Derived.Test.YtchlbbndfhibgaaGreatDoorJ1
import Derived.Test.YtchlbbndfhibgaaGreatDoorOlD
set_option linter.unusedVariables false
set_option linter.unusedSimpArgs false
namespace Go.Proofs.YtchlbbndfhibgaaGreatDoor.PtD
open Go.RowKit Go.Proofs.YtchlbbndfhibgaaGreatDoor.BxD Go.Proofs.YtchlbbndfhibgaaGreatDoor.BxOp Go.Proofs.YtchlbbndfhibgaaGreatDoor.PkA Go.Proofs.YtchlbbndfhibgaaGreatDoor.PkB Go.Proofs.YtchlbbndfhibgaaGreatDoor.PkD Go.Proofs.YtchlbbndfhibgaaGreatDoor.PkF Go.Proofs.YtchlbbndfhibgaaGreatDoor.OlD

/-- What a message of a box that may be is. -/
theorem mm_parts {n : Nat} {m : Msg} (h : mmB n m = true) : (1 ≤ m.uid ∧ m.uid ≤ 999999) ∧ (1 ≤ m.mod ∧ m.mod ≤ 1000000) ∧ (0 ≤ m.date ∧ m.date ≤ 1000000) ∧ atB m.id = true ∧ (0 ≤ m.flags ∧ m.flags ≤ 31) ∧ keysB m.keys n = true ∧ m.text.size ≤ 300 := by
  unfold mmB at h
  simp only [Bool.and_eq_true, decide_eq_true_eq] at h
  obtain ⟨h1, h2, h3, h4, h5, h6, h7⟩ := h
  exact ⟨inB_out h1, inB_out h2, inB_out h3, h4, inB_out h5, h6, h7⟩
theorem mm_of {n : Nat} {m : Msg} (h1 : 1 ≤ m.uid ∧ m.uid ≤ 999999) (h2 : 1 ≤ m.mod ∧ m.mod ≤ 1000000) (h3 : 0 ≤ m.date ∧ m.date ≤ 1000000) (h4 : atB m.id = true) (h5 : 0 ≤ m.flags ∧ m.flags ≤ 31) (h6 : keysB m.keys n = true) (h7 : m.text.size ≤ 300) : mmB n m = true := by
  unfold mmB
  simp only [Bool.and_eq_true, decide_eq_true_eq]
  exact ⟨inB_true h1.1 h1.2, inB_true h2.1 h2.2, inB_true h3.1 h3.2, h4, inB_true h5.1 h5.2, h6, h7⟩
/-- What a box that may be is. -/
structure Good (b : Box) : Prop where
  ida : atB b.id = true
  ids : b.id.size ≤ 12
  val : 1 ≤ b.valid ∧ b.valid ≤ 1000000
  hig : 1 ≤ b.high ∧ b.high ≤ 1000000
  nxt : 1 ≤ b.next ∧ b.next ≤ 1000000
  wl : b.words.length ≤ 64
  ml : b.msgs.length ≤ 60
  ws : wordsB b.words = true
  ms : ∀ m ∈ b.msgs, okOne b m
  ri : Rises b.msgs
theorem good_of {b : Box} (h : mbE b = 0) : Good b := by
  obtain ⟨h1, h2, h3, h4⟩ := mb_ok h
  unfold headB at h1
  simp only [Bool.and_eq_true, decide_eq_true_eq] at h1
  obtain ⟨a1, a2, a3, a4, a5⟩ := h1
  obtain ⟨m1, m2⟩ := (msgsB_iff b).1 h4
  exact ⟨a1, a2, inB_out a3, inB_out a4, inB_out a5, by omega, by omega, h3, m1, m2⟩
theorem good_may {b : Box} (h : Good b) : mbE b = 0 := by
  refine mb_of ?_ ?_ h.ws ((msgsB_iff b).2 ⟨h.ms, h.ri⟩)
  · unfold headB
    simp only [Bool.and_eq_true, decide_eq_true_eq]
    exact ⟨h.ida, h.ids, inB_true h.val.1 h.val.2, inB_true h.hig.1 h.hig.2, inB_true h.nxt.1 h.nxt.2⟩
  · have := h.wl; have := h.ml; omega
theorem wordsB_at {ws : List ByteArray} (h : wordsB ws = true) : ∀ s ∈ ws, atB s = true := by
  intro s hs
  obtain ⟨i, hi⟩ := List.mem_iff_getElem?.1 hs
  have := (of_decide_eq_true h) i (List.getElem?_eq_some_iff.1 hi).1
  unfold okW at this
  rw [getD_some _ hi] at this
  exact this.1
theorem wordsB_take {ws : List ByteArray} (h : wordsB ws = true) (k : Nat) : wordsB (ws.take k) = true := by
  refine decide_eq_true fun i hi => ?_
  rw [List.length_take] at hi
  have hi2 : i < ws.length := by omega
  have := (of_decide_eq_true h) i hi2
  unfold okW at this ⊢
  have e : (ws.take k)[i]? = ws[i]? := by rw [List.getElem?_take, if_pos (by omega)]
  rw [List.getD_eq_getElem?_getD, e, ← List.getD_eq_getElem?_getD, List.take_take, Nat.min_eq_left (by omega)]
  exact this

/-- Numbers of few bytes, one behind the other. -/
def nums (zs : List Int) : List UInt8 := zs.flatMap fun z => Lib.uvarint (cl z)
theorem nums_snoc {zs : List Int} {k : Nat} {x : Int} (h : zs[k]? = some x) : nums (zs.take (k + 1)) = nums (zs.take k) ++ Lib.uvarint (cl x) := by
  obtain ⟨hl, rfl⟩ := List.getElem?_eq_some_iff.1 h
  unfold nums
  rw [List.take_succ_eq_append_getElem hl, List.flatMap_append]
  simp
theorem nums_len (zs : List Int) : (nums zs).length ≤ 6 * zs.length := by
  induction zs with
  | nil => exact Nat.le_refl _
  | cons z zs ih =>
    have h1 := uv_len (cl_le z)
    unfold nums at ih ⊢
    rw [List.flatMap_cons, List.length_append, List.length_cons]
    omega
theorem nums_cons (z : Int) (zs : List Int) : nums (z :: zs) = nums [z] ++ nums zs := by simp [nums]
theorem nums_one (z : Int) : nums [z] = Lib.uvarint (cl z) := by simp [nums]
theorem nums_nil : nums [] = [] := rfl

/-- A number of few bytes; one of m at most. -/
def numV (s : St) : Nat × St := if s.2.1 ≠ 0 then (0, s) else ((ps s.1).1, (s.1.drop (ps s.1).2.1, (ps s.1).2.2, s.2.2))
def ntS (m : Nat) (s : St) : Nat × St := if m < (numV s).1 then (0, ((numV s).2.1, (numV s).2.2.1, true)) else numV s
theorem nt_le (m : Nat) (s : St) : (ntS m s).1 ≤ m := by
  unfold ntS
  split
  · exact Nat.zero_le _
  · omega
theorem nt_good {z : Int} {m : Nat} (h0 : 0 ≤ z) (hz : z ≤ m) (hm : m ≤ 1099511627776) (rest : List UInt8) (ov : Bool) : ntS m (nums [z] ++ rest, 0, ov) = (z.toNat, (rest, 0, ov)) := by
  have hc : cl z = z.toNat := by unfold cl; omega
  have hv : numV (nums [z] ++ rest, 0, ov) = (z.toNat, (rest, 0, ov)) := by
    unfold numV
    rw [if_neg (by simp), nums_one, hc]
    simp only
    rw [ps_uv (by omega)]
    simp only [List.drop_left' rfl]
  unfold ntS
  rw [hv, if_neg (by omega)]
theorem txt_good {s : ByteArray} {m : Nat} (h : s.size ≤ m) (hm : m ≤ 300) (rest : List UInt8) (ov : Bool) : txtS m (tx s ++ rest, 0, ov) = (s, (rest, 0, ov)) := by
  unfold txtS
  rw [if_neg (by simp)]
  simp only [tz_gen h hm rest]
/-- So many, one behind the other, with a state of their own. -/
def itG {σ α : Type} (f : σ → α × σ) : Nat → σ → List α × σ
  | 0, s => ([], s)
  | k + 1, s => ((itG f k s).1 ++ [(f (itG f k s).2).1], (f (itG f k s).2).2)
theorem itG_len {σ α : Type} (f : σ → α × σ) : ∀ (k : Nat) (s : σ), (itG f k s).1.length = k
  | 0, _ => rfl
  | k + 1, s => by
    unfold itG
    rw [List.length_append, itG_len f k s]
    rfl
theorem itG_cons {σ α : Type} (f : σ → α × σ) : ∀ (k : Nat) (s : σ), itG f (k + 1) s = ((f s).1 :: (itG f k (f s).2).1, (itG f k (f s).2).2)
  | 0, _ => rfl
  | k + 1, s => by
    have h := itG_cons f k s
    show ((itG f (k + 1) s).1 ++ [(f (itG f (k + 1) s).2).1], (f (itG f (k + 1) s).2).2) = _
    rw [h]
    rfl
theorem it_itG {α : Type} (f : St → α × St) : ∀ (k : Nat) (s : St), itS f k s = itG f k s
  | 0, _ => rfl
  | k + 1, s => by
    unfold itS itG
    rw [it_itG f k s]

/-! What was read is what was written. -/
def Okk (s : St) : Prop := s.2.1 = 0 ∧ s.2.2 = false
/-- All is well behind it: so it was ahead of it, and just these bytes were read. -/
def Rv (s : St) (l : List UInt8) (s' : St) : Prop := Okk s' → Okk s ∧ s.1 = l ++ s'.1
theorem Rv.refl (s : St) : Rv s [] s := fun h => ⟨h, rfl⟩
theorem Rv.trans {s s1 s2 : St} {a b : List UInt8} (h : Rv s a s1) (k : Rv s1 b s2) : Rv s (a ++ b) s2 := fun o => by
  obtain ⟨o1, e1⟩ := k o
  obtain ⟨o0, e0⟩ := h o1
  exact ⟨o0, by rw [e0, e1, List.append_assoc]⟩
theorem nt_rv {m : Nat} (hm : m ≤ 1099511627776) (s : St) : Rv s (nums [(((ntS m s).1 : Nat) : Int)]) (ntS m s).2 := by
  obtain ⟨l, er, ov⟩ := s
  rintro ⟨h1, h2⟩
  have hle := nt_le m (l, er, ov)
  rw [nums_one, cl_nat (by omega)]
  unfold ntS at h1 h2 hle ⊢
  split at h2
  · cases h2
  rename_i hn
  rw [if_neg hn] at h1 hle ⊢
  unfold numV at h1 h2 hn ⊢
  by_cases h0 : er = 0
  · subst h0
    simp only [ne_eq, not_true_eq_false, if_false] at h1 h2 ⊢
    obtain ⟨y, r, e1, e2, _, _⟩ := ps_ok h1
    refine ⟨⟨rfl, h2⟩, ?_⟩
    rw [e2]
    simp only
    rw [e1, List.drop_left' rfl]
  · simp only [ne_eq, h0, not_false_eq_true, if_true] at h1
theorem txt_rv {m : Nat} (s : St) : Rv s (tx (txtS m s).1) (txtS m s).2 := by
  obtain ⟨l, er, ov⟩ := s
  rintro ⟨h1, h2⟩
  unfold txtS at h1 h2 ⊢
  by_cases h0 : er = 0
  · subst h0
    simp only [ne_eq, not_true_eq_false, if_false] at h1 h2 ⊢
    unfold tz at h1 ⊢
    by_cases hp : (ps l).2.2 = 0
    · obtain ⟨y, r, e1, e2, _, _⟩ := ps_ok hp
      rw [if_neg (by simpa using hp)] at h1 ⊢
      by_cases hm : (m : Int) < ((ps l).1 : Nat)
      · rw [if_pos hm] at h1
        cases h1
      rw [if_neg hm] at h1 ⊢
      by_cases hl : l.length < (ps l).2.1 + (ps l).1
      · rw [if_pos hl] at h1
        cases h1
      rw [if_neg hl] at h1 ⊢
      refine ⟨⟨rfl, h2⟩, ?_⟩
      simp only
      rw [e2] at hl ⊢
      simp only at hl ⊢
      rw [e1] at hl ⊢
      rw [List.length_append] at hl
      rw [List.drop_left' rfl, ← List.drop_drop, List.drop_left' rfl]
      unfold tx
      have hs : ((⟨(r.take y).toArray⟩ : ByteArray)).size = y := by
        show (r.take y).toArray.size = y
        rw [List.size_toArray, List.length_take]; omega
      rw [hs]
      simp
    · rw [if_pos (by simpa using hp)] at h1
      exact absurd h1 hp
  · simp only [ne_eq, h0, not_false_eq_true, if_true] at h1
theorem words_rv : ∀ (k : Nat) (s : St), Rv s ((itS (txtS 24) k s).1.flatMap tx) (itS (txtS 24) k s).2
  | 0, s => Rv.refl s
  | k + 1, s => by
    unfold itS
    rw [List.flatMap_append]
    have h := (words_rv k s).trans (txt_rv (m := 24) (itS (txtS 24) k s).2)
    simpa using h

/-! Errors: the end, or no such thing. -/
def Erk (s : St) : Prop := s.2.1 = 0 ∨ s.2.1 = 2 ∨ s.2.1 = 3
theorem nt_er {s : St} (m : Nat) (h : Erk s) : Erk (ntS m s).2 := by
  have hv : Erk (numV s).2 := by
    unfold numV
    split
    · exact h
    · by_cases hp : (ps s.1).2.2 = 0
      · exact .inl hp
      · rcases ps_err hp with e | e
        · right; left; simp only [e]
        · right; right; simp only [e]
  unfold ntS
  split
  · exact hv
  · exact hv
theorem txt_er {s : St} (m : Int) (h : Erk s) : Erk (txtS m s).2 := by
  unfold txtS
  split
  · exact h
  · show Erk ((tz s.1 m).2.1, (tz s.1 m).2.2, s.2.2)
    unfold tz
    split
    · rename_i hp
      rcases ps_err hp with e | e
      · right; left; simp only [e]
      · right; right; simp only [e]
    · split
      · exact .inr (.inr rfl)
      · split
        · exact .inr (.inl rfl)
        · exact .inl rfl
theorem itG_er {σ α : Type} {f : σ → α × σ} {g : σ → St} (hf : ∀ s, Erk (g s) → Erk (g (f s).2)) : ∀ (k : Nat) (s : σ), Erk (g s) → Erk (g (itG f k s).2)
  | 0, _, h => h
  | k + 1, s, h => hf _ (itG_er hf k s h)
theorem first_er {s : St} (h : Erk s) : firstS s = 0 ∨ firstS s = 2 ∨ firstS s = 3 := by
  unfold firstS
  split
  · exact .inr (.inr rfl)
  · exact h
theorem first_ok {s : St} : firstS s = 0 ↔ Okk s := by
  obtain ⟨l, er, ov⟩ := s
  unfold firstS Okk
  cases ov <;> simp
end Go.Proofs.YtchlbbndfhibgaaGreatDoor.PtD

namespace Go.Proofs.YtchlbbndfhibgaaGreatDoor.F3D
open Go.RowKit Go.Proofs.YtchlbbndfhibgaaGreatDoor.BxD Go.Proofs.YtchlbbndfhibgaaGreatDoor.BxOp Go.Proofs.YtchlbbndfhibgaaGreatDoor.PkA Go.Proofs.YtchlbbndfhibgaaGreatDoor.PkB Go.Proofs.YtchlbbndfhibgaaGreatDoor.PkD Go.Proofs.YtchlbbndfhibgaaGreatDoor.PkF Go.Proofs.YtchlbbndfhibgaaGreatDoor.OlD Go.Proofs.YtchlbbndfhibgaaGreatDoor.PtD

/-- How much one is above another. -/
def stp (n last : Int) : Int := if n ≤ last then 0 else if last < 0 ∧ 9223372036854775807 + last < n then 9223372036854775807 else n - last
def kb : Int → List Int → List UInt8
  | _, [] => []
  | a, k :: r => nums [stp k a] ++ kb k r
def lst : Int → List Int → Int
  | a, [] => a
  | _, x :: r => lst x r
def m3 (last : Int) (m : Msg) : List UInt8 := nums [stp m.uid last, m.mod, m.date, m.flags, (m.keys.length : Nat)] ++ (kb (-1) m.keys ++ (tx m.id ++ tx m.text))
def ms3 : Int → List Msg → List UInt8
  | _, [] => []
  | a, m :: r => m3 a m ++ ms3 m.uid r
def hd3 (b : Box) : List UInt8 := nums [b.valid, b.next, b.high] ++ (tx b.id ++ (nums [(b.words.length : Nat)] ++ (b.words.flatMap tx ++ nums [(b.msgs.length : Nat)])))
def mk3 : List UInt8 := [77, 66, 51]
def e3R (b : Box) : List UInt8 := hd3 b ++ ms3 0 b.msgs
def e3 (b : Box) : List UInt8 := mk3 ++ e3R b

/-! Read. -/
def keyF (s : St × Int) : Int × (St × Int) := (s.2 + ((ntS 1000000 s.1).1 : Nat), ((ntS 1000000 s.1).2, s.2 + ((ntS 1000000 s.1).1 : Nat)))
def kyS3 (s : St) : List Int × St := ((itG keyF (ntS 64 s).1 ((ntS 64 s).2, -1)).1, (itG keyF (ntS 64 s).1 ((ntS 64 s).2, -1)).2.1)
def msg3S (last : Int) (s : St) : Msg × St :=
  let u := ntS 1000000 s
  let o := ntS 1000000 u.2
  let d := ntS 1000000 o.2
  let f := ntS 1000000 d.2
  let k := kyS3 f.2
  let i := txtS 24 k.2
  let x := txtS 300 i.2
  (⟨last + (u.1 : Nat), (o.1 : Nat), (d.1 : Nat), i.1, (f.1 : Nat), k.1, x.1⟩, x.2)
def msgF (s : St × Int) : Msg × (St × Int) := ((msg3S s.2 s.1).1, ((msg3S s.2 s.1).2, (msg3S s.2 s.1).1.uid))
def box3S (s : St) : Box × St :=
  let v := ntS 1000000 s
  let n := ntS 1000000 v.2
  let h := ntS 1000000 n.2
  let i := txtS 24 h.2
  let c := ntS 64 i.2
  let w := itS (txtS 24) c.1 c.2
  let e := ntS 60 w.2
  let m := itG msgF e.1 (e.2, 0)
  (⟨i.1, (v.1 : Nat), (n.1 : Nat), (h.1 : Nat), w.1, m.1⟩, m.2.1)
def parse3S (l : List UInt8) (id : ByteArray) : Box × Int :=
  if l.take 3 = mk3 then
    if firstS (box3S (l.drop 3, 0, false)).2 ≠ 0 then (nB, firstS (box3S (l.drop 3, 0, false)).2)
    else if 0 < (box3S (l.drop 3, 0, false)).2.1.length ∨ (box3S (l.drop 3, 0, false)).1.id ≠ id ∨ mbE (box3S (l.drop 3, 0, false)).1 ≠ 0 then (nB, 3)
    else ((box3S (l.drop 3, 0, false)).1, 0)
  else (nB, 3)

/-! One more. -/
theorem lst_snoc (x : Int) : ∀ (xs : List Int) (a : Int), lst a (xs ++ [x]) = x
  | [], _ => rfl
  | y :: r, _ => lst_snoc x r y
theorem kb_snoc (x : Int) : ∀ (xs : List Int) (a : Int), kb a (xs ++ [x]) = kb a xs ++ nums [stp x (lst a xs)]
  | [], a => by simp [kb, lst]
  | y :: r, a => by
    show nums [stp y a] ++ kb y (r ++ [x]) = (nums [stp y a] ++ kb y r) ++ _
    rw [kb_snoc x r y, List.append_assoc]
    rfl
theorem ms3_snoc (x : Msg) : ∀ (xs : List Msg) (a : Int), ms3 a (xs ++ [x]) = ms3 a xs ++ m3 (lst a (xs.map Msg.uid)) x
  | [], a => by simp [ms3, lst]
  | y :: r, a => by
    show m3 a y ++ ms3 y.uid (r ++ [x]) = (m3 a y ++ ms3 y.uid r) ++ _
    rw [ms3_snoc x r y.uid, List.append_assoc]
    rfl
theorem stp_le (n last : Int) (h : last ≤ n) (hl : -1 ≤ last) (hn : n ≤ 1000000) : stp n last = n - last := by
  unfold stp
  split
  · omega
  · rw [if_neg (by omega)]
theorem stp_add {a : Int} (n : Nat) (_ha : -1 ≤ a) (hn : n ≤ 1000000) : stp (a + n) a = n := by
  unfold stp
  split
  · omega
  · rw [if_neg (by omega)]; omega

/-! Written, and read. -/
theorem key_good {k a : Int} (h1 : -1 ≤ a) (h2 : a < k) (h3 : k ≤ 999999) (rest : List UInt8) (ov : Bool) : keyF ((nums [stp k a] ++ rest, 0, ov), a) = (k, ((rest, 0, ov), k)) := by
  unfold keyF
  rw [stp_le k a (by omega) h1 (by omega)]
  simp only
  rw [nt_good (m := 1000000) (by omega) (by omega) (by decide)]
  rw [show a + (((k - a).toNat : Nat) : Int) = k by omega]
theorem keys_good (rest : List UInt8) (ov : Bool) : ∀ (ks : List Int) (a : Int), -1 ≤ a → (∀ k ∈ ks, a < k ∧ k ≤ 999999) → ks.Pairwise (· < ·) → itG keyF ks.length ((kb a ks ++ rest, 0, ov), a) = (ks, ((rest, 0, ov), lst a ks))
  | [], a, _, _, _ => rfl
  | k :: r, a, ha, hk, hp => by
    rw [List.pairwise_cons] at hp
    have h1 := hk k (by simp)
    rw [List.length_cons, itG_cons]
    have e : kb a (k :: r) ++ rest = nums [stp k a] ++ (kb k r ++ rest) := by
      show (nums [stp k a] ++ kb k r) ++ rest = _
      rw [List.append_assoc]
    rw [e, key_good ha h1.1 h1.2]
    simp only
    rw [keys_good rest ov r k (by omega) (fun x hx => ⟨hp.1 x hx, (hk x (List.mem_cons_of_mem _ hx)).2⟩) hp.2]
    rfl
theorem rise_len : ∀ (ks : List Int) (a n : Int), ks.Pairwise (· < ·) → (∀ k ∈ ks, a ≤ k ∧ k < n) → (ks.length : Int) ≤ max 0 (n - a)
  | [], _, _, _, _ => by simp; omega
  | k :: r, a, n, hp, hk => by
    rw [List.pairwise_cons] at hp
    have h1 := hk k (by simp)
    have h2 := rise_len r (k + 1) n hp.2 (fun x hx => ⟨by have := hp.1 x hx; omega, (hk x (List.mem_cons_of_mem _ hx)).2⟩)
    rw [List.length_cons]
    omega
theorem keys_len {ks : List Int} {n : Nat} (h : keysB ks n = true) : ks.length ≤ n := by
  obtain ⟨h1, h2⟩ := keysB_rise h
  have := rise_len ks 0 n h1 h2
  omega
theorem kyS3_good {ks : List Int} {n : Nat} (h : keysB ks n = true) (hn : n ≤ 64) (rest : List UInt8) (ov : Bool) : kyS3 (nums [((ks.length : Nat) : Int)] ++ (kb (-1) ks ++ rest), 0, ov) = (ks, (rest, 0, ov)) := by
  obtain ⟨h1, h2⟩ := keysB_rise h
  have hl := keys_len h
  unfold kyS3
  rw [nt_good (m := 64) (by omega) (by omega) (by decide)]
  simp only [Int.toNat_natCast]
  rw [keys_good rest ov ks (-1) (by omega) (fun k hk => by have := h2 k hk; omega) h1]
theorem msg3_good {last : Int} {n : Nat} {m : Msg} (h : mmB n m = true) (hn : n ≤ 64) (h0 : 0 ≤ last) (hl : last < m.uid) (rest : List UInt8) (ov : Bool) : msg3S last (m3 last m ++ rest, 0, ov) = (m, (rest, 0, ov)) := by
  obtain ⟨h1, h2, h3, h4, h5, h6, h7⟩ := mm_parts h
  unfold msg3S m3
  rw [nums_cons, nums_cons m.mod, nums_cons m.date, nums_cons m.flags, stp_le _ _ (by omega) (by omega) (by omega)]
  simp only [List.append_assoc]
  rw [nt_good (m := 1000000) (by omega) (by omega) (by decide)]
  simp only
  rw [nt_good (m := 1000000) (by omega) (by omega) (by decide)]
  simp only
  rw [nt_good (m := 1000000) (by omega) (by omega) (by decide)]
  simp only
  rw [nt_good (m := 1000000) (by omega) (by omega) (by decide)]
  simp only
  rw [kyS3_good h6 hn]
  simp only
  have e1 := txt_good (m := 24) (atB_size h4).2 (by decide) (tx m.text ++ rest) ov
  have e2 := txt_good (m := 300) h7 (by decide) rest ov
  rw [show ((24 : Nat) : Int) = 24 from rfl] at e1
  rw [show ((300 : Nat) : Int) = 300 from rfl] at e2
  rw [e1]
  simp only
  rw [e2]
  simp only
  have q1 : last + (((m.uid - last).toNat : Nat) : Int) = m.uid := by omega
  have q2 : ((m.mod.toNat : Nat) : Int) = m.mod := by omega
  have q3 : ((m.date.toNat : Nat) : Int) = m.date := by omega
  have q4 : ((m.flags.toNat : Nat) : Int) = m.flags := by omega
  rw [q1, q2, q3, q4]
theorem msgs_good {n : Nat} (hn : n ≤ 64) (rest : List UInt8) (ov : Bool) : ∀ (ms : List Msg) (a : Int), 0 ≤ a → (∀ m ∈ ms, mmB n m = true ∧ a < m.uid) → Rises ms → itG msgF ms.length ((ms3 a ms ++ rest, 0, ov), a) = (ms, ((rest, 0, ov), lst a (ms.map Msg.uid)))
  | [], a, _, _, _ => rfl
  | m :: r, a, ha, hk, hp => by
    have hp2 := List.pairwise_cons.1 hp
    have h1 := hk m (by simp)
    rw [List.length_cons, itG_cons]
    have e : ms3 a (m :: r) ++ rest = m3 a m ++ (ms3 m.uid r ++ rest) := by
      show (m3 a m ++ ms3 m.uid r) ++ rest = _
      rw [List.append_assoc]
    have e2 : msgF ((ms3 a (m :: r) ++ rest, 0, ov), a) = (m, ((ms3 m.uid r ++ rest, 0, ov), m.uid)) := by
      unfold msgF
      simp only
      rw [e, msg3_good h1.1 hn ha h1.2]
    rw [e2]
    simp only
    rw [msgs_good hn rest ov r m.uid (by omega) (fun x hx => ⟨(hk x (List.mem_cons_of_mem _ hx)).1, hp2.1 x hx⟩) hp2.2]
    rfl
theorem box3_good {b : Box} (h : PtD.Good b) (rest : List UInt8) : box3S (e3R b ++ rest, 0, false) = (b, (rest, 0, false)) := by
  have hv := h.val
  have hn := h.nxt
  have hh := h.hig
  have hw := h.wl
  have hm := h.ml
  unfold box3S e3R hd3
  rw [nums_cons, nums_cons b.next]
  simp only [List.append_assoc]
  rw [nt_good (m := 1000000) (by omega) (by omega) (by decide)]
  simp only
  rw [nt_good (m := 1000000) (by omega) (by omega) (by decide)]
  simp only
  rw [nt_good (m := 1000000) (by omega) (by omega) (by decide)]
  simp only
  have e1 := txt_good (m := 24) (s := b.id) (by have := h.ids; omega) (by decide) (nums [((b.words.length : Nat) : Int)] ++ (b.words.flatMap tx ++ (nums [((b.msgs.length : Nat) : Int)] ++ (ms3 0 b.msgs ++ rest)))) false
  rw [show ((24 : Nat) : Int) = 24 from rfl] at e1
  rw [e1]
  simp only
  rw [nt_good (m := 64) (by omega) (by omega) (by decide)]
  simp only [Int.toNat_natCast]
  rw [it_all (f := txtS 24) (enc := tx) (val := fun s => s) (xs := b.words) (ov := false) (fun s hs r => txt_tx (atB_size (wordsB_at h.ws s hs)).2 r false) _ rfl]
  simp only
  rw [nt_good (m := 60) (by omega) (by omega) (by decide)]
  simp only [Int.toNat_natCast]
  rw [msgs_good (n := b.words.length) (by omega) rest false b.msgs 0 (by omega) (fun m hm => ⟨(h.ms m hm).1, by have := (mm_parts (h.ms m hm).1).1; omega⟩) h.ri]
  have q1 : ((b.valid.toNat : Nat) : Int) = b.valid := by omega
  have q2 : ((b.next.toNat : Nat) : Int) = b.next := by omega
  have q3 : ((b.high.toNat : Nat) : Int) = b.high := by omega
  simp only [q1, q2, q3, List.map_id']
theorem take_mk3 (l : List UInt8) : (mk3 ++ l).take 3 = mk3 := rfl
theorem drop_mk3 (l : List UInt8) : (mk3 ++ l).drop 3 = l := rfl
theorem parse3_good {b : Box} (h : mbE b = 0) : parse3S (e3 b) b.id = (b, 0) := by
  have g := good_of h
  unfold parse3S e3
  rw [take_mk3, if_pos rfl, drop_mk3]
  have := box3_good g []
  rw [List.append_nil] at this
  rw [this]
  simp only [firstS]
  rw [if_neg (by simp), if_neg (by simp [h])]
theorem parse3_more {b : Box} (h : mbE b = 0) (c : UInt8) (id : ByteArray) : parse3S (e3 b ++ [c]) id = (nB, 3) := by
  have g := good_of h
  unfold parse3S e3
  rw [List.append_assoc, take_mk3, if_pos rfl, drop_mk3, box3_good g [c]]
  simp only [firstS]
  rw [if_neg (by simp), if_pos (.inl (by simp))]
theorem parse3_other {b : Box} (h : mbE b = 0) {id : ByteArray} (hi : b.id ≠ id) : parse3S (e3 b) id = (nB, 3) := by
  have g := good_of h
  unfold parse3S e3
  rw [take_mk3, if_pos rfl, drop_mk3]
  have := box3_good g []
  rw [List.append_nil] at this
  rw [this]
  simp only [firstS]
  rw [if_neg (by simp), if_pos (.inr (.inl hi))]
/-- There is one form of each box. -/
theorem e3_inj {a b : Box} (ha : mbE a = 0) (hb : mbE b = 0) : e3 a = e3 b ↔ a = b := by
  constructor
  · intro h
    have h1 := box3_good (good_of ha) []
    have h2 := box3_good (good_of hb) []
    rw [show e3R a = e3R b from List.append_cancel_left h, h2] at h1
    exact (congrArg Prod.fst h1).symm
  · intro h
    rw [h]

/-! Any bytes. -/
theorem keys_rv : ∀ (k : Nat) (s : St) (a : Int), -1 ≤ a → Rv s (kb a (itG keyF k (s, a)).1) (itG keyF k (s, a)).2.1
  | 0, s, _, _ => Rv.refl s
  | k + 1, s, a, ha => by
    rw [itG_cons]
    have h1 := nt_rv (m := 1000000) (by decide) s
    have hle := nt_le 1000000 s
    have h2 := keys_rv k (ntS 1000000 s).2 (a + ((ntS 1000000 s).1 : Nat)) (by omega)
    have h3 := h1.trans h2
    show Rv s (nums [stp (a + ((ntS 1000000 s).1 : Nat)) a] ++ kb (a + ((ntS 1000000 s).1 : Nat)) (itG keyF k ((ntS 1000000 s).2, a + ((ntS 1000000 s).1 : Nat))).1) _
    rw [stp_add _ ha hle]
    exact h3
theorem kyS3_rv (s : St) : Rv s (nums [(((kyS3 s).1.length : Nat) : Int)] ++ kb (-1) (kyS3 s).1) (kyS3 s).2 := by
  have h1 := nt_rv (m := 64) (by decide) s
  have h2 := keys_rv (ntS 64 s).1 (ntS 64 s).2 (-1) (by omega)
  unfold kyS3
  simp only [itG_len]
  exact h1.trans h2
theorem msg3_parts (last : Int) (s : St) : ∃ u o d f k i x, u = ntS 1000000 s ∧ o = ntS 1000000 u.2 ∧ d = ntS 1000000 o.2 ∧ f = ntS 1000000 d.2 ∧ k = kyS3 f.2 ∧ i = txtS 24 k.2 ∧ x = txtS 300 i.2 ∧
    msg3S last s = (⟨last + (u.1 : Nat), (o.1 : Nat), (d.1 : Nat), i.1, (f.1 : Nat), k.1, x.1⟩, x.2) := ⟨_, _, _, _, _, _, _, rfl, rfl, rfl, rfl, rfl, rfl, rfl, rfl⟩
theorem msg3_rv {last : Int} (hl : -1 ≤ last) (s : St) : Rv s (m3 last (msg3S last s).1) (msg3S last s).2 := by
  obtain ⟨u, o, d, f, k, i, x, hu, ho, hd, hf, hk, hi, hx, e⟩ := msg3_parts last s
  have a1 := nt_rv (m := 1000000) (by decide) s
  rw [← hu] at a1
  have a2 := nt_rv (m := 1000000) (by decide) u.2
  rw [← ho] at a2
  have a3 := nt_rv (m := 1000000) (by decide) o.2
  rw [← hd] at a3
  have a4 := nt_rv (m := 1000000) (by decide) d.2
  rw [← hf] at a4
  have a5 := kyS3_rv f.2
  rw [← hk] at a5
  have a6 := txt_rv (m := 24) k.2
  rw [show txtS ((24 : Nat) : Int) k.2 = i from hi.symm] at a6
  have a7 := txt_rv (m := 300) i.2
  rw [show txtS ((300 : Nat) : Int) i.2 = x from hx.symm] at a7
  have h := a1.trans (a2.trans (a3.trans (a4.trans (a5.trans (a6.trans a7)))))
  have hle := nt_le 1000000 s
  rw [← hu] at hle
  rw [e]
  unfold m3
  rw [nums_cons, nums_cons ((o.1 : Nat) : Int), nums_cons ((d.1 : Nat) : Int), nums_cons ((f.1 : Nat) : Int)]
  simp only [stp_add _ hl hle]
  simp only [List.append_assoc] at h ⊢
  exact h
theorem msgs_rv : ∀ (k : Nat) (s : St) (a : Int), -1 ≤ a → Rv s (ms3 a (itG msgF k (s, a)).1) (itG msgF k (s, a)).2.1
  | 0, s, _, _ => Rv.refl s
  | k + 1, s, a, ha => by
    rw [itG_cons]
    have h1 := msg3_rv ha s
    have h2 := msgs_rv k (msg3S a s).2 (msg3S a s).1.uid (by show -1 ≤ a + _; omega)
    exact h1.trans h2
theorem box3_rv (s : St) : Rv s (e3R (box3S s).1) (box3S s).2 := by
  obtain ⟨v, hv⟩ : ∃ v, v = ntS 1000000 s := ⟨_, rfl⟩
  obtain ⟨n, hn⟩ : ∃ n, n = ntS 1000000 v.2 := ⟨_, rfl⟩
  obtain ⟨h, hh⟩ : ∃ h, h = ntS 1000000 n.2 := ⟨_, rfl⟩
  obtain ⟨i, hi⟩ : ∃ i, i = txtS 24 h.2 := ⟨_, rfl⟩
  obtain ⟨c, hc⟩ : ∃ c, c = ntS 64 i.2 := ⟨_, rfl⟩
  obtain ⟨w, hw⟩ : ∃ w, w = itS (txtS 24) c.1 c.2 := ⟨_, rfl⟩
  obtain ⟨e, he⟩ : ∃ e, e = ntS 60 w.2 := ⟨_, rfl⟩
  obtain ⟨m, hm⟩ : ∃ m, m = itG msgF e.1 (e.2, 0) := ⟨_, rfl⟩
  have hb : box3S s = (⟨i.1, (v.1 : Nat), (n.1 : Nat), (h.1 : Nat), w.1, m.1⟩, m.2.1) := by
    unfold box3S
    simp only [← hv, ← hn, ← hh, ← hi, ← hc, ← hw, ← he, ← hm]
  have a1 := nt_rv (m := 1000000) (by decide) s
  rw [← hv] at a1
  have a2 := nt_rv (m := 1000000) (by decide) v.2
  rw [← hn] at a2
  have a3 := nt_rv (m := 1000000) (by decide) n.2
  rw [← hh] at a3
  have a4 := txt_rv (m := 24) h.2
  rw [show txtS ((24 : Nat) : Int) h.2 = i from hi.symm] at a4
  have a5 := nt_rv (m := 64) (by decide) i.2
  rw [← hc] at a5
  have a6 := words_rv c.1 c.2
  rw [← hw] at a6
  have a7 := nt_rv (m := 60) (by decide) w.2
  rw [← he] at a7
  have a8 := msgs_rv e.1 e.2 0 (by omega)
  rw [← hm] at a8
  have hwl : w.1.length = c.1 := by rw [hw, it_itG, itG_len]
  have hml : m.1.length = e.1 := by rw [hm, itG_len]
  have h := a1.trans (a2.trans (a3.trans (a4.trans (a5.trans (a6.trans (a7.trans a8))))))
  rw [hb]
  unfold e3R hd3
  rw [nums_cons, nums_cons ((n.1 : Nat) : Int), hwl, hml]
  simp only [List.append_assoc] at h ⊢
  exact h
theorem parse3_raw {l : List UInt8} {id : ByteArray} (h : (parse3S l id).2 = 0) : e3 (parse3S l id).1 = l ∧ (parse3S l id).1.id = id ∧ mbE (parse3S l id).1 = 0 := by
  unfold parse3S at h ⊢
  by_cases h3 : l.take 3 = mk3
  · rw [if_pos h3] at h ⊢
    by_cases hf : firstS (box3S (l.drop 3, 0, false)).2 = 0
    · rw [if_neg (by simpa using hf)] at h ⊢
      by_cases hl : 0 < (box3S (l.drop 3, 0, false)).2.1.length ∨ (box3S (l.drop 3, 0, false)).1.id ≠ id ∨ mbE (box3S (l.drop 3, 0, false)).1 ≠ 0
      · rw [if_pos hl] at h
        cases h
      · rw [if_neg hl]
        have h1 : (box3S (l.drop 3, 0, false)).2.1.length = 0 := by omega
        obtain ⟨_, h2⟩ := box3_rv (l.drop 3, 0, false) (first_ok.1 hf)
        rw [List.eq_nil_of_length_eq_zero h1, List.append_nil] at h2
        refine ⟨?_, Classical.byContradiction fun hc => hl (.inr (.inl hc)), Classical.byContradiction fun hc => hl (.inr (.inr hc))⟩
        show mk3 ++ e3R _ = l
        rw [← h2, ← h3]
        exact List.take_append_drop 3 l
    · rw [if_pos hf] at h
      exact absurd (by simpa using h) hf
  · rw [if_neg h3] at h
    cases h
theorem keys_er (k : Nat) (s : St × Int) (h : Erk s.1) : Erk (itG keyF k s).2.1 := itG_er (f := keyF) (g := fun s : St × Int => s.1) (fun _ h => nt_er _ h) k s h
theorem msg3_er (last : Int) (s : St) (h : Erk s) : Erk (msg3S last s).2 := by
  obtain ⟨u, o, d, f, k, i, x, hu, ho, hd, hf, hk, hi, hx, e⟩ := msg3_parts last s
  rw [e]
  have e1 : Erk u.2 := by rw [hu]; exact nt_er _ h
  have e2 : Erk o.2 := by rw [ho]; exact nt_er _ e1
  have e3 : Erk d.2 := by rw [hd]; exact nt_er _ e2
  have e4 : Erk f.2 := by rw [hf]; exact nt_er _ e3
  have e5 : Erk k.2 := by rw [hk]; exact keys_er _ _ (nt_er _ e4)
  have e6 : Erk i.2 := by rw [hi]; exact txt_er _ e5
  show Erk x.2
  rw [hx]
  exact txt_er _ e6
theorem msgF_er (s : St × Int) (h : Erk s.1) : Erk (msgF s).2.1 := by
  have h1 := msg3_er s.2 s.1 h
  generalize hx : msg3S s.2 s.1 = x at h1
  unfold msgF
  rw [hx]
  exact h1
theorem msgs_er : ∀ (k : Nat) (s : St × Int), Erk s.1 → Erk (itG msgF k s).2.1
  | 0, _, h => h
  | k + 1, s, h => by
    have h1 := msgF_er _ (msgs_er k s h)
    unfold itG
    generalize msgF (itG msgF k s).2 = x at h1 ⊢
    exact h1
theorem words_er (k : Nat) (s : St) (h : Erk s) : Erk (itS (txtS 24) k s).2 := by
  rw [it_itG]
  exact itG_er (f := txtS 24) (g := fun s : St => s) (fun _ h => txt_er _ h) k s h
theorem box3_parts (s : St) : ∃ v n h i c w e m, v = ntS 1000000 s ∧ n = ntS 1000000 v.2 ∧ h = ntS 1000000 n.2 ∧ i = txtS 24 h.2 ∧ c = ntS 64 i.2 ∧ w = itS (txtS 24) c.1 c.2 ∧ e = ntS 60 w.2 ∧ m = itG msgF e.1 (e.2, 0) ∧
    box3S s = (⟨i.1, (v.1 : Nat), (n.1 : Nat), (h.1 : Nat), w.1, m.1⟩, m.2.1) := ⟨_, _, _, _, _, _, _, _, rfl, rfl, rfl, rfl, rfl, rfl, rfl, rfl, rfl⟩
theorem box3_er (s : St) (h : Erk s) : Erk (box3S s).2 := by
  obtain ⟨v, n, g, i, c, w, e, m, hv, hn, hg, hi, hc, hw, he, hm, hb⟩ := box3_parts s
  rw [hb]
  have e1 : Erk v.2 := by rw [hv]; exact nt_er _ h
  have e2 : Erk n.2 := by rw [hn]; exact nt_er _ e1
  have e3 : Erk g.2 := by rw [hg]; exact nt_er _ e2
  have e4 : Erk i.2 := by rw [hi]; exact txt_er _ e3
  have e5 : Erk c.2 := by rw [hc]; exact nt_er _ e4
  have e6 : Erk w.2 := by rw [hw]; exact words_er _ _ e5
  have e7 : Erk e.2 := by rw [he]; exact nt_er _ e6
  show Erk m.2.1
  rw [hm]
  exact msgs_er _ _ e7
/-- Any bytes: a box, or the end is met, or no such form. -/
theorem parse3_err (l : List UInt8) (id : ByteArray) : (parse3S l id).2 = 0 ∨ (parse3S l id).1 = nB ∧ ((parse3S l id).2 = 2 ∨ (parse3S l id).2 = 3) := by
  obtain ⟨x, hx⟩ : ∃ x, x = box3S (l.drop 3, 0, false) := ⟨_, rfl⟩
  have he : Erk x.2 := by rw [hx]; exact box3_er _ (.inl rfl)
  unfold parse3S
  rw [← hx]
  split
  · split
    · rename_i hf
      refine .inr ⟨rfl, ?_⟩
      rcases first_er he with e | e | e
      · exact absurd e hf
      · rw [e]; exact .inl rfl
      · rw [e]; exact .inr rfl
    · split
      · exact .inr ⟨rfl, .inr rfl⟩
      · exact .inl rfl
  · exact .inr ⟨rfl, .inr rfl⟩
theorem parse3_cut {b : Box} (h : mbE b = 0) {q : Nat} (hq : q < (e3 b).length) (id : ByteArray) : (parse3S ((e3 b).take q) id).2 = 2 ∨ (parse3S ((e3 b).take q) id).2 = 3 := by
  rcases parse3_err ((e3 b).take q) id with h0 | ⟨_, h0⟩
  · exfalso
    obtain ⟨h1, _, h3⟩ := parse3_raw h0
    obtain ⟨c, hc⟩ : ∃ c, c = (parse3S ((e3 b).take q) id).1 := ⟨_, rfl⟩
    rw [← hc] at h1 h3
    have h4 : e3 b = e3 c ++ (e3 b).drop q := by rw [h1, List.take_append_drop]
    unfold e3 at h4
    rw [List.append_assoc] at h4
    have h5 := List.append_cancel_left h4
    have g1 := box3_good (good_of h) []
    have g2 := box3_good (good_of h3) ((mk3 ++ e3R b).drop q)
    rw [List.append_nil, h5, g2] at g1
    have h6 := congrArg (fun p : Box × St => p.2.1.length) g1
    simp only [List.length_drop, List.length_nil] at h6
    unfold e3 at hq
    omega
  · exact h0
end Go.Proofs.YtchlbbndfhibgaaGreatDoor.F3D
