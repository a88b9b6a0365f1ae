/-
  A box that may be: its UIDs rise; a message less, a message twice: pure.
-/
import Derived.Test.YtdgcihgohkgecaaDoorBxD
namespace Go.Proofs.YtdgcihgohkgecaaDoor.BxOp
open Go.RowKit Go.Proofs.YtdgcihgohkgecaaDoor.BxD

theorem mb_ok {b : Box} (h : mbE b = 0) : headB b = true ∧ ¬ (64 < b.words.length ∨ 60 < b.msgs.length) ∧ wordsB b.words = true ∧ msgsB b = true := by
  unfold mbE at h
  split at h
  · rename_i h1
    split at h
    · cases h
    · rename_i h2
      split at h
      · rename_i h3
        split at h
        · rename_i h4
          exact ⟨h1, h2, h3, h4⟩
        · cases h
      · cases h
  · cases h
theorem mb_of {b : Box} (h1 : headB b = true) (h2 : ¬ (64 < b.words.length ∨ 60 < b.msgs.length)) (h3 : wordsB b.words = true) (h4 : msgsB b = true) : mbE b = 0 := by
  unfold mbE
  rw [if_pos h1, if_neg h2, if_pos h3, if_pos h4]
/-- What is asked of each message, but for its place. -/
def okOne (b : Box) (m : Msg) : Prop := mmB b.words.length m = true ∧ m.uid < b.next ∧ m.mod ≤ b.high
def Rises (l : List Msg) : Prop := l.Pairwise fun x y => x.uid < y.uid
theorem mm_uid {n : Nat} {m : Msg} (h : mmB n m = true) : 1 ≤ m.uid := by
  unfold mmB at h
  rw [Bool.and_eq_true] at h
  exact (inB_out h.1).1
theorem mm_keys {n : Nat} {m : Msg} (h : mmB n m = true) : keysB m.keys n = true := by
  unfold mmB at h
  simp only [Bool.and_eq_true] at h
  exact h.2.2.2.2.2.1
theorem msgsB_iff (b : Box) : msgsB b = true ↔ (∀ m ∈ b.msgs, okOne b m) ∧ Rises b.msgs := by
  constructor
  · intro h
    have H := of_decide_eq_true h
    refine ⟨fun m hm => ?_, ?_⟩
    · obtain ⟨i, hi⟩ := List.mem_iff_getElem?.1 hm
      obtain ⟨a, _, c, d⟩ := H i (List.getElem?_eq_some_iff.1 hi).1 m hi
      exact ⟨a, c, d⟩
    · have step : ∀ i (h0 : i + 1 < b.msgs.length), (b.msgs[i]'(by omega)).uid < (b.msgs[i + 1]'h0).uid := fun i h0 => by
        have := (H (i + 1) h0 _ (List.getElem?_eq_getElem h0)).2.1
        rwa [pu_succ (List.getElem?_eq_getElem (l := b.msgs) (i := i) (by omega))] at this
      refine List.pairwise_iff_getElem.2 fun i j hi hj hij => ?_
      have all : ∀ d (hd : i + 1 + d < b.msgs.length), (b.msgs[i]'hi).uid < (b.msgs[i + 1 + d]'hd).uid := by
        intro d
        induction d with
        | zero => intro hd; exact step i hd
        | succ d ih =>
          intro hd
          have a1 := ih (by omega)
          have a2 := step (i + 1 + d) hd
          exact Int.lt_trans a1 a2
      obtain ⟨d, rfl⟩ : ∃ d, j = i + 1 + d := ⟨j - (i + 1), by omega⟩
      exact all d hj
  · intro ⟨h1, h2⟩
    refine decide_eq_true fun i hi m hm => ?_
    obtain ⟨a, c, d⟩ := h1 m (List.mem_of_getElem? hm)
    refine ⟨a, ?_, c, d⟩
    match i, hi, hm with
    | 0, _, _ => rw [pu_zero]; have := mm_uid a; omega
    | i + 1, hi, hm =>
      rw [pu_succ (List.getElem?_eq_getElem (l := b.msgs) (i := i) (by omega))]
      have := List.pairwise_iff_getElem.1 h2 i (i + 1) (by omega) hi (by omega)
      obtain ⟨_, rfl⟩ := List.getElem?_eq_some_iff.1 hm
      exact this
theorem mem_rise {l : List Msg} (h : Rises l) {i j : Nat} {x y : Msg} (hij : i < j) (hx : l[i]? = some x) (hy : l[j]? = some y) : x.uid < y.uid := by
  obtain ⟨h1, rfl⟩ := List.getElem?_eq_some_iff.1 hx
  obtain ⟨h2, rfl⟩ := List.getElem?_eq_some_iff.1 hy
  exact List.pairwise_iff_getElem.1 h i j h1 h2 hij
/-- Of a box that may be: each message. -/
theorem once {b : Box} (h : mbE b = 0) {i : Nat} {m : Msg} (hm : b.msgs[i]? = some m) :
    1 ≤ m.uid ∧ m.uid < b.next ∧ m.mod ≤ b.high ∧ findI b.msgs m.uid = i ∧ mmE b.words.length m = 0 ∧ (wordsOf b.words m.keys).length = m.keys.length := by
  obtain ⟨_, _, _, h4⟩ := mb_ok h
  obtain ⟨H1, H2⟩ := (msgsB_iff b).1 h4
  obtain ⟨a, c, d⟩ := H1 m (List.mem_of_getElem? hm)
  refine ⟨mm_uid a, c, d, findI_hit (fun j x hj hx => ?_) hm rfl, by unfold mmE; rw [if_pos a], ?_⟩
  · have := mem_rise H2 hj hx hm
    omega
  · have hk := of_decide_eq_true (mm_keys a)
    have hk2 : ∀ (j : Nat) (x : Int), m.keys[j]? = some x → 0 ≤ x ∧ x < (b.words.length : Int) := by
      intro j
      induction j with
      | zero =>
        intro x hx
        obtain ⟨a1, a2⟩ := hk 0 (List.getElem?_eq_some_iff.1 hx).1
        rw [getD_some 0 hx] at a1 a2
        rw [pk_zero] at a1
        omega
      | succ j ih =>
        intro x hx
        have hj := (List.getElem?_eq_some_iff.1 hx).1
        obtain ⟨a1, a2⟩ := hk (j + 1) hj
        rw [getD_some 0 hx] at a1 a2
        have h0 := List.getElem?_eq_getElem (l := m.keys) (i := j) (by omega)
        rw [pk_succ h0] at a1
        have := ih _ h0
        omega
    have gen : ∀ ks : List Int, (∀ x ∈ ks, 0 ≤ x ∧ x < (b.words.length : Int)) → (wordsOf b.words ks).length = ks.length := by
      intro ks
      induction ks with
      | nil => intro _; rfl
      | cons k r ih =>
        intro hr
        obtain ⟨a1, a2⟩ := hr k (by simp)
        have h1 := ih fun x hx => hr x (by simp [hx])
        have hlt : k.toNat < b.words.length := by omega
        have h2 := word1_in (ws := b.words) a1 (List.getElem?_eq_getElem hlt)
        unfold wordsOf at h1 ⊢
        rw [List.flatMap_cons, List.length_append, h1, h2]
        simp only [List.length_cons, List.length_nil]
        omega
    refine gen _ fun x hx => ?_
    obtain ⟨j, hj⟩ := List.mem_iff_getElem?.1 hx
    exact hk2 j x hj
/-- The messages without the k-th; with it twice. -/
def lessL (l : List Msg) (k : Nat) : List Msg := l.take k ++ l.drop (k + 1)
def twiceL (l : List Msg) (k : Nat) (m : Msg) : List Msg := l.take (k + 1) ++ [m] ++ l.drop (k + 1)
theorem split_at {l : List Msg} {k : Nat} {m : Msg} (hm : l[k]? = some m) : l = l.take k ++ m :: l.drop (k + 1) := by
  obtain ⟨h1, rfl⟩ := List.getElem?_eq_some_iff.1 hm
  rw [← List.drop_eq_getElem_cons h1, List.take_append_drop]
theorem less_sub {l : List Msg} {k : Nat} {m : Msg} (hm : l[k]? = some m) : (lessL l k).Sublist l := by
  unfold lessL
  conv => rhs; rw [split_at hm]
  exact List.Sublist.append (List.Sublist.refl _) (List.sublist_cons_self _ _)
theorem less_may {b : Box} {k : Nat} {m : Msg} (h : mbE b = 0) (hm : b.msgs[k]? = some m) : mbE ⟨b.id, b.valid, b.next, b.high, b.words, lessL b.msgs k⟩ = 0 := by
  obtain ⟨h1, h2, h3, h4⟩ := mb_ok h
  obtain ⟨H1, H2⟩ := (msgsB_iff b).1 h4
  have hs := less_sub hm
  have hl := hs.length_le
  refine mb_of h1 (by show ¬ (64 < b.words.length ∨ 60 < (lessL b.msgs k).length); omega) h3 ((msgsB_iff _).2 ⟨fun x hx => ?_, List.Pairwise.sublist hs H2⟩)
  exact H1 x (hs.subset hx)
theorem less_find {b : Box} {k : Nat} {m : Msg} (h : mbE b = 0) (hm : b.msgs[k]? = some m) : findI (lessL b.msgs k) m.uid = -1 := by
  obtain ⟨h1, h2, h3, h4⟩ := mb_ok h
  obtain ⟨H1, H2⟩ := (msgsB_iff b).1 h4
  rw [split_at hm] at H2
  unfold Rises at H2
  rw [List.pairwise_append, List.pairwise_cons] at H2
  obtain ⟨_, ⟨a1, _⟩, a2⟩ := H2
  refine findI_none fun x hx => ?_
  unfold lessL at hx
  rcases List.mem_append.1 hx with hx | hx
  · have := a2 x hx m (by simp); omega
  · have := a1 x hx; omega
theorem less_un {l : List Msg} {k : Nat} {m : Msg} (hm : l[k]? = some m) : unI (lessL l k) ≤ unI l := by
  unfold unI
  exact (List.Sublist.filter _ (less_sub hm)).length_le
theorem twice_may {b : Box} {k : Nat} {m : Msg} (hm : b.msgs[k]? = some m) : mbE ⟨b.id, b.valid, b.next, b.high, b.words, twiceL b.msgs k m⟩ ≠ 0 := by
  intro h
  obtain ⟨_, _, _, h4⟩ := mb_ok h
  obtain ⟨_, H2⟩ := (msgsB_iff _).1 h4
  have H3 : Rises (twiceL b.msgs k m) := H2
  unfold Rises twiceL at H3
  rw [List.append_assoc, List.pairwise_append] at H3
  have hmem : m ∈ b.msgs.take (k + 1) := by
    obtain ⟨hl, e⟩ := List.getElem?_eq_some_iff.1 hm
    rw [List.mem_take_iff_getElem]
    exact ⟨k, by omega, e⟩
  have := H3.2.2 m hmem m (by simp)
  omega
end Go.Proofs.YtdgcihgohkgecaaDoor.BxOp
