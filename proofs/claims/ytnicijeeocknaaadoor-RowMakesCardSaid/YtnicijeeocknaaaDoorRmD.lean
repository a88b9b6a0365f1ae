/-
  How the document makes rows: places of words, lists put in order: pure.
-/
import Derived.Test.YtnicijeeocknaaaDoorJ7
set_option linter.unusedVariables false
set_option linter.unusedSimpArgs false
namespace Go.Proofs.YtnicijeeocknaaaDoor.RmD
open Go.RowKit Go.Proofs.YtnicijeeocknaaaDoor.BxD Go.Proofs.YtnicijeeocknaaaDoor.BxOp Go.Proofs.YtnicijeeocknaaaDoor.RwD Go.Proofs.YtnicijeeocknaaaDoor.RwM Go.Proofs.YtnicijeeocknaaaDoor.RwF

/-- Where x goes in a rising list; the list with x. -/
def posI (x : Int) (l : List Int) : Nat := (l.takeWhile fun y => decide (y < x)).length
def insI (x : Int) (l : List Int) : List Int := if l[posI x l]? = some x then l else l.take (posI x l) ++ x :: l.drop (posI x l)
def srtI (l : List Int) : List Int := l.foldl (fun a x => insI x a) []
theorem posI_le (x : Int) (l : List Int) : posI x l ≤ l.length := by
  unfold posI
  exact (List.takeWhile_prefix _).length_le
theorem posI_below {x : Int} : ∀ {l : List Int} {j : Nat} {y : Int}, j < posI x l → l[j]? = some y → y < x
  | [], j, y, h, _ => by simp [posI] at h
  | z :: l, j, y, h, e => by
    unfold posI at h
    rw [List.takeWhile_cons] at h
    by_cases hz : z < x
    · rw [if_pos (by simpa using hz)] at h
      cases j with
      | zero => obtain rfl : z = y := by simpa using e
                exact hz
      | succ j => exact posI_below (l := l) (j := j) (by unfold posI; simp at h; exact h) (by simpa using e)
    · rw [if_neg (by simpa using hz)] at h
      simp at h
theorem posI_at {x : Int} : ∀ {l : List Int} {y : Int}, l[posI x l]? = some y → ¬ y < x
  | [], y, h => by simp at h
  | z :: l, y, h => by
    unfold posI at h
    rw [List.takeWhile_cons] at h
    by_cases hz : z < x
    · rw [if_pos (by simpa using hz), List.length_cons, List.getElem?_cons_succ] at h
      exact posI_at (l := l) h
    · rw [if_neg (by simpa using hz)] at h
      obtain rfl : z = y := by simpa using h
      exact hz
theorem posI_eq {x : Int} {l : List Int} {i : Nat} (hi : i ≤ l.length) (h1 : ∀ j y, j < i → l[j]? = some y → y < x) (h2 : ∀ y, l[i]? = some y → ¬ y < x) : posI x l = i := by
  rcases Nat.lt_trichotomy (posI x l) i with h | h | h
  · have hg : l[posI x l]? = some (l[posI x l]'(by omega)) := List.getElem?_eq_getElem _
    exact absurd (h1 _ _ h hg) (posI_at hg)
  · exact h
  · have hl := posI_le x l
    have hg : l[i]? = some (l[i]'(by omega)) := List.getElem?_eq_getElem _
    exact absurd (posI_below h hg) (h2 _ hg)
theorem insI_mem {x : Int} {l : List Int} {y : Int} : y ∈ insI x l ↔ y = x ∨ y ∈ l := by
  unfold insI
  split
  · rename_i h
    exact ⟨.inr, fun h2 => h2.elim (fun e => e ▸ List.mem_of_getElem? h) id⟩
  · rw [List.mem_append, List.mem_cons]
    constructor
    · rintro (h | h | h)
      · exact .inr (List.mem_of_mem_take h)
      · exact .inl h
      · exact .inr (List.mem_of_mem_drop h)
    · rintro (h | h)
      · exact .inr (.inl h)
      · rw [← List.take_append_drop (posI x l) l, List.mem_append] at h
        exact h.elim .inl fun h => .inr (.inr h)
theorem insI_rise {x : Int} {l : List Int} (h : l.Pairwise (· < ·)) : (insI x l).Pairwise (· < ·) := by
  unfold insI
  split
  · exact h
  · rename_i hne
    have h' := h
    rw [← List.take_append_drop (posI x l) l, List.pairwise_append] at h'
    obtain ⟨ha, hb, hc⟩ := h'
    have hd : ∀ y ∈ l.drop (posI x l), x < y := by
      intro y hy
      cases hl : l.drop (posI x l) with
      | nil => rw [hl] at hy; cases hy
      | cons z r =>
        have hz : l[posI x l]? = some z := by rw [← List.head?_drop, hl]; rfl
        have hzx : x < z := by
          have h1 := posI_at hz
          have h2 : z ≠ x := fun e => hne (by rw [hz, e])
          omega
        rw [hl] at hy hb
        rcases List.mem_cons.1 hy with rfl | hy
        · exact hzx
        · have := (List.pairwise_cons.1 hb).1 y hy
          omega
    have ht : ∀ y ∈ l.take (posI x l), y < x := by
      intro y hy
      obtain ⟨j, hj⟩ := List.mem_iff_getElem?.1 hy
      rw [List.getElem?_take] at hj
      split at hj
      · rename_i hlt; exact posI_below hlt hj
      · cases hj
    rw [List.pairwise_append, List.pairwise_cons]
    refine ⟨ha, ⟨hd, hb⟩, fun a h1 c h2 => ?_⟩
    rcases List.mem_cons.1 h2 with rfl | h2
    · exact ht a h1
    · exact hc a h1 c h2
theorem foldI {l : List Int} : ∀ {a : List Int}, a.Pairwise (· < ·) → (l.foldl (fun a x => insI x a) a).Pairwise (· < ·) ∧ ∀ y, y ∈ l.foldl (fun a x => insI x a) a ↔ y ∈ l ∨ y ∈ a := by
  induction l with
  | nil => intro a h; exact ⟨h, fun y => by simp⟩
  | cons x l ih =>
    intro a h
    obtain ⟨h1, h2⟩ := ih (insI_rise (x := x) h)
    refine ⟨h1, fun y => ?_⟩
    rw [List.foldl_cons, h2 y, insI_mem, List.mem_cons]
    constructor
    · rintro (h | h | h)
      · exact .inl (.inr h)
      · exact .inl (.inl h)
      · exact .inr h
    · rintro ((h | h) | h)
      · exact .inr (.inl h)
      · exact .inl h
      · exact .inr (.inr h)
theorem srtI_rise (l : List Int) : (srtI l).Pairwise (· < ·) := (foldI List.Pairwise.nil).1
theorem srtI_mem {l : List Int} {y : Int} : y ∈ srtI l ↔ y ∈ l := by
  unfold srtI
  rw [(foldI List.Pairwise.nil).2 y]
  simp
/-- Two rising lists of the same numbers are one. -/
theorem rise_ext : ∀ {a b : List Int}, a.Pairwise (· < ·) → b.Pairwise (· < ·) → (∀ x, x ∈ a ↔ x ∈ b) → a = b
  | [], [], _, _, _ => rfl
  | [], y :: b, _, _, h => absurd ((h y).2 (by simp)) (by simp)
  | x :: a, [], _, _, h => absurd ((h x).1 (by simp)) (by simp)
  | x :: a, y :: b, ha, hb, h => by
    rw [List.pairwise_cons] at ha hb
    have hxy : x = y := by
      have h1 := (h x).1 (by simp)
      have h2 := (h y).2 (by simp)
      rcases List.mem_cons.1 h1 with e | h1
      · exact e
      · rcases List.mem_cons.1 h2 with e | h2
        · exact e.symm
        · have := hb.1 x h1
          have := ha.1 y h2
          omega
    subst hxy
    congr 1
    refine rise_ext ha.2 hb.2 fun z => ?_
    have hz := h z
    rw [List.mem_cons, List.mem_cons] at hz
    constructor
    · intro h1
      rcases hz.1 (.inr h1) with e | h2
      · have := ha.1 z h1; omega
      · exact h2
    · intro h1
      rcases hz.2 (.inr h1) with e | h2
      · have := hb.1 z h1; omega
      · exact h2
/-- Where a word lies, or -1. -/
def plI : List ByteArray → ByteArray → Int
  | [], _ => -1
  | x :: l, w => if x = w then 0 else if plI l w < 0 then -1 else plI l w + 1
theorem plI_ge (w : ByteArray) : ∀ l : List ByteArray, -1 ≤ plI l w
  | [] => by simp [plI]
  | x :: l => by
    have := plI_ge w l
    unfold plI
    split
    · omega
    · split <;> omega
theorem plI_neg {w : ByteArray} : ∀ {l : List ByteArray}, plI l w < 0 ↔ w ∉ l
  | [] => by simp [plI]
  | x :: l => by
    have ih := plI_neg (w := w) (l := l)
    unfold plI
    by_cases h : x = w
    · rw [if_pos h]; simp [h]
    · rw [if_neg h, List.mem_cons]
      by_cases h2 : plI l w < 0
      · rw [if_pos h2]
        have := ih.1 h2
        simp only [show ((-1 : Int) < 0) = True from by simp, true_iff]
        rintro (e | e)
        · exact h e.symm
        · exact this e
      · rw [if_neg h2]
        constructor
        · intro h3; omega
        · intro h3; exact absurd (ih.2 fun e => h3 (.inr e)) h2
theorem plI_some {w : ByteArray} : ∀ {l : List ByteArray} {k : Int}, plI l w = k → 0 ≤ k → l[k.toNat]? = some w
  | [], k, h, h0 => by simp [plI] at h; omega
  | x :: l, k, h, h0 => by
    unfold plI at h
    split at h
    · rename_i e; subst h; simp [e]
    · split at h
      · omega
      · have hk := plI_some (l := l) rfl (by omega : 0 ≤ plI l w)
        rw [← h, show (plI l w + 1).toNat = (plI l w).toNat + 1 by omega, List.getElem?_cons_succ]
        exact hk
theorem plI_at {w : ByteArray} {l : List ByteArray} (hd : l.Nodup) {i : Nat} (h : l[i]? = some w) : plI l w = i := by
  have hm : w ∈ l := List.mem_of_getElem? h
  have h0 : 0 ≤ plI l w := by
    rcases Int.lt_or_le (plI l w) 0 with h1 | h1
    · exact absurd hm (plI_neg.1 h1)
    · exact h1
  have h2 := plI_some rfl h0
  obtain ⟨a1, b1⟩ := List.getElem?_eq_some_iff.1 h
  obtain ⟨a2, b2⟩ := List.getElem?_eq_some_iff.1 h2
  have : i = (plI l w).toNat := by
    rcases Nat.lt_trichotomy i (plI l w).toNat with h3 | h3 | h3
    · exact absurd (b1.trans b2.symm) ((List.pairwise_iff_getElem.1 hd) i _ a1 a2 h3)
    · exact h3
    · exact absurd (b2.trans b1.symm) ((List.pairwise_iff_getElem.1 hd) _ i a2 a1 h3)
  omega
/-- The places of the words that are there. -/
def plL (all words : List ByteArray) : List Int := (words.map (plI all)).filter fun k => decide (0 ≤ k)
theorem plL_mem {all words : List ByteArray} (hd : all.Nodup) {k : Int} : k ∈ plL all words ↔ ∃ i : Nat, i < all.length ∧ all.getD i emT ∈ words ∧ k = (i : Int) := by
  unfold plL
  rw [List.mem_filter, List.mem_map]
  constructor
  · rintro ⟨⟨w, hw, rfl⟩, h0⟩
    have h0 : 0 ≤ plI all w := by simpa using h0
    have h1 := plI_some rfl h0
    obtain ⟨a, b⟩ := List.getElem?_eq_some_iff.1 h1
    refine ⟨(plI all w).toNat, a, ?_, by omega⟩
    rw [List.getD_eq_getElem?_getD, h1]
    exact hw
  · rintro ⟨i, hi, hw, rfl⟩
    have h1 : all[i]? = some (all[i]'hi) := List.getElem?_eq_getElem hi
    rw [List.getD_eq_getElem?_getD, h1] at hw
    exact ⟨⟨_, hw, plI_at hd h1⟩, by simp⟩
theorem srt_kW {all words : List ByteArray} (hd : all.Nodup) : srtI (plL all words) = kW all words := by
  refine rise_ext (srtI_rise _) (idx_rise _ _) fun x => ?_
  rw [srtI_mem, plL_mem hd]
  unfold kW
  rw [idx_mem]
  simp only [decide_eq_true_eq]
theorem srt_more {all words : List ByteArray} {ks : List Int} (hd : all.Nodup) (hk : ∀ k ∈ ks, 0 ≤ k ∧ k < (all.length : Int)) : srtI (ks ++ plL all words) = moreK all words ks := by
  refine rise_ext (srtI_rise _) (idx_rise _ _) fun x => ?_
  rw [srtI_mem, List.mem_append, plL_mem hd]
  unfold moreK
  rw [idx_mem]
  simp only [Bool.or_eq_true, decide_eq_true_eq]
  constructor
  · rintro (h | ⟨i, h1, h2, h3⟩)
    · have := hk x h
      exact ⟨x.toNat, by omega, .inr (by rwa [show ((x.toNat : Nat) : Int) = x by omega]), by omega⟩
    · exact ⟨i, h1, .inl h2, h3⟩
  · rintro ⟨i, h1, h2 | h2, rfl⟩
    · exact .inr ⟨i, h1, h2, rfl⟩
    · exact .inl h2
theorem less_pl {ws words : List ByteArray} {ks : List Int} (hd : ws.Nodup) (hk : ∀ k ∈ ks, 0 ≤ k ∧ k < (ws.length : Int)) : (ks.filter fun k => decide (k ∉ plL ws words)) = lessK ws words ks := by
  unfold lessK
  refine List.filter_congr fun k h => ?_
  have h1 := hk k h
  rw [decide_eq_decide]
  refine not_congr ?_
  rw [plL_mem hd]
  constructor
  · rintro ⟨i, _, h3, rfl⟩
    simpa using h3
  · intro h2
    exact ⟨k.toNat, by omega, h2, by omega⟩
/-- Words that come in, one by one. -/
def stepW (all : List ByteArray) (w : ByteArray) : List ByteArray := if w ∈ all then all else all ++ [w]
theorem fold_new {ws : List ByteArray} : ∀ {words all : List ByteArray}, words.Nodup → (∀ w ∈ words, (w ∈ all ↔ w ∈ ws)) → words.foldl stepW all = all ++ newW ws words
  | [], all, _, _ => by simp [newW]
  | w :: r, all, hd, h => by
    rw [List.nodup_cons] at hd
    rw [List.foldl_cons]
    have hw := h w (by simp)
    unfold newW
    by_cases hin : w ∈ ws
    · rw [List.filter_cons_of_neg (by simpa using hin)]
      unfold stepW
      rw [if_pos (hw.2 hin)]
      exact fold_new hd.2 fun x hx => h x (by simp [hx])
    · rw [List.filter_cons_of_pos (by simpa using hin)]
      unfold stepW
      rw [if_neg fun e => hin (hw.1 e)]
      have := fold_new (ws := ws) (words := r) (all := all ++ [w]) hd.2 fun x hx => by
        rw [List.mem_append, List.mem_singleton, h x (by simp [hx])]
        constructor
        · rintro (h1 | rfl)
          · exact h1
          · exact absurd hx hd.1
        · exact .inl
      unfold stepW at this
      rw [this]
      unfold newW
      rw [List.append_assoc]; rfl
end Go.Proofs.YtnicijeeocknaaaDoor.RmD
