/-
  Rows that are made of a box: what the document asks of them; they are done to it: pure.
-/
import Derived.Test.YtmkbmdoglcimbaaDoorRwD
namespace Go.Proofs.YtmkbmdoglcimbaaDoor.RwM
open Go.RowKit Go.Proofs.YtmkbmdoglcimbaaDoor.BxD Go.Proofs.YtmkbmdoglcimbaaDoor.BxOp Go.Proofs.YtmkbmdoglcimbaaDoor.RwD

def emT : ByteArray := ⟨#[]⟩
/-- The words that are new; all of them; the row that adds one. -/
def newW (ws words : List ByteArray) : List ByteArray := words.filter fun w => decide (w ∉ ws)
def allW (ws words : List ByteArray) : List ByteArray := ws ++ newW ws words
def wRow (w : ByteArray) : Row := ⟨4, 0, 0, noM, w⟩
/-- The places below n that are asked for, rising. -/
def idx (n : Nat) (p : Nat → Bool) : List Int := ((List.range n).filter p).map fun (i : Nat) => (i : Int)
def kW (all words : List ByteArray) : List Int := idx all.length fun i => decide (all.getD i emT ∈ words)
theorem idx_mem {n : Nat} {p : Nat → Bool} {k : Int} : k ∈ idx n p ↔ ∃ i : Nat, i < n ∧ p i = true ∧ k = (i : Int) := by
  unfold idx
  simp only [List.mem_map, List.mem_filter, List.mem_range]
  exact ⟨fun ⟨i, ⟨h1, h2⟩, h3⟩ => ⟨i, h1, h2, h3.symm⟩, fun ⟨i, h1, h2, h3⟩ => ⟨i, ⟨h1, h2⟩, h3.symm⟩⟩
theorem idx_rise (n : Nat) (p : Nat → Bool) : (idx n p).Pairwise (· < ·) := by
  unfold idx
  rw [List.pairwise_map]
  exact ((List.pairwise_lt_range (n := n)).sublist List.filter_sublist).imp fun h => by omega
theorem idx_keys {n n' : Nat} (p : Nat → Bool) (h : n ≤ n') : keysB (idx n p) n' = true := by
  rw [keysB_iff]
  refine ⟨fun k hk => ?_, idx_rise n p⟩
  obtain ⟨i, h1, _, rfl⟩ := idx_mem.1 hk
  omega
theorem idx_congr {n : Nat} {p q : Nat → Bool} (h : ∀ i, i < n → p i = q i) : idx n p = idx n q := by
  unfold idx
  rw [List.filter_congr fun i hi => h i (List.mem_range.1 hi)]
theorem newW_sub (ws words : List ByteArray) : (newW ws words).Sublist words := List.filter_sublist
theorem newW_not {ws words : List ByteArray} {w : ByteArray} (h : w ∈ newW ws words) : w ∉ ws := by
  unfold newW at h
  simpa using (List.mem_filter.1 h).2
theorem allW_mem {ws words : List ByteArray} {w : ByteArray} (h : w ∈ words) : w ∈ allW ws words := by
  unfold allW newW
  by_cases hw : w ∈ ws
  · exact List.mem_append_left _ hw
  · exact List.mem_append_right _ (List.mem_filter.2 ⟨h, by simpa using hw⟩)
theorem allW_nodup {ws words : List ByteArray} (h1 : ws.Nodup) (h2 : words.Nodup) : (allW ws words).Nodup := by
  unfold allW
  rw [List.nodup_append]
  exact ⟨h1, List.Pairwise.sublist (newW_sub ws words) h2, fun x hx y hy e => by subst e; exact newW_not hy hx⟩
theorem newW_nil {ws words : List ByteArray} (h : ∀ w ∈ words, w ∈ ws) : newW ws words = [] := by
  unfold newW
  rw [List.filter_eq_nil_iff]
  intro w hw
  simpa using h w hw
theorem allW_twice (ws words : List ByteArray) : allW (allW ws words) words = allW ws words := by
  show allW ws words ++ newW (allW ws words) words = _
  rw [newW_nil fun w hw => allW_mem hw, List.append_nil]
theorem len_le {α : Type} [BEq α] [LawfulBEq α] : ∀ {a b : List α}, a.Nodup → (∀ x ∈ a, x ∈ b) → a.length ≤ b.length
  | [], _, _, _ => Nat.zero_le _
  | x :: a, b, h, hs => by
    rw [List.nodup_cons] at h
    have hx := hs x (by simp)
    have ih := len_le (b := b.erase x) h.2 fun y hy => (List.mem_erase_of_ne (fun e => h.1 (by rw [← e]; exact hy))).2 (hs y (by simp [hy]))
    rw [List.length_erase_of_mem hx] at ih
    have : 0 < b.length := List.length_pos_of_mem hx
    rw [List.length_cons]; omega
theorem wordsOf_length {ws : List ByteArray} : ∀ {ks : List Int}, (∀ k ∈ ks, 0 ≤ k ∧ k < (ws.length : Int)) → (wordsOf ws ks).length = ks.length
  | [], _ => rfl
  | k :: r, h => by
    obtain ⟨a1, a2⟩ := h k (by simp)
    have ih := wordsOf_length (ws := ws) (ks := r) fun x hx => h x (by simp [hx])
    have hlt : k.toNat < ws.length := by omega
    have h2 := word1_in (ws := ws) a1 (List.getElem?_eq_getElem hlt)
    unfold wordsOf at ih ⊢
    rw [List.flatMap_cons, List.length_append, ih, h2]
    simp only [List.length_cons, List.length_nil]
    omega
theorem kW_length {all words : List ByteArray} (h1 : all.Nodup) (h2 : words.Nodup) (h3 : ∀ w ∈ words, w ∈ all) : (kW all words).length = words.length := by
  have e : (kW all words).length = (((List.range all.length).filter fun i => decide (all.getD i emT ∈ words)).map fun i => all.getD i emT).length := by
    unfold kW idx; simp
  rw [e]
  refine Nat.le_antisymm (len_le ?_ fun x hx => ?_) (len_le h2 fun w hw => ?_)
  · unfold List.Nodup
    rw [List.pairwise_map]
    refine ((List.pairwise_lt_range (n := all.length)).sublist List.filter_sublist).imp_of_mem fun {i j} hi hj hlt heq => ?_
    have li := List.mem_range.1 (List.mem_filter.1 hi).1
    have lj := List.mem_range.1 (List.mem_filter.1 hj).1
    rw [getD_some emT (List.getElem?_eq_getElem li), getD_some emT (List.getElem?_eq_getElem lj)] at heq
    exact List.pairwise_iff_getElem.1 h1 i j li lj hlt heq
  · obtain ⟨i, hi, rfl⟩ := List.mem_map.1 hx
    simpa using (List.mem_filter.1 hi).2
  · obtain ⟨i, hi, e2⟩ := List.mem_iff_getElem.1 (h3 w hw)
    refine List.mem_map.2 ⟨i, List.mem_filter.2 ⟨List.mem_range.2 hi, ?_⟩, ?_⟩
    · rw [getD_some emT (List.getElem?_eq_getElem hi), e2]; simpa using hw
    · rw [getD_some emT (List.getElem?_eq_getElem hi), e2]
theorem kW_words {all words : List ByteArray} (h1 : all.Nodup) (h2 : words.Nodup) (h3 : ∀ w ∈ words, w ∈ all) : (wordsOf all (kW all words)).length = words.length := by
  rw [wordsOf_length, kW_length h1 h2 h3]
  intro k hk
  obtain ⟨i, h1, _, rfl⟩ := idx_mem.1 hk
  omega

/-- Words added to a box. -/
def wordy (b : Box) (l : List ByteArray) : Box := ⟨b.id, b.valid, b.next, b.high, b.words ++ l, b.msgs⟩
theorem word_rows : ∀ (nw : List ByteArray) (b : Box) (rest : List Row), mbE b = 0 → (∀ w ∈ nw, atB w = true) → nw.Nodup → (∀ w ∈ nw, w ∉ b.words) → b.words.length + nw.length ≤ 64 →
    allG b (nw.map wRow ++ rest) = allG (wordy b nw) rest ∧ mbE (wordy b nw) = 0
  | [], b, rest, hb, _, _, _, _ => by
    have : wordy b [] = b := by unfold wordy; rw [List.append_nil]
    rw [this]; exact ⟨rfl, hb⟩
  | w :: nw, b, rest, hb, h1, h2, h3, h4 => by
    rw [List.nodup_cons] at h2
    rw [List.length_cons] at h4
    have hE : apE b (wRow w) = 0 := by
      unfold apE wRow
      rw [if_neg (by simpa using hb), if_neg (by decide : ¬ (4 : Int) = 1), if_pos rfl, if_neg (by simp [h1 w (by simp)]), if_neg (h3 w (by simp)), if_neg (by omega)]
    have hB : apB b (wRow w) = wordy b [w] := rfl
    obtain ⟨hm, _⟩ := ap_may hE
    rw [hB] at hm
    rw [List.map_cons, List.cons_append, allG_cons, if_pos hE, hB]
    have e : wordy (wordy b [w]) nw = wordy b (w :: nw) := by unfold wordy; simp
    rw [← e]
    refine word_rows nw (wordy b [w]) rest hm (fun x hx => h1 x (by simp [hx])) h2.2 (fun x hx hx2 => ?_) (by show (b.words ++ [w]).length + nw.length ≤ 64; simp; omega)
    rcases List.mem_append.1 hx2 with hx2 | hx2
    · exact h3 x (by simp [hx]) hx2
    · obtain rfl := List.mem_singleton.1 hx2
      exact h2.1 hx
theorem new_rows {b : Box} {words : List ByteArray} (rest : List Row) (hb : mbE b = 0) (hw : wordsB words = true) (h : (allW b.words words).length ≤ 64) :
    allG b ((newW b.words words).map wRow ++ rest) = allG (wordy b (newW b.words words)) rest ∧ mbE (wordy b (newW b.words words)) = 0 := by
  obtain ⟨w1, w2⟩ := (wordsB_iff _).1 hw
  have hs := newW_sub b.words words
  refine word_rows _ b rest hb (fun w hx => w1 w (hs.subset hx)) (List.Pairwise.sublist hs w2) (fun w hx => newW_not hx) ?_
  unfold allW at h
  rw [List.length_append] at h
  exact h

/-- What adds a message. -/
def addM (b : Box) (date : Int) (id : ByteArray) (flags : Int) (words : List ByteArray) (text : ByteArray) : Msg :=
  ⟨b.next, b.high + 1, date, if id.size = 0 then ownT b.id b.next else id, flags, kW (allW b.words words) words, text⟩
def addE (b : Box) (date : Int) (id : ByteArray) (flags : Int) (words : List ByteArray) (text : ByteArray) : Int :=
  if mbE b ≠ 0 ∨ wordsB words = false then 1
  else if 60 ≤ b.msgs.length ∨ 64 < (allW b.words words).length then 4
  else if 1000000 ≤ b.high ∨ 1000000 ≤ b.next then 9
  else mmE (allW b.words words).length (addM b date id flags words text)
def addL (b : Box) (date : Int) (id : ByteArray) (flags : Int) (words : List ByteArray) (text : ByteArray) : List Row :=
  (newW b.words words).map wRow ++ [⟨1, 0, 0, addM b date id flags words text, emT⟩]
def addC (b : Box) (date : Int) (id : ByteArray) (flags : Int) (words : List ByteArray) (text : ByteArray) : Box :=
  ⟨b.id, b.valid, b.next + 1, b.high + 1, allW b.words words, b.msgs ++ [addM b date id flags words text]⟩
theorem addE_parts {b : Box} {date flags : Int} {id text : ByteArray} {words : List ByteArray} (h : addE b date id flags words text = 0) :
    mbE b = 0 ∧ wordsB words = true ∧ b.msgs.length < 60 ∧ (allW b.words words).length ≤ 64 ∧ b.high < 1000000 ∧ b.next < 1000000 ∧ mmB (allW b.words words).length (addM b date id flags words text) = true := by
  unfold addE at h
  by_cases h1 : mbE b ≠ 0 ∨ wordsB words = false
  · rw [if_pos h1] at h; cases h
  rw [if_neg h1] at h
  by_cases h2 : 60 ≤ b.msgs.length ∨ 64 < (allW b.words words).length
  · rw [if_pos h2] at h; cases h
  rw [if_neg h2] at h
  by_cases h3 : 1000000 ≤ b.high ∨ 1000000 ≤ b.next
  · rw [if_pos h3] at h; cases h
  rw [if_neg h3] at h
  simp only [not_or, Classical.not_not] at h1
  refine ⟨h1.1, by simpa using h1.2, by omega, by omega, by omega, by omega, ?_⟩
  unfold mmE at h
  split at h
  · assumption
  · cases h
theorem add_done {b : Box} {date flags : Int} {id text : ByteArray} {words : List ByteArray} (h : addE b date id flags words text = 0) :
    allG b (addL b date id flags words text) = (addC b date id flags words text, 0) ∧ mbE (addC b date id flags words text) = 0 := by
  obtain ⟨h1, h2, h3, h4, h5, h6, h7⟩ := addE_parts h
  obtain ⟨hr, hm⟩ := new_rows (b := b) [⟨1, 0, 0, addM b date id flags words text, emT⟩] h1 h2 h4
  have hE : apE (wordy b (newW b.words words)) ⟨1, 0, 0, addM b date id flags words text, emT⟩ = 0 := by
    unfold apE
    rw [if_neg (by simpa using hm), if_pos rfl, if_neg (by show ¬ 60 ≤ b.msgs.length; omega), if_neg (by
      show ¬ mmB (allW b.words words).length (addM b date id flags words text) = false
      rw [h7]; decide), if_neg (by show ¬ b.next < b.next; omega)]
  have hB : apB (wordy b (newW b.words words)) ⟨1, 0, 0, addM b date id flags words text, emT⟩ = addC b date id flags words text := by
    unfold apB
    rw [if_pos rfl]
    unfold addC wordy
    have : max b.high (addM b date id flags words text).mod = b.high + 1 := by show max b.high (b.high + 1) = b.high + 1; omega
    rw [this]; rfl
  obtain ⟨hm2, _⟩ := ap_may hE
  rw [hB] at hm2
  refine ⟨?_, hm2⟩
  unfold addL
  rw [hr, allG_cons, if_pos hE, hB]; rfl

/-- Rows that take messages away. -/
def cutG : Int → List Int → List Row
  | _, [] => []
  | h, u :: l => ⟨3, u, h + 1, noM, emT⟩ :: cutG (h + 1) l
def cutOk (b : Box) (l : List Int) : Prop := (∀ u ∈ l, 0 ≤ findI b.msgs u) ∧ l.Nodup
instance cutOk_dec (b : Box) (l : List Int) : Decidable (cutOk b l) := inferInstanceAs (Decidable (_ ∧ _))
def cutE (b : Box) (l : List Int) : Int := if mbE b ≠ 0 then 1 else if cutOk b l then if 1000000 < b.high + l.length then 9 else 0 else 6
def cutC (b : Box) (l : List Int) : Box := ⟨b.id, b.valid, b.next, b.high + l.length, b.words, b.msgs.filter fun m => decide (m.uid ∉ l)⟩
theorem cut_done : ∀ (l : List Int) (b : Box), mbE b = 0 → cutOk b l → b.high + l.length ≤ 1000000 → allG b (cutG b.high l) = (cutC b l, 0) ∧ (cutC b l).msgs.length + l.length = b.msgs.length
  | [], b, _, _, _ => by
    have : cutC b [] = b := by
      unfold cutC
      rw [List.filter_eq_self.2 fun m _ => by simp]
      simp
    rw [this]; exact ⟨rfl, rfl⟩
  | u :: l, b, hb, ⟨h1, h2⟩, h3 => by
    rw [List.nodup_cons] at h2
    rw [List.length_cons] at h3
    obtain ⟨g1, g2, g3, g4, g5, g6⟩ := (mb_iff b).1 hb
    obtain ⟨_, _, _, p4, _⟩ := head_parts g1
    have hE : apE b ⟨3, u, b.high + 1, noM, emT⟩ = 0 := by
      unfold apE
      rw [if_neg (by simpa using hb), if_neg (by decide : ¬ (3 : Int) = 1), if_neg (by decide : ¬ (3 : Int) = 4), if_neg (by decide : ¬ (3 : Int) = 7), if_pos (by simp), if_neg (by have := h1 u (by simp); show ¬ findI b.msgs u < 0; omega), if_neg (by decide : ¬ (3 : Int) = 5), if_neg (by simp), if_pos (show modB (b.high + 1) = true from inB_true (by omega) (by omega))]
    have hB : apB b ⟨3, u, b.high + 1, noM, emT⟩ = ⟨b.id, b.valid, b.next, b.high + 1, b.words, del u b.msgs⟩ := by
      unfold apB
      rw [if_neg (by decide : ¬ (3 : Int) = 1), if_neg (by decide : ¬ (3 : Int) = 4), if_neg (by decide : ¬ (3 : Int) = 7), if_neg (by decide : ¬ (3 : Int) = 5), if_pos rfl]
      have : max b.high (b.high + 1) = b.high + 1 := by omega
      show (⟨b.id, b.valid, b.next, max b.high (b.high + 1), b.words, del u b.msgs⟩ : Box) = _
      rw [this]
    obtain ⟨hm, _⟩ := ap_may hE
    rw [hB] at hm
    have hok : cutOk ⟨b.id, b.valid, b.next, b.high + 1, b.words, del u b.msgs⟩ l := by
      refine ⟨fun v hv => ?_, h2.2⟩
      obtain ⟨m, hmm, hmu⟩ := find_mem (h1 v (by simp [hv]))
      rw [← hmu]
      refine find_of (List.mem_filter.2 ⟨hmm, ?_⟩)
      simp only [decide_eq_true_eq]
      intro e
      exact h2.1 (by rw [← e, hmu]; exact hv)
    obtain ⟨i1, i2⟩ := cut_done l ⟨b.id, b.valid, b.next, b.high + 1, b.words, del u b.msgs⟩ hm hok (by show b.high + 1 + l.length ≤ 1000000; omega)
    have eC : cutC ⟨b.id, b.valid, b.next, b.high + 1, b.words, del u b.msgs⟩ l = cutC b (u :: l) := by
      unfold cutC del
      rw [List.filter_filter]
      have e1 : b.high + 1 + (l.length : Int) = b.high + ((u :: l).length : Int) := by rw [List.length_cons]; omega
      have e2 : (b.msgs.filter fun m => decide (m.uid ∉ l) && decide (m.uid ≠ u)) = b.msgs.filter fun m => decide (m.uid ∉ u :: l) := List.filter_congr fun m _ => by
        rw [← Bool.decide_and]
        exact decide_eq_decide.2 (by simp [and_comm])
      show (⟨b.id, b.valid, b.next, b.high + 1 + (l.length : Int), b.words, _⟩ : Box) = _
      rw [e1, e2]
    rw [eC] at i1 i2
    refine ⟨?_, ?_⟩
    · show allG b (⟨3, u, b.high + 1, noM, emT⟩ :: cutG (b.high + 1) l) = _
      rw [allG_cons, if_pos hE, hB]; exact i1
    · obtain ⟨m, hmm, hmu⟩ := find_mem (h1 u (by simp))
      obtain ⟨k, hk⟩ := List.mem_iff_getElem?.1 hmm
      have hd := del_less g6 hk hmu
      have hl : (del u b.msgs).length + 1 = b.msgs.length := by
        rw [hd]
        unfold lessL
        have := (List.getElem?_eq_some_iff.1 hk).1
        rw [List.length_append, List.length_take, List.length_drop]; omega
      rw [List.length_cons]
      have i2' : (cutC b (u :: l)).msgs.length + l.length = (del u b.msgs).length := i2
      omega
/-- In whatever order, the same is left. -/
theorem cut_perm {b : Box} {l l' : List Int} (h : l.Perm l') : cutE b l = cutE b l' ∧ cutC b l = cutC b l' := by
  have hok : cutOk b l ↔ cutOk b l' := by
    unfold cutOk
    rw [h.nodup_iff]
    exact ⟨fun ⟨a, c⟩ => ⟨fun u hu => a u (h.mem_iff.2 hu), c⟩, fun ⟨a, c⟩ => ⟨fun u hu => a u (h.mem_iff.1 hu), c⟩⟩
  have hlen := h.length_eq
  constructor
  · unfold cutE
    rw [hlen]
    by_cases hb : mbE b ≠ 0
    · rw [if_pos hb, if_pos hb]
    · rw [if_neg hb, if_neg hb]
      by_cases hk : cutOk b l
      · rw [if_pos hk, if_pos (hok.1 hk)]
      · rw [if_neg hk, if_neg fun h2 => hk (hok.2 h2)]
  · unfold cutC
    rw [hlen]
    congr 1
    exact List.filter_congr fun m _ => decide_eq_decide.2 (not_congr h.mem_iff)
theorem turn_perm (l : List Int) (k : Nat) : l.Perm (l.drop k ++ l.take k) := by
  have := List.perm_append_comm (l₁ := l.take k) (l₂ := l.drop k)
  rwa [List.take_append_drop] at this
theorem cutG_at : ∀ (l : List Int) (h : Int) (i : Nat) (u : Int), l[i]? = some u → (cutG h l)[i]? = some ⟨3, u, h + i + 1, noM, emT⟩
  | [], _, i, u, hu => by simp at hu
  | v :: l, h, 0, u, hu => by
    obtain rfl : v = u := by simpa using hu
    simp [cutG]
  | v :: l, h, i + 1, u, hu => by
    have := cutG_at l (h + 1) i u (by simpa using hu)
    show (cutG (h + 1) l)[i]? = _
    rw [this]
    congr 2
    omega
theorem cutG_length : ∀ (l : List Int) (h : Int), (cutG h l).length = l.length
  | [], _ => rfl
  | _ :: l, h => by show (cutG (h + 1) l).length + 1 = _; rw [cutG_length l]; rfl
end Go.Proofs.YtmkbmdoglcimbaaDoor.RwM
