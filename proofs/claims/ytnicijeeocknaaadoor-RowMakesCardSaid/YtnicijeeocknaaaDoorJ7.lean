/-
  RwM + RwF
-/
import Derived.Test.YtnicijeeocknaaaDoorRwD
set_option linter.unusedVariables false
set_option linter.unusedSimpArgs false
namespace Go.Proofs.YtnicijeeocknaaaDoor.RwM
open Go.RowKit Go.Proofs.YtnicijeeocknaaaDoor.BxD Go.Proofs.YtnicijeeocknaaaDoor.BxOp Go.Proofs.YtnicijeeocknaaaDoor.RwD

def emT : ByteArray := ⟨#[]⟩
/-- The words that are new; all of them; the row that adds one. -/
def newW (ws words : List ByteArray) : List ByteArray := words.filter fun w => decide (w ∉ ws)
def allW (ws words : List ByteArray) : List ByteArray := ws ++ newW ws words
def wRow (w : ByteArray) : Row := ⟨4, 0, 0, noM, w⟩
/-- The places below n that are asked for, rising. -/
def idx (n : Nat) (p : Nat → Bool) : List Int := ((List.range n).filter p).map fun (i : Nat) => (i : Int)
def kW (all words : List ByteArray) : List Int := idx all.length fun i => decide (all.getD i emT ∈ words)
theorem idx_mem {n : Nat} {p : Nat → Bool} {k : Int} : k ∈ idx n p ↔ ∃ i : Nat, i < n ∧ p i = true ∧ k = (i : Int) := by
  unfold idx
  simp only [List.mem_map, List.mem_filter, List.mem_range]
  exact ⟨fun ⟨i, ⟨h1, h2⟩, h3⟩ => ⟨i, h1, h2, h3.symm⟩, fun ⟨i, h1, h2, h3⟩ => ⟨i, ⟨h1, h2⟩, h3.symm⟩⟩
theorem idx_rise (n : Nat) (p : Nat → Bool) : (idx n p).Pairwise (· < ·) := by
  unfold idx
  rw [List.pairwise_map]
  exact ((List.pairwise_lt_range (n := n)).sublist List.filter_sublist).imp fun h => by omega
theorem idx_keys {n n' : Nat} (p : Nat → Bool) (h : n ≤ n') : keysB (idx n p) n' = true := by
  rw [keysB_iff]
  refine ⟨fun k hk => ?_, idx_rise n p⟩
  obtain ⟨i, h1, _, rfl⟩ := idx_mem.1 hk
  omega
theorem idx_congr {n : Nat} {p q : Nat → Bool} (h : ∀ i, i < n → p i = q i) : idx n p = idx n q := by
  unfold idx
  rw [List.filter_congr fun i hi => h i (List.mem_range.1 hi)]
theorem newW_sub (ws words : List ByteArray) : (newW ws words).Sublist words := List.filter_sublist
theorem newW_not {ws words : List ByteArray} {w : ByteArray} (h : w ∈ newW ws words) : w ∉ ws := by
  unfold newW at h
  simpa using (List.mem_filter.1 h).2
theorem allW_mem {ws words : List ByteArray} {w : ByteArray} (h : w ∈ words) : w ∈ allW ws words := by
  unfold allW newW
  by_cases hw : w ∈ ws
  · exact List.mem_append_left _ hw
  · exact List.mem_append_right _ (List.mem_filter.2 ⟨h, by simpa using hw⟩)
theorem allW_nodup {ws words : List ByteArray} (h1 : ws.Nodup) (h2 : words.Nodup) : (allW ws words).Nodup := by
  unfold allW
  rw [List.nodup_append]
  exact ⟨h1, List.Pairwise.sublist (newW_sub ws words) h2, fun x hx y hy e => by subst e; exact newW_not hy hx⟩
theorem newW_nil {ws words : List ByteArray} (h : ∀ w ∈ words, w ∈ ws) : newW ws words = [] := by
  unfold newW
  rw [List.filter_eq_nil_iff]
  intro w hw
  simpa using h w hw
theorem allW_twice (ws words : List ByteArray) : allW (allW ws words) words = allW ws words := by
  show allW ws words ++ newW (allW ws words) words = _
  rw [newW_nil fun w hw => allW_mem hw, List.append_nil]
theorem len_le {α : Type} [BEq α] [LawfulBEq α] : ∀ {a b : List α}, a.Nodup → (∀ x ∈ a, x ∈ b) → a.length ≤ b.length
  | [], _, _, _ => Nat.zero_le _
  | x :: a, b, h, hs => by
    rw [List.nodup_cons] at h
    have hx := hs x (by simp)
    have ih := len_le (b := b.erase x) h.2 fun y hy => (List.mem_erase_of_ne (fun e => h.1 (by rw [← e]; exact hy))).2 (hs y (by simp [hy]))
    rw [List.length_erase_of_mem hx] at ih
    have : 0 < b.length := List.length_pos_of_mem hx
    rw [List.length_cons]; omega
theorem wordsOf_length {ws : List ByteArray} : ∀ {ks : List Int}, (∀ k ∈ ks, 0 ≤ k ∧ k < (ws.length : Int)) → (wordsOf ws ks).length = ks.length
  | [], _ => rfl
  | k :: r, h => by
    obtain ⟨a1, a2⟩ := h k (by simp)
    have ih := wordsOf_length (ws := ws) (ks := r) fun x hx => h x (by simp [hx])
    have hlt : k.toNat < ws.length := by omega
    have h2 := word1_in (ws := ws) a1 (List.getElem?_eq_getElem hlt)
    unfold wordsOf at ih ⊢
    rw [List.flatMap_cons, List.length_append, ih, h2]
    simp only [List.length_cons, List.length_nil]
    omega
theorem kW_length {all words : List ByteArray} (h1 : all.Nodup) (h2 : words.Nodup) (h3 : ∀ w ∈ words, w ∈ all) : (kW all words).length = words.length := by
  have e : (kW all words).length = (((List.range all.length).filter fun i => decide (all.getD i emT ∈ words)).map fun i => all.getD i emT).length := by
    unfold kW idx; simp
  rw [e]
  refine Nat.le_antisymm (len_le ?_ fun x hx => ?_) (len_le h2 fun w hw => ?_)
  · unfold List.Nodup
    rw [List.pairwise_map]
    refine ((List.pairwise_lt_range (n := all.length)).sublist List.filter_sublist).imp_of_mem fun {i j} hi hj hlt heq => ?_
    have li := List.mem_range.1 (List.mem_filter.1 hi).1
    have lj := List.mem_range.1 (List.mem_filter.1 hj).1
    rw [getD_some emT (List.getElem?_eq_getElem li), getD_some emT (List.getElem?_eq_getElem lj)] at heq
    exact List.pairwise_iff_getElem.1 h1 i j li lj hlt heq
  · obtain ⟨i, hi, rfl⟩ := List.mem_map.1 hx
    simpa using (List.mem_filter.1 hi).2
  · obtain ⟨i, hi, e2⟩ := List.mem_iff_getElem.1 (h3 w hw)
    refine List.mem_map.2 ⟨i, List.mem_filter.2 ⟨List.mem_range.2 hi, ?_⟩, ?_⟩
    · rw [getD_some emT (List.getElem?_eq_getElem hi), e2]; simpa using hw
    · rw [getD_some emT (List.getElem?_eq_getElem hi), e2]
theorem kW_words {all words : List ByteArray} (h1 : all.Nodup) (h2 : words.Nodup) (h3 : ∀ w ∈ words, w ∈ all) : (wordsOf all (kW all words)).length = words.length := by
  rw [wordsOf_length, kW_length h1 h2 h3]
  intro k hk
  obtain ⟨i, h1, _, rfl⟩ := idx_mem.1 hk
  omega

/-- Words added to a box. -/
def wordy (b : Box) (l : List ByteArray) : Box := ⟨b.id, b.valid, b.next, b.high, b.words ++ l, b.msgs⟩
theorem word_rows : ∀ (nw : List ByteArray) (b : Box) (rest : List Row), mbE b = 0 → (∀ w ∈ nw, atB w = true) → nw.Nodup → (∀ w ∈ nw, w ∉ b.words) → b.words.length + nw.length ≤ 64 →
    allG b (nw.map wRow ++ rest) = allG (wordy b nw) rest ∧ mbE (wordy b nw) = 0
  | [], b, rest, hb, _, _, _, _ => by
    have : wordy b [] = b := by unfold wordy; rw [List.append_nil]
    rw [this]; exact ⟨rfl, hb⟩
  | w :: nw, b, rest, hb, h1, h2, h3, h4 => by
    rw [List.nodup_cons] at h2
    rw [List.length_cons] at h4
    have hE : apE b (wRow w) = 0 := by
      unfold apE wRow
      rw [if_neg (by simpa using hb), if_neg (by decide : ¬ (4 : Int) = 1), if_pos rfl, if_neg (by simp [h1 w (by simp)]), if_neg (h3 w (by simp)), if_neg (by omega)]
    have hB : apB b (wRow w) = wordy b [w] := rfl
    obtain ⟨hm, _⟩ := ap_may hE
    rw [hB] at hm
    rw [List.map_cons, List.cons_append, allG_cons, if_pos hE, hB]
    have e : wordy (wordy b [w]) nw = wordy b (w :: nw) := by unfold wordy; simp
    rw [← e]
    refine word_rows nw (wordy b [w]) rest hm (fun x hx => h1 x (by simp [hx])) h2.2 (fun x hx hx2 => ?_) (by show (b.words ++ [w]).length + nw.length ≤ 64; simp; omega)
    rcases List.mem_append.1 hx2 with hx2 | hx2
    · exact h3 x (by simp [hx]) hx2
    · obtain rfl := List.mem_singleton.1 hx2
      exact h2.1 hx
theorem new_rows {b : Box} {words : List ByteArray} (rest : List Row) (hb : mbE b = 0) (hw : wordsB words = true) (h : (allW b.words words).length ≤ 64) :
    allG b ((newW b.words words).map wRow ++ rest) = allG (wordy b (newW b.words words)) rest ∧ mbE (wordy b (newW b.words words)) = 0 := by
  obtain ⟨w1, w2⟩ := (wordsB_iff _).1 hw
  have hs := newW_sub b.words words
  refine word_rows _ b rest hb (fun w hx => w1 w (hs.subset hx)) (List.Pairwise.sublist hs w2) (fun w hx => newW_not hx) ?_
  unfold allW at h
  rw [List.length_append] at h
  exact h

/-- What adds a message. -/
def addM (b : Box) (date : Int) (id : ByteArray) (flags : Int) (words : List ByteArray) (text : ByteArray) : Msg :=
  ⟨b.next, b.high + 1, date, if id.size = 0 then ownT b.id b.next else id, flags, kW (allW b.words words) words, text⟩
def addE (b : Box) (date : Int) (id : ByteArray) (flags : Int) (words : List ByteArray) (text : ByteArray) : Int :=
  if mbE b ≠ 0 ∨ wordsB words = false then 1
  else if 60 ≤ b.msgs.length ∨ 64 < (allW b.words words).length then 4
  else if 1000000 ≤ b.high ∨ 1000000 ≤ b.next then 9
  else mmE (allW b.words words).length (addM b date id flags words text)
def addL (b : Box) (date : Int) (id : ByteArray) (flags : Int) (words : List ByteArray) (text : ByteArray) : List Row :=
  (newW b.words words).map wRow ++ [⟨1, 0, 0, addM b date id flags words text, emT⟩]
def addC (b : Box) (date : Int) (id : ByteArray) (flags : Int) (words : List ByteArray) (text : ByteArray) : Box :=
  ⟨b.id, b.valid, b.next + 1, b.high + 1, allW b.words words, b.msgs ++ [addM b date id flags words text]⟩
theorem addE_parts {b : Box} {date flags : Int} {id text : ByteArray} {words : List ByteArray} (h : addE b date id flags words text = 0) :
    mbE b = 0 ∧ wordsB words = true ∧ b.msgs.length < 60 ∧ (allW b.words words).length ≤ 64 ∧ b.high < 1000000 ∧ b.next < 1000000 ∧ mmB (allW b.words words).length (addM b date id flags words text) = true := by
  unfold addE at h
  by_cases h1 : mbE b ≠ 0 ∨ wordsB words = false
  · rw [if_pos h1] at h; cases h
  rw [if_neg h1] at h
  by_cases h2 : 60 ≤ b.msgs.length ∨ 64 < (allW b.words words).length
  · rw [if_pos h2] at h; cases h
  rw [if_neg h2] at h
  by_cases h3 : 1000000 ≤ b.high ∨ 1000000 ≤ b.next
  · rw [if_pos h3] at h; cases h
  rw [if_neg h3] at h
  simp only [not_or, Classical.not_not] at h1
  refine ⟨h1.1, by simpa using h1.2, by omega, by omega, by omega, by omega, ?_⟩
  unfold mmE at h
  split at h
  · assumption
  · cases h
theorem add_done {b : Box} {date flags : Int} {id text : ByteArray} {words : List ByteArray} (h : addE b date id flags words text = 0) :
    allG b (addL b date id flags words text) = (addC b date id flags words text, 0) ∧ mbE (addC b date id flags words text) = 0 := by
  obtain ⟨h1, h2, h3, h4, h5, h6, h7⟩ := addE_parts h
  obtain ⟨hr, hm⟩ := new_rows (b := b) [⟨1, 0, 0, addM b date id flags words text, emT⟩] h1 h2 h4
  have hE : apE (wordy b (newW b.words words)) ⟨1, 0, 0, addM b date id flags words text, emT⟩ = 0 := by
    unfold apE
    rw [if_neg (by simpa using hm), if_pos rfl, if_neg (by show ¬ 60 ≤ b.msgs.length; omega), if_neg (by
      show ¬ mmB (allW b.words words).length (addM b date id flags words text) = false
      rw [h7]; decide), if_neg (by show ¬ b.next < b.next; omega)]
  have hB : apB (wordy b (newW b.words words)) ⟨1, 0, 0, addM b date id flags words text, emT⟩ = addC b date id flags words text := by
    unfold apB
    rw [if_pos rfl]
    unfold addC wordy
    have : max b.high (addM b date id flags words text).mod = b.high + 1 := by show max b.high (b.high + 1) = b.high + 1; omega
    rw [this]; rfl
  obtain ⟨hm2, _⟩ := ap_may hE
  rw [hB] at hm2
  refine ⟨?_, hm2⟩
  unfold addL
  rw [hr, allG_cons, if_pos hE, hB]; rfl

/-- Rows that take messages away. -/
def cutG : Int → List Int → List Row
  | _, [] => []
  | h, u :: l => ⟨3, u, h + 1, noM, emT⟩ :: cutG (h + 1) l
def cutOk (b : Box) (l : List Int) : Prop := (∀ u ∈ l, 0 ≤ findI b.msgs u) ∧ l.Nodup
instance cutOk_dec (b : Box) (l : List Int) : Decidable (cutOk b l) := inferInstanceAs (Decidable (_ ∧ _))
def cutE (b : Box) (l : List Int) : Int := if mbE b ≠ 0 then 1 else if cutOk b l then if 1000000 < b.high + l.length then 9 else 0 else 6
def cutC (b : Box) (l : List Int) : Box := ⟨b.id, b.valid, b.next, b.high + l.length, b.words, b.msgs.filter fun m => decide (m.uid ∉ l)⟩
theorem cut_done : ∀ (l : List Int) (b : Box), mbE b = 0 → cutOk b l → b.high + l.length ≤ 1000000 → allG b (cutG b.high l) = (cutC b l, 0) ∧ (cutC b l).msgs.length + l.length = b.msgs.length
  | [], b, _, _, _ => by
    have : cutC b [] = b := by
      unfold cutC
      rw [List.filter_eq_self.2 fun m _ => by simp]
      simp
    rw [this]; exact ⟨rfl, rfl⟩
  | u :: l, b, hb, ⟨h1, h2⟩, h3 => by
    rw [List.nodup_cons] at h2
    rw [List.length_cons] at h3
    obtain ⟨g1, g2, g3, g4, g5, g6⟩ := (mb_iff b).1 hb
    obtain ⟨_, _, _, p4, _⟩ := head_parts g1
    have hE : apE b ⟨3, u, b.high + 1, noM, emT⟩ = 0 := by
      unfold apE
      rw [if_neg (by simpa using hb), if_neg (by decide : ¬ (3 : Int) = 1), if_neg (by decide : ¬ (3 : Int) = 4), if_neg (by decide : ¬ (3 : Int) = 7), if_pos (by simp), if_neg (by have := h1 u (by simp); show ¬ findI b.msgs u < 0; omega), if_neg (by decide : ¬ (3 : Int) = 5), if_neg (by simp), if_pos (show modB (b.high + 1) = true from inB_true (by omega) (by omega))]
    have hB : apB b ⟨3, u, b.high + 1, noM, emT⟩ = ⟨b.id, b.valid, b.next, b.high + 1, b.words, del u b.msgs⟩ := by
      unfold apB
      rw [if_neg (by decide : ¬ (3 : Int) = 1), if_neg (by decide : ¬ (3 : Int) = 4), if_neg (by decide : ¬ (3 : Int) = 7), if_neg (by decide : ¬ (3 : Int) = 5), if_pos rfl]
      have : max b.high (b.high + 1) = b.high + 1 := by omega
      show (⟨b.id, b.valid, b.next, max b.high (b.high + 1), b.words, del u b.msgs⟩ : Box) = _
      rw [this]
    obtain ⟨hm, _⟩ := ap_may hE
    rw [hB] at hm
    have hok : cutOk ⟨b.id, b.valid, b.next, b.high + 1, b.words, del u b.msgs⟩ l := by
      refine ⟨fun v hv => ?_, h2.2⟩
      obtain ⟨m, hmm, hmu⟩ := find_mem (h1 v (by simp [hv]))
      rw [← hmu]
      refine find_of (List.mem_filter.2 ⟨hmm, ?_⟩)
      simp only [decide_eq_true_eq]
      intro e
      exact h2.1 (by rw [← e, hmu]; exact hv)
    obtain ⟨i1, i2⟩ := cut_done l ⟨b.id, b.valid, b.next, b.high + 1, b.words, del u b.msgs⟩ hm hok (by show b.high + 1 + l.length ≤ 1000000; omega)
    have eC : cutC ⟨b.id, b.valid, b.next, b.high + 1, b.words, del u b.msgs⟩ l = cutC b (u :: l) := by
      unfold cutC del
      rw [List.filter_filter]
      have e1 : b.high + 1 + (l.length : Int) = b.high + ((u :: l).length : Int) := by rw [List.length_cons]; omega
      have e2 : (b.msgs.filter fun m => decide (m.uid ∉ l) && decide (m.uid ≠ u)) = b.msgs.filter fun m => decide (m.uid ∉ u :: l) := List.filter_congr fun m _ => by
        rw [← Bool.decide_and]
        exact decide_eq_decide.2 (by simp [and_comm])
      show (⟨b.id, b.valid, b.next, b.high + 1 + (l.length : Int), b.words, _⟩ : Box) = _
      rw [e1, e2]
    rw [eC] at i1 i2
    refine ⟨?_, ?_⟩
    · show allG b (⟨3, u, b.high + 1, noM, emT⟩ :: cutG (b.high + 1) l) = _
      rw [allG_cons, if_pos hE, hB]; exact i1
    · obtain ⟨m, hmm, hmu⟩ := find_mem (h1 u (by simp))
      obtain ⟨k, hk⟩ := List.mem_iff_getElem?.1 hmm
      have hd := del_less g6 hk hmu
      have hl : (del u b.msgs).length + 1 = b.msgs.length := by
        rw [hd]
        unfold lessL
        have := (List.getElem?_eq_some_iff.1 hk).1
        rw [List.length_append, List.length_take, List.length_drop]; omega
      rw [List.length_cons]
      have i2' : (cutC b (u :: l)).msgs.length + l.length = (del u b.msgs).length := i2
      omega
/-- In whatever order, the same is left. -/
theorem cut_perm {b : Box} {l l' : List Int} (h : l.Perm l') : cutE b l = cutE b l' ∧ cutC b l = cutC b l' := by
  have hok : cutOk b l ↔ cutOk b l' := by
    unfold cutOk
    rw [h.nodup_iff]
    exact ⟨fun ⟨a, c⟩ => ⟨fun u hu => a u (h.mem_iff.2 hu), c⟩, fun ⟨a, c⟩ => ⟨fun u hu => a u (h.mem_iff.1 hu), c⟩⟩
  have hlen := h.length_eq
  constructor
  · unfold cutE
    rw [hlen]
    by_cases hb : mbE b ≠ 0
    · rw [if_pos hb, if_pos hb]
    · rw [if_neg hb, if_neg hb]
      by_cases hk : cutOk b l
      · rw [if_pos hk, if_pos (hok.1 hk)]
      · rw [if_neg hk, if_neg fun h2 => hk (hok.2 h2)]
  · unfold cutC
    rw [hlen]
    congr 1
    exact List.filter_congr fun m _ => decide_eq_decide.2 (not_congr h.mem_iff)
theorem turn_perm (l : List Int) (k : Nat) : l.Perm (l.drop k ++ l.take k) := by
  have := List.perm_append_comm (l₁ := l.take k) (l₂ := l.drop k)
  rwa [List.take_append_drop] at this
theorem cutG_at : ∀ (l : List Int) (h : Int) (i : Nat) (u : Int), l[i]? = some u → (cutG h l)[i]? = some ⟨3, u, h + i + 1, noM, emT⟩
  | [], _, i, u, hu => by simp at hu
  | v :: l, h, 0, u, hu => by
    obtain rfl : v = u := by simpa using hu
    simp [cutG]
  | v :: l, h, i + 1, u, hu => by
    have := cutG_at l (h + 1) i u (by simpa using hu)
    show (cutG (h + 1) l)[i]? = _
    rw [this]
    congr 2
    omega
theorem cutG_length : ∀ (l : List Int) (h : Int), (cutG h l).length = l.length
  | [], _ => rfl
  | _ :: l, h => by show (cutG (h + 1) l).length + 1 = _; rw [cutG_length l]; rfl
end Go.Proofs.YtnicijeeocknaaaDoor.RwM

namespace Go.Proofs.YtnicijeeocknaaaDoor.RwF
open Go.RowKit Go.Proofs.YtnicijeeocknaaaDoor.BxD Go.Proofs.YtnicijeeocknaaaDoor.BxOp Go.Proofs.YtnicijeeocknaaaDoor.RwD Go.Proofs.YtnicijeeocknaaaDoor.RwM

def orI (a b : Int) : Int := bits .or .i64 a b
def notI (a b : Int) : Int := bits .andNot .i64 a b
def andI (a b : Int) : Int := bits .and .i64 a b
theorem bits_all : ∀ a : Fin 32, ∀ b : Fin 32, (0 ≤ orI (a.val : Int) b.val ∧ orI (a.val : Int) b.val ≤ 31) ∧ (0 ≤ notI (a.val : Int) b.val ∧ notI (a.val : Int) b.val ≤ 31) ∧ andI (orI (a.val : Int) b.val) b.val = b.val ∧ andI (notI (a.val : Int) b.val) b.val = 0 ∧
    orI (orI (a.val : Int) b.val) b.val = orI (a.val : Int) b.val ∧ notI (notI (a.val : Int) b.val) b.val = notI (a.val : Int) b.val ∧ notI (orI (a.val : Int) b.val) b.val = notI (a.val : Int) b.val := by decide +kernel
theorem bits_of {a b : Int} (ha : 0 ≤ a ∧ a ≤ 31) (hb : 0 ≤ b ∧ b ≤ 31) : (0 ≤ orI a b ∧ orI a b ≤ 31) ∧ (0 ≤ notI a b ∧ notI a b ≤ 31) ∧ andI (orI a b) b = b ∧ andI (notI a b) b = 0 ∧ orI (orI a b) b = orI a b ∧ notI (notI a b) b = notI a b ∧ notI (orI a b) b = notI a b := by
  obtain ⟨x, rfl⟩ := Int.eq_ofNat_of_zero_le ha.1
  obtain ⟨y, rfl⟩ := Int.eq_ofNat_of_zero_le hb.1
  exact bits_all ⟨x, by omega⟩ ⟨y, by omega⟩

/-- The message with that UID. -/
def theM (ms : List Msg) (u : Int) : Option Msg := ms.find? fun m => decide (m.uid = u)
theorem theM_mem {ms : List Msg} {u : Int} {m : Msg} (h : theM ms u = some m) : m ∈ ms ∧ m.uid = u :=
  ⟨List.mem_of_find?_eq_some h, by simpa using List.find?_some h⟩
theorem theM_none {ms : List Msg} {u : Int} : theM ms u = none ↔ findI ms u < 0 := by
  constructor
  · intro h
    unfold theM at h
    rw [List.find?_eq_none] at h
    rw [findI_none fun x hx => by simpa using h x hx]; decide
  · intro h
    unfold theM
    rw [List.find?_eq_none]
    intro x hx e
    have e2 : x.uid = u := by simpa using e
    have := find_of hx
    rw [e2] at this
    omega
theorem theM_of {ms : List Msg} {m : Msg} (hr : Rises ms) (h : m ∈ ms) : theM ms m.uid = some m := by
  cases ht : theM ms m.uid with
  | none => rw [theM_none] at ht; have := find_of h; omega
  | some x =>
    obtain ⟨hx, hu⟩ := theM_mem ht
    obtain ⟨i, hi⟩ := List.mem_iff_getElem?.1 h
    obtain ⟨j, hj⟩ := List.mem_iff_getElem?.1 hx
    rcases Nat.lt_trichotomy i j with hl | rfl | hl
    · have := mem_rise hr hl hi hj; omega
    · rw [hi] at hj; rw [Option.some.inj hj]
    · have := mem_rise hr hl hj hi; omega
theorem theM_at {ms : List Msg} {k : Nat} {m : Msg} (hr : Rises ms) (h : ms[k]? = some m) : theM ms m.uid = some m ∧ findI ms m.uid = k := by
  refine ⟨theM_of hr (List.mem_of_getElem? h), findI_hit (fun j x hj hx => ?_) h rfl⟩
  have := mem_rise hr hj hx h
  omega
/-- What the message shall have. -/
def flAll (b : Box) (words : List ByteArray) (how : Int) : List ByteArray := if how = 2 then b.words else allW b.words words
def flBits (m : Msg) (flags how : Int) : Int := if how = 1 then orI m.flags flags else if how = 2 then notI m.flags flags else flags
def moreK (all words : List ByteArray) (ks : List Int) : List Int := idx all.length fun i => decide (all.getD i emT ∈ words) || decide ((i : Int) ∈ ks)
def lessK (ws words : List ByteArray) (ks : List Int) : List Int := ks.filter fun k => decide (ws.getD k.toNat emT ∉ words)
def flKeys (b : Box) (m : Msg) (words : List ByteArray) (how : Int) : List Int :=
  if how = 1 then moreK (allW b.words words) words m.keys else if how = 2 then lessK b.words words m.keys else kW (allW b.words words) words
def flSame (b : Box) (m : Msg) (flags : Int) (words : List ByteArray) (how : Int) : Prop := flBits m flags how = m.flags ∧ flKeys b m words how = m.keys
instance flSame_dec (b : Box) (m : Msg) (flags : Int) (words : List ByteArray) (how : Int) : Decidable (flSame b m flags words how) := inferInstanceAs (Decidable (_ ∧ _))
def flNew (b : Box) (words : List ByteArray) (how : Int) : List ByteArray := if how = 2 then [] else newW b.words words
def flR (b : Box) (m : Msg) (u flags : Int) (words : List ByteArray) (how : Int) : Row := ⟨2, u, b.high + 1, ⟨0, 0, 0, emT, flBits m flags how, flKeys b m words how, emT⟩, emT⟩
def flE (b : Box) (u flags : Int) (words : List ByteArray) (how : Int) : Int :=
  if mbE b ≠ 0 ∨ flB flags = false ∨ wordsB words = false ∨ inB 0 how 2 = false then 1
  else match theM b.msgs u with
  | none => 6
  | some m => if flSame b m flags words how then 0 else if 64 < (flAll b words how).length then 4 else if 1000000 ≤ b.high then 9 else 0
def flL (b : Box) (u flags : Int) (words : List ByteArray) (how : Int) : List Row :=
  match theM b.msgs u with
  | none => []
  | some m => if flSame b m flags words how then [] else (flNew b words how).map wRow ++ [flR b m u flags words how]
def flM (b : Box) (flags : Int) (words : List ByteArray) (how : Int) (m : Msg) : Msg := ⟨m.uid, b.high + 1, m.date, m.id, flBits m flags how, flKeys b m words how, m.text⟩
/-- The box behind the rows. -/
def flC (b : Box) (m : Msg) (u flags : Int) (words : List ByteArray) (how : Int) : Box :=
  if flSame b m flags words how then b else ⟨b.id, b.valid, b.next, b.high + 1, flAll b words how, upd u (fun _ => flM b flags words how m) b.msgs⟩
theorem flE_parts {b : Box} {u flags how : Int} {words : List ByteArray} (h : flE b u flags words how = 0) :
    mbE b = 0 ∧ (0 ≤ flags ∧ flags ≤ 31) ∧ wordsB words = true ∧ (0 ≤ how ∧ how ≤ 2) ∧ ∃ m, theM b.msgs u = some m ∧ (flSame b m flags words how ∨ (flAll b words how).length ≤ 64 ∧ b.high < 1000000) := by
  unfold flE at h
  by_cases h1 : mbE b ≠ 0 ∨ flB flags = false ∨ wordsB words = false ∨ inB 0 how 2 = false
  · rw [if_pos h1] at h; cases h
  rw [if_neg h1] at h
  simp only [not_or, Classical.not_not, Bool.not_eq_false] at h1
  refine ⟨h1.1, inB_out h1.2.1, h1.2.2.1, inB_out h1.2.2.2, ?_⟩
  cases hm : theM b.msgs u with
  | none => rw [hm] at h; cases h
  | some m =>
    rw [hm] at h
    refine ⟨m, rfl, ?_⟩
    dsimp only at h
    by_cases g1 : flSame b m flags words how
    · exact .inl g1
    rw [if_neg g1] at h
    by_cases g2 : 64 < (flAll b words how).length
    · rw [if_pos g2] at h; cases h
    rw [if_neg g2] at h
    by_cases g3 : 1000000 ≤ b.high
    · rw [if_pos g3] at h; cases h
    exact .inr ⟨by omega, by omega⟩
theorem flAll_le (b : Box) (words : List ByteArray) (how : Int) : b.words.length ≤ (flAll b words how).length := by
  unfold flAll allW
  split
  · exact Nat.le_refl _
  · simp
theorem flBits_in {m : Msg} {flags how : Int} (h1 : 0 ≤ m.flags ∧ m.flags ≤ 31) (h2 : 0 ≤ flags ∧ flags ≤ 31) : 0 ≤ flBits m flags how ∧ flBits m flags how ≤ 31 := by
  obtain ⟨a, c, _⟩ := bits_of h1 h2
  unfold flBits
  split
  · exact a
  · split
    · exact c
    · exact h2
theorem flKeys_ok {b : Box} {m : Msg} {words : List ByteArray} {how : Int} (h : keysB m.keys b.words.length = true) : keysB (flKeys b m words how) (flAll b words how).length = true := by
  unfold flKeys
  by_cases h1 : how = 1
  · rw [if_pos h1]
    unfold flAll
    rw [if_neg (by omega)]
    exact idx_keys _ (Nat.le_refl _)
  · rw [if_neg h1]
    by_cases h2 : how = 2
    · rw [if_pos h2]
      unfold flAll lessK
      rw [if_pos h2, keysB_iff]
      obtain ⟨a, c⟩ := (keysB_iff _ _).1 h
      exact ⟨fun k hk => a k (List.mem_filter.1 hk).1, c.sublist List.filter_sublist⟩
    · rw [if_neg h2]
      unfold flAll
      rw [if_neg h2]
      exact idx_keys _ (Nat.le_refl _)
theorem fl_done {b : Box} {u flags how : Int} {words : List ByteArray} {m : Msg} (h : flE b u flags words how = 0) (hm : theM b.msgs u = some m) :
    allG b (flL b u flags words how) = (flC b m u flags words how, 0) ∧ mbE (flC b m u flags words how) = 0 := by
  obtain ⟨h1, h2, h3, h4, m', hm', h5⟩ := flE_parts h
  obtain rfl : m' = m := Option.some.inj (hm'.symm.trans hm)
  unfold flL flC
  rw [hm]
  dsimp only
  by_cases hs : flSame b m' flags words how
  · rw [if_pos hs, if_pos hs]; exact ⟨rfl, h1⟩
  rw [if_neg hs, if_neg hs]
  rcases h5 with h5 | ⟨h5, h6⟩
  · exact absurd h5 hs
  obtain ⟨hmem, hmu⟩ := theM_mem hm
  obtain ⟨g1, g2, g3, g4, g5, g6⟩ := (mb_iff b).1 h1
  obtain ⟨_, _, _, p4, _⟩ := head_parts g1
  obtain ⟨ha, _, _⟩ := g5 m' hmem
  obtain ⟨_, _, _, _, q5, q6, _⟩ := mm_parts ha
  have hrows : allG b ((flNew b words how).map wRow ++ [flR b m' u flags words how]) = allG (wordy b (flNew b words how)) [flR b m' u flags words how] ∧ mbE (wordy b (flNew b words how)) = 0 := by
    unfold flNew
    by_cases hw : how = 2
    · rw [if_pos hw]
      have : wordy b [] = b := by unfold wordy; rw [List.append_nil]
      rw [this]; exact ⟨rfl, h1⟩
    · rw [if_neg hw]
      refine new_rows _ h1 h3 ?_
      unfold flAll at h5
      rwa [if_neg hw] at h5
  have hwords : (wordy b (flNew b words how)).words = flAll b words how := by
    unfold wordy flNew flAll allW
    by_cases hw : how = 2
    · rw [if_pos hw, if_pos hw]; simp
    · rw [if_neg hw, if_neg hw]
  obtain ⟨r1, r2⟩ := hrows
  have hE : apE (wordy b (flNew b words how)) (flR b m' u flags words how) = 0 := by
    unfold apE flR
    rw [if_neg (by simpa using r2), if_neg (by decide : ¬ (2 : Int) = 1), if_neg (by decide : ¬ (2 : Int) = 4), if_neg (by decide : ¬ (2 : Int) = 7), if_pos (by simp),
      if_neg (by have := find_of hmem; rw [hmu] at this; show ¬ findI b.msgs u < 0; omega), if_neg (by decide : ¬ (2 : Int) = 5), if_neg (by
        intro ⟨_, e⟩
        have e1 := flBits_in (m := m') (flags := flags) (how := how) q5 h2
        have e2 := flKeys_ok (words := words) (how := how) q6
        rw [hwords] at e
        rw [show flB (flBits m' flags how) = true from inB_true e1.1 e1.2] at e
        rw [e2] at e
        cases e), if_pos (show modB (b.high + 1) = true from inB_true (by omega) (by omega))]
  have hB : apB (wordy b (flNew b words how)) (flR b m' u flags words how) = ⟨b.id, b.valid, b.next, b.high + 1, flAll b words how, upd u (fun _ => flM b flags words how m') b.msgs⟩ := by
    unfold apB
    have hk : (flR b m' u flags words how).kind = 2 := rfl
    rw [if_neg (show ¬ (flR b m' u flags words how).kind = 1 by rw [hk]; decide), if_neg (show ¬ (flR b m' u flags words how).kind = 4 by rw [hk]; decide), if_neg (show ¬ (flR b m' u flags words how).kind = 7 by rw [hk]; decide), if_neg (show ¬ (flR b m' u flags words how).kind = 5 by rw [hk]; decide), if_neg (show ¬ (flR b m' u flags words how).kind = 3 by rw [hk]; decide), if_pos hk]
    rw [hwords]
    have e1 : max (wordy b (flNew b words how)).high (flR b m' u flags words how).mod = b.high + 1 := by show max b.high (b.high + 1) = b.high + 1; omega
    rw [e1]
    show (⟨b.id, b.valid, b.next, b.high + 1, flAll b words how, _⟩ : Box) = _
    congr 1
    unfold upd
    refine List.map_congr_left fun x hx => ?_
    by_cases hxu : x.uid = u
    · have : x = m' := by
        have e := theM_of g6 hx
        rw [hxu, hm] at e
        exact (Option.some.inj e).symm
      subst this
      rw [if_pos hxu, if_pos (show x.uid = (flR b x u flags words how).uid from hxu)]; rfl
    · rw [if_neg hxu, if_neg (show ¬ x.uid = (flR b m' u flags words how).uid from hxu)]
  obtain ⟨r3, _⟩ := ap_may hE
  rw [hB] at r3
  refine ⟨?_, r3⟩
  rw [r1, allG_cons, if_pos hE, hB]; rfl
/-- The message behind it. -/
theorem flC_at {b : Box} {u flags how : Int} {words : List ByteArray} {m : Msg} {k : Nat} (hb : mbE b = 0) (hk : b.msgs[k]? = some m) (hu : m.uid = u) :
    (flC b m u flags words how).msgs[k]? = some (if flSame b m flags words how then m else flM b flags words how m) ∧ (flC b m u flags words how).msgs.length = b.msgs.length ∧
      ∀ j x, b.msgs[j]? = some x → j ≠ k → (flC b m u flags words how).msgs[j]? = some x := by
  obtain ⟨_, _, _, _, _, g6⟩ := (mb_iff b).1 hb
  unfold flC
  by_cases hs : flSame b m flags words how
  · rw [if_pos hs, if_pos hs]; exact ⟨hk, rfl, fun j x hx _ => hx⟩
  · rw [if_neg hs, if_neg hs]
    have e := upd_set (f := fun _ => flM b flags words how m) g6 hk hu
    have hl := (List.getElem?_eq_some_iff.1 hk).1
    dsimp only
    rw [e]
    exact ⟨by rw [List.getElem?_set_self hl], by simp, fun j x hx hj => by rw [List.getElem?_set_ne (fun e => hj e.symm)]; exact hx⟩
/-- Asked again there is nothing to change. -/
theorem fl_again {b : Box} {u flags how : Int} {words : List ByteArray} {m : Msg} (h : flE b u flags words how = 0) (hm : theM b.msgs u = some m) :
    flE (flC b m u flags words how) u flags words how = 0 ∧ flL (flC b m u flags words how) u flags words how = [] := by
  obtain ⟨h1, h2, h3, h4, m', hm', h5⟩ := flE_parts h
  obtain rfl : m' = m := Option.some.inj (hm'.symm.trans hm)
  obtain ⟨_, hmay⟩ := fl_done h hm
  obtain ⟨hmem, hmu⟩ := theM_mem hm
  obtain ⟨k, hk⟩ := List.mem_iff_getElem?.1 hmem
  obtain ⟨c1, _, _⟩ := flC_at (flags := flags) (words := words) (how := how) h1 hk hmu
  obtain ⟨_, _, _, _, g5, g6⟩ := (mb_iff _).1 hmay
  obtain ⟨_, _, _, _, b5, _⟩ := (mb_iff b).1 h1
  obtain ⟨_, _, _, _, q5, q6, _⟩ := mm_parts (b5 m' hmem).1
  have hx : theM (flC b m' u flags words how).msgs u = some (if flSame b m' flags words how then m' else flM b flags words how m') := by
    have := (theM_at g6 c1).1
    have e : (if flSame b m' flags words how then m' else flM b flags words how m').uid = u := by split <;> exact hmu
    rwa [e] at this
  have hsame : flSame (flC b m' u flags words how) (if flSame b m' flags words how then m' else flM b flags words how m') flags words how := by
    by_cases hs : flSame b m' flags words how
    · unfold flC
      rw [if_pos hs, if_pos hs]; exact hs
    · unfold flC
      rw [if_neg hs, if_neg hs]
      obtain ⟨_, _, _, _, a5, a6, _⟩ := bits_of q5 h2
      refine ⟨?_, ?_⟩
      · unfold flBits flM
        dsimp only
        unfold flBits
        by_cases e1 : how = 1
        · rw [if_pos e1, if_pos e1]; exact a5
        · rw [if_neg e1, if_neg e1]
          by_cases e2 : how = 2
          · rw [if_pos e2, if_pos e2]; exact a6
          · rw [if_neg e2, if_neg e2]
      · unfold flKeys flM
        dsimp only
        unfold flKeys flAll
        by_cases e1 : how = 1
        · rw [if_pos e1, if_pos e1, if_neg (by omega : ¬ how = 2), allW_twice]
          unfold moreK
          refine idx_congr fun i hi => ?_
          have hmm : ((i : Int) ∈ idx (allW b.words words).length fun i => decide ((allW b.words words).getD i emT ∈ words) || decide ((i : Int) ∈ m'.keys)) ↔ ((decide ((allW b.words words).getD i emT ∈ words) || decide ((i : Int) ∈ m'.keys)) = true) := by
            rw [idx_mem]
            exact ⟨fun ⟨j, _, hp, e⟩ => by obtain rfl : i = j := by omega
                                           exact hp, fun hp => ⟨i, hi, hp, rfl⟩⟩
          have hmm2 : decide ((i : Int) ∈ idx (allW b.words words).length fun i => decide ((allW b.words words).getD i emT ∈ words) || decide ((i : Int) ∈ m'.keys)) = (decide ((allW b.words words).getD i emT ∈ words) || decide ((i : Int) ∈ m'.keys)) :=
            Bool.eq_iff_iff.2 (by rw [decide_eq_true_iff]; exact hmm)
          rw [hmm2]
          cases decide ((allW b.words words).getD i emT ∈ words) <;> simp
        · rw [if_neg e1, if_neg e1]
          by_cases e2 : how = 2
          · rw [if_pos e2, if_pos e2, if_pos e2]
            unfold lessK
            rw [List.filter_filter]
            exact List.filter_congr fun k _ => by simp
          · rw [if_neg e2, if_neg e2, if_neg e2, allW_twice]
  refine ⟨?_, ?_⟩
  · unfold flE
    rw [if_neg (by
      simp only [not_or, Classical.not_not, Bool.not_eq_false]
      exact ⟨hmay, inB_true h2.1 h2.2, h3, inB_true h4.1 h4.2⟩), hx]
    dsimp only
    rw [if_pos hsame]
  · unfold flL
    rw [hx]
    dsimp only
    rw [if_pos hsame]
/-- What was asked for is there. -/
theorem flC_flags {b : Box} {u flags how : Int} {words : List ByteArray} {m : Msg} (h : flE b u flags words how = 0) (hm : theM b.msgs u = some m) :
    (if flSame b m flags words how then m else flM b flags words how m).flags = flBits m flags how ∧ (how = 0 → flBits m flags how = flags) ∧ (how = 1 → andI (flBits m flags how) flags = flags) ∧ (how = 2 → andI (flBits m flags how) flags = 0) ∧
      (flC b m u flags words how).high = b.high + (if flSame b m flags words how then 0 else 1) ∧ ((flL b u flags words how).length = 0 ↔ flSame b m flags words how) := by
  obtain ⟨h1, h2, h3, h4, m', hm', h5⟩ := flE_parts h
  obtain rfl : m' = m := Option.some.inj (hm'.symm.trans hm)
  obtain ⟨hmem, hmu⟩ := theM_mem hm
  obtain ⟨_, _, _, _, b5, _⟩ := (mb_iff b).1 h1
  obtain ⟨_, _, _, _, q5, q6, _⟩ := mm_parts (b5 m' hmem).1
  obtain ⟨_, _, a3, a4, _, _, _⟩ := bits_of q5 h2
  refine ⟨?_, fun e => ?_, fun e => ?_, fun e => ?_, ?_, ?_⟩
  · split
    · rename_i hs; exact hs.1.symm
    · rfl
  · unfold flBits; rw [if_neg (by omega), if_neg (by omega)]
  · unfold flBits; rw [if_pos e]; exact a3
  · unfold flBits; rw [if_neg (by omega), if_pos e]; exact a4
  · unfold flC
    split
    · omega
    · rfl
  · unfold flL
    rw [hm]
    dsimp only
    by_cases hs : flSame b m' flags words how
    · rw [if_pos hs]; exact ⟨fun _ => hs, fun _ => rfl⟩
    · rw [if_neg hs]
      exact ⟨fun e => by simp at e, fun e => absurd e hs⟩
end Go.Proofs.YtnicijeeocknaaaDoor.RwF
