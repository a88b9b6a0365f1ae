/-
  What is written in an old form is read as it was, but for what the form does not know; cut short it is no form: pure.
-/
import Derived.Test.YtchlbbndfhibgaaGreatDoorOlD
import Derived.Test.YtchlbbndfhibgaaGreatDoorFoN
set_option linter.unusedVariables false
set_option linter.unusedSimpArgs false
namespace Go.Proofs.YtchlbbndfhibgaaGreatDoor.OlP
open Go.RowKit Go.Proofs.YtchlbbndfhibgaaGreatDoor.BxD Go.Proofs.YtchlbbndfhibgaaGreatDoor.BxOp Go.Proofs.YtchlbbndfhibgaaGreatDoor.PkB Go.Proofs.YtchlbbndfhibgaaGreatDoor.PkC Go.Proofs.YtchlbbndfhibgaaGreatDoor.PkD Go.Proofs.YtchlbbndfhibgaaGreatDoor.PkF Go.Proofs.YtchlbbndfhibgaaGreatDoor.PkG Go.Proofs.YtchlbbndfhibgaaGreatDoor.PkK Go.Proofs.YtchlbbndfhibgaaGreatDoor.OlD Go.Proofs.YtchlbbndfhibgaaGreatDoor.FoN

/-- What a message of a box that may be is. -/
theorem mm_parts {n : Nat} {m : Msg} (h : mmB n m = true) : (1 ≤ m.uid ∧ m.uid ≤ 999999) ∧ (1 ≤ m.mod ∧ m.mod ≤ 1000000) ∧ (0 ≤ m.date ∧ m.date ≤ 1000000) ∧ atB m.id = true ∧ (0 ≤ m.flags ∧ m.flags ≤ 31) ∧ keysB m.keys n = true ∧ m.text.size ≤ 300 := by
  unfold mmB at h
  simp only [Bool.and_eq_true, decide_eq_true_eq] at h
  obtain ⟨h1, h2, h3, h4, h5, h6, h7⟩ := h
  exact ⟨inB_out h1, inB_out h2, inB_out h3, h4, inB_out h5, h6, h7⟩
theorem mm_of {n : Nat} {m : Msg} (h1 : 1 ≤ m.uid ∧ m.uid ≤ 999999) (h2 : 1 ≤ m.mod ∧ m.mod ≤ 1000000) (h3 : 0 ≤ m.date ∧ m.date ≤ 1000000) (h4 : atB m.id = true) (h5 : 0 ≤ m.flags ∧ m.flags ≤ 31) (h6 : keysB m.keys n = true) (h7 : m.text.size ≤ 300) : mmB n m = true := by
  unfold mmB
  simp only [Bool.and_eq_true, decide_eq_true_eq]
  exact ⟨inB_true h1.1 h1.2, inB_true h2.1 h2.2, inB_true h3.1 h3.2, h4, inB_true h5.1 h5.2, h6, h7⟩
/-- What a box that may be is. -/
structure Good (b : Box) : Prop where
  ida : atB b.id = true
  ids : b.id.size ≤ 12
  val : 1 ≤ b.valid ∧ b.valid ≤ 1000000
  hig : 1 ≤ b.high ∧ b.high ≤ 1000000
  nxt : 1 ≤ b.next ∧ b.next ≤ 1000000
  wl : b.words.length ≤ 64
  ml : b.msgs.length ≤ 60
  ws : wordsB b.words = true
  ms : ∀ m ∈ b.msgs, okOne b m
  ri : Rises b.msgs
theorem good_of {b : Box} (h : mbE b = 0) : Good b := by
  obtain ⟨h1, h2, h3, h4⟩ := mb_ok h
  unfold headB at h1
  simp only [Bool.and_eq_true, decide_eq_true_eq] at h1
  obtain ⟨a1, a2, a3, a4, a5⟩ := h1
  obtain ⟨m1, m2⟩ := (msgsB_iff b).1 h4
  exact ⟨a1, a2, inB_out a3, inB_out a4, inB_out a5, by omega, by omega, h3, m1, m2⟩
theorem good_may {b : Box} (h : Good b) : mbE b = 0 := by
  refine mb_of ?_ ?_ h.ws ((msgsB_iff b).2 ⟨h.ms, h.ri⟩)
  · unfold headB
    simp only [Bool.and_eq_true, decide_eq_true_eq]
    exact ⟨h.ida, h.ids, inB_true h.val.1 h.val.2, inB_true h.hig.1 h.hig.2, inB_true h.nxt.1 h.nxt.2⟩
  · have := h.wl; have := h.ml; omega
theorem wordsB_at {ws : List ByteArray} (h : wordsB ws = true) : ∀ s ∈ ws, atB s = true := by
  intro s hs
  obtain ⟨i, hi⟩ := List.mem_iff_getElem?.1 hs
  have := (of_decide_eq_true h) i (List.getElem?_eq_some_iff.1 hi).1
  unfold okW at this
  rw [getD_some _ hi] at this
  exact this.1
theorem wordsB_take {ws : List ByteArray} (h : wordsB ws = true) (k : Nat) : wordsB (ws.take k) = true := by
  refine decide_eq_true fun i hi => ?_
  rw [List.length_take] at hi
  have hi2 : i < ws.length := by omega
  have := (of_decide_eq_true h) i hi2
  unfold okW at this ⊢
  have e : (ws.take k)[i]? = ws[i]? := by rw [List.getElem?_take, if_pos (by omega)]
  rw [List.getD_eq_getElem?_getD, e, ← List.getD_eq_getElem?_getD, List.take_take, Nat.min_eq_left (by omega)]
  exact this

section
variable {cg : Bool}
/-! Written, and read. -/
theorem msg_good {id : ByteArray} {n : Nat} {m : Msg} (h : mmB n m = true) (rest : List UInt8) (ov : Bool) : msgS cg id (em cg m ++ rest, 0, ov) = (pm cg id m, (rest, 0, ov)) := by
  obtain ⟨h1, h2, h3, h4, h5, h6, h7⟩ := mm_parts h
  unfold msgS em
  simp only [List.append_assoc]
  have e1 : mx m.uid < 4294967296 := by unfold mx; omega
  have e2 : mx m.date < 4294967296 := by unfold mx; omega
  have e3 : mx m.mod < 4294967296 := by unfold mx; omega
  rw [fix_fx e1]
  simp only
  rw [ch_fx e3]
  simp only
  rw [fix_fx e2]
  simp only
  rw [byte_one]
  simp only
  rw [fix_fx (mask_lt (fun k hk => ((keysB_rise h6).2 k hk).1))]
  simp only
  rw [str_good h7]
  simp only [keys_mask h6]
  unfold pm
  have q1 : ((mx m.uid : Nat) : Int) = m.uid := by unfold mx; omega
  have q2 : ((mx m.date : Nat) : Int) = m.date := by unfold mx; omega
  have q3 : (((m.flags.toNat % 256).toUInt8.toNat : Nat) : Int) = m.flags := by rw [toNat_u8 (by omega)]; omega
  have q4 : (((if cg then mx m.mod else 1 : Nat)) : Int) = on1 cg m.mod := by
    cases cg
    · rfl
    · show ((mx m.mod : Nat) : Int) = m.mod
      unfold mx; omega
  rw [q1, q2, q3, q4]
theorem box_good {b : Box} (h : Good b) (rest : List UInt8) : boxS cg b.id (ebR cg b ++ rest, 0, false) = (pb cg b, (rest, 0, false)) := by
  unfold boxS ebR
  simp only [List.append_assoc]
  have e1 : mx b.valid < 4294967296 := by have := h.val; unfold mx; omega
  have e2 : mx b.next < 4294967296 := by have := h.nxt; unfold mx; omega
  have e3 : mx b.high < 4294967296 := by have := h.hig; unfold mx; omega
  rw [fix_fx e1]
  simp only
  rw [fix_fx e2]
  simp only
  rw [ch_fx e3]
  simp only
  rw [cnt_fx (show min b.words.length 32 ≤ 32 by omega) (by decide)]
  simp only
  rw [it_all (f := txtS 24) (enc := tx) (val := fun s => s) (xs := b.words.take 32) (ov := false) (fun s hs r => txt_tx (atB_size (wordsB_at h.ws s (List.mem_of_mem_take hs))).2 r false) _ (by rw [List.length_take]; omega)]
  simp only
  rw [cnt_fx h.ml (by decide)]
  simp only
  rw [it_all (f := msgS cg b.id) (enc := em cg) (val := pm cg b.id) (xs := b.msgs) (ov := false) (fun m hm r => msg_good (h.ms m hm).1 r false) _ rfl]
  unfold pb
  have q1 : ((mx b.valid : Nat) : Int) = b.valid := by have := h.val; unfold mx; omega
  have q2 : ((mx b.next : Nat) : Int) = b.next := by have := h.nxt; unfold mx; omega
  have q4 : (((if cg then mx b.high else 1 : Nat)) : Int) = on1 cg b.high := by
    cases cg
    · rfl
    · show ((mx b.high : Nat) : Int) = b.high
      have := h.hig
      unfold mx; omega
  simp only [q1, q2, q4, List.map_id']
theorem pb_good {b : Box} (h : Good b) : Good (pb cg b) := by
  have hon : ∀ x : Int, 1 ≤ x ∧ x ≤ 1000000 → 1 ≤ on1 cg x ∧ on1 cg x ≤ 1000000 := fun x hx => by
    cases cg
    · exact ⟨by show (1 : Int) ≤ 1; decide, by show (1 : Int) ≤ 1000000; decide⟩
    · exact hx
  refine ⟨h.ida, h.ids, h.val, hon _ h.hig, h.nxt, ?_, ?_, wordsB_take h.ws 32, ?_, ?_⟩
  · show (b.words.take 32).length ≤ 64
    rw [List.length_take]; omega
  · show (b.msgs.map (pm cg b.id)).length ≤ 60
    rw [List.length_map]; exact h.ml
  · intro m hm
    obtain ⟨m0, hm0, rfl⟩ := List.mem_map.1 hm
    obtain ⟨o1, o2, o3⟩ := h.ms m0 hm0
    obtain ⟨h1, h2, h3, h4, h5, h6, h7⟩ := mm_parts o1
    have hmod : on1 cg m0.mod ≤ on1 cg b.high := by
      cases cg
      · show (1 : Int) ≤ 1; decide
      · exact o3
    refine ⟨mm_of h1 (hon _ h2) h3 (own_atom (by omega) (by omega) h.ids h.ida) h5 ?_ h7, o2, hmod⟩
    obtain ⟨r1, r2⟩ := keysB_rise h6
    refine keysB_of (r1.filter _) fun k hk => ?_
    replace hk : k ∈ m0.keys.filter (fun k => decide (k < 32)) := hk
    rw [List.mem_filter] at hk
    have := r2 k hk.1
    have h32 : k < 32 := of_decide_eq_true hk.2
    refine ⟨this.1, ?_⟩
    show k < ((b.words.take 32).length : Nat)
    rw [List.length_take]
    omega
  · show Rises (b.msgs.map (pm cg b.id))
    unfold Rises
    rw [List.pairwise_map]
    exact h.ri
theorem em_pm {id : ByteArray} (m : Msg) : em cg (pm cg id m) = em cg m := by
  unfold em pm
  simp only
  have : maskN (m.keys.filter fun k => decide (k < 32)) = maskN m.keys := mask_filter _ 0
  have h1 : ∀ x, ch cg (on1 cg x) = ch cg x := fun x => by cases cg <;> rfl
  rw [this, h1]
theorem eb_pb (b : Box) : eb cg (pb cg b) = eb cg b := by
  unfold eb ebR pb
  have h1 : ∀ x, ch cg (on1 cg x) = ch cg x := fun x => by cases cg <;> rfl
  simp only [h1, List.length_take, List.length_map, List.take_take, Nat.min_self, List.flatMap_map]
  rw [show (fun x => em cg (pm cg b.id x)) = em cg from funext fun m => em_pm m, show min (min 32 b.words.length) 32 = min b.words.length 32 by omega]
theorem take_mk (l : List UInt8) : (mk cg ++ l).take 3 = mk cg := by cases cg <;> rfl
theorem drop_mk (l : List UInt8) : (mk cg ++ l).drop 3 = l := by cases cg <;> rfl
theorem parse_good {b : Box} (h : mbE b = 0) : parseS cg (eb cg b) b.id = (pb cg b, 0) := by
  have g := good_of h
  unfold parseS eb
  rw [take_mk, if_pos rfl, drop_mk]
  have := box_good (cg := cg) g []
  rw [List.append_nil] at this
  rw [this]
  simp only [firstS]
  rw [if_neg (by simp), if_neg (by simp [good_may (pb_good g)])]
theorem parse_more {b : Box} (h : mbE b = 0) (c : UInt8) : (parseS cg (eb cg b ++ [c]) b.id).2 = 3 := by
  have g := good_of h
  unfold parseS eb
  rw [List.append_assoc, take_mk, if_pos rfl, drop_mk, box_good g [c]]
  simp only [firstS]
  rw [if_neg (by simp), if_pos (.inl (by simp))]
/-- Two boxes of one name have one form just if the form knows the same of them. -/
theorem eb_inj {a b : Box} (ha : mbE a = 0) (hb : mbE b = 0) (hi : a.id = b.id) : eb cg a = eb cg b ↔ pb cg a = pb cg b := by
  constructor
  · intro h
    have h1 := parse_good (cg := cg) ha
    have h2 := parse_good (cg := cg) hb
    rw [h, hi, h2] at h1
    exact (congrArg Prod.fst h1).symm
  · intro h
    rw [← eb_pb a, h, eb_pb]

/-! Cut short. -/
/-- What is left is a part of what was to come, or the end is met. -/
def Cu (s : St) (rest : List UInt8) : Prop := s.2.2 = false ∧ ((s.2.1 = 0 ∧ ∃ q, q < rest.length ∧ s.1 = rest.take q) ∨ s.2.1 = 2)
def Bd (s : St) : Prop := s.2.2 = false ∧ s.2.1 = 2
theorem Bd.cu {s : St} (h : Bd s) (rest : List UInt8) : Cu s rest := ⟨h.1, .inr h.2⟩
theorem fix_cu {m : Nat} {s : St} {rest : List UInt8} (h : Cu s (fx m ++ rest)) (hm : m < 4294967296) : Cu (fixS s).2 rest ∧ ((fixS s).1 = m ∨ ((fixS s).1 = 0 ∧ Bd (fixS s).2)) := by
  obtain ⟨l, er, ov⟩ := s
  obtain ⟨rfl, ⟨rfl, q, hq, e⟩ | e⟩ := h
  · simp only at e
    subst e
    by_cases h4 : q < 4
    · have hb : fixS ((fx m ++ rest).take q, 0, false) = (0, ((fx m ++ rest).take q, 2, false)) := by
        unfold fixS
        rw [if_neg (by simp), if_pos (by simp only [List.length_take]; omega)]
      rw [hb]
      exact ⟨⟨rfl, .inr rfl⟩, .inr ⟨rfl, rfl, rfl⟩⟩
    · rw [List.take_append, List.take_of_length_le (by rw [fx_len]; omega), fix_fx hm]
      rw [List.length_append, fx_len] at hq
      rw [fx_len]
      exact ⟨⟨rfl, .inl ⟨rfl, q - 4, by omega, rfl⟩⟩, .inl rfl⟩
  · simp only at e
    subst e
    rw [fix_bad (by simp)]
    exact ⟨⟨rfl, .inr rfl⟩, .inr ⟨rfl, rfl, rfl⟩⟩
theorem ch_cu {x : Int} {s : St} {rest : List UInt8} (h : Cu s (ch cg x ++ rest)) (hm : mx x < 4294967296) : Cu (chS cg s).2 rest := by
  cases cg
  · exact h
  · exact (fix_cu h hm).1
theorem byte_cu {c : UInt8} {s : St} {rest : List UInt8} (h : Cu s ([c] ++ rest)) : Cu (byteS s).2 rest := by
  obtain ⟨l, er, ov⟩ := s
  obtain ⟨rfl, ⟨rfl, q, hq, e⟩ | e⟩ := h
  · simp only at e
    subst e
    cases q with
    | zero => exact ⟨rfl, .inr rfl⟩
    | succ q =>
      rw [List.take_append, List.take_of_length_le (by simp), byte_one]
      rw [List.length_append] at hq
      simp at hq
      exact ⟨rfl, .inl ⟨rfl, q, by omega, by simp⟩⟩
  · simp only at e
    subst e
    rw [byte_bad (by simp)]
    exact ⟨rfl, .inr rfl⟩
theorem cnt_cu {m n : Nat} {s : St} {rest : List UInt8} (h : Cu s (fx m ++ rest)) (hm : m ≤ n) (hn : n < 4294967296) : Cu (cntS n s).2 rest ∧ ((cntS n s).1 = m ∨ ((cntS n s).1 = 0 ∧ Bd (cntS n s).2)) := by
  obtain ⟨h1, h2⟩ := fix_cu h (by omega)
  have : ¬ n < (fixS s).1 := by rcases h2 with e | ⟨e, _⟩ <;> rw [e] <;> omega
  unfold cntS
  rw [if_neg this]
  exact ⟨h1, h2⟩
theorem txt_cu {t : ByteArray} {s : St} {rest : List UInt8} (h : Cu s (tx t ++ rest)) (ht : t.size ≤ 24) : Cu (txtS 24 s).2 rest := by
  obtain ⟨l, er, ov⟩ := s
  obtain ⟨rfl, ⟨rfl, q, hq, e⟩ | e⟩ := h
  · simp only at e
    subst e
    have hl : t.data.toList.length = t.size := by rw [Array.length_toList]; rfl
    have htl : (tx t).length = (Lib.uvarint t.size).length + t.size := by unfold tx; rw [List.length_append, hl]
    by_cases h1 : q < (Lib.uvarint t.size).length
    · have hp : ps ((tx t ++ rest).take q) = (0, 0, 2) := by
        unfold tx
        rw [List.append_assoc, List.take_append_of_le_length (by omega)]
        exact ps_short (by omega) h1
      unfold txtS tz
      simp only [hp]
      exact ⟨rfl, .inr rfl⟩
    · by_cases h2 : q < (tx t).length
      · have hp : ps ((tx t ++ rest).take q) = (t.size, (Lib.uvarint t.size).length, 0) := by
          unfold tx
          rw [List.append_assoc, List.take_append, List.take_of_length_le (by omega)]
          exact ps_uv (by omega) _
        have h3 : ¬ ((24 : Int) < ((t.size : Nat) : Int)) := by omega
        have h4 : ((tx t ++ rest).take q).length < (Lib.uvarint t.size).length + t.size := by
          rw [List.length_take]
          omega
        unfold txtS tz
        simp only [hp, ne_eq, not_true_eq_false, if_false, if_neg h3, if_pos h4]
        exact ⟨rfl, .inr rfl⟩
      · rw [List.length_append] at hq
        rw [List.take_append, List.take_of_length_le (show (tx t).length ≤ q by omega), txt_tx ht]
        exact ⟨rfl, .inl ⟨rfl, q - (tx t).length, by omega, rfl⟩⟩
  · simp only at e
    subst e
    rw [txt_bad 24 (by simp)]
    exact ⟨rfl, .inr rfl⟩
theorem it_cu {α β : Type} {f : St → α × St} {enc : β → List UInt8} {xs : List β} (hf : ∀ x ∈ xs, ∀ s rest, Cu s (enc x ++ rest) → Cu (f s).2 rest) {s : St} (rest : List UInt8) (h : Cu s (xs.flatMap enc ++ rest)) :
    ∀ k, k ≤ xs.length → Cu (itS f k s).2 ((xs.drop k).flatMap enc ++ rest)
  | 0, _ => by simpa [itS] using h
  | k + 1, hk => by
    have hl : k < xs.length := hk
    have := it_cu hf rest h k (by omega)
    rw [List.drop_eq_getElem_cons hl, List.flatMap_cons, List.append_assoc] at this
    exact hf _ (List.getElem_mem hl) _ _ this
theorem it_end {α β : Type} {f : St → α × St} {enc : β → List UInt8} {xs : List β} (hf : ∀ x ∈ xs, ∀ s rest, Cu s (enc x ++ rest) → Cu (f s).2 rest) {s : St} (rest : List UInt8) (h : Cu s (xs.flatMap enc ++ rest)) {n : Nat} (hn : n = xs.length ∨ (n = 0 ∧ Bd s)) : Cu (itS f n s).2 rest := by
  rcases hn with rfl | ⟨rfl, hb⟩
  · have := it_cu hf rest h _ (Nat.le_refl _)
    rwa [List.drop_of_length_le (Nat.le_refl _)] at this
  · exact hb.cu rest
theorem str_cu {t : ByteArray} {s : St} {rest : List UInt8} (h : Cu s (fx t.size ++ (t.data.toList ++ rest))) (ht : t.size ≤ 300) : Cu (strS s).2 rest := by
  obtain ⟨h1, h2⟩ := cnt_cu h ht (by decide)
  have hl : t.data.toList.length = t.size := by rw [Array.length_toList]; rfl
  have hm : t.data.toList.flatMap (fun c : UInt8 => [c]) = t.data.toList := by
    induction t.data.toList with
    | nil => rfl
    | cons c r ih => rw [List.flatMap_cons, ih]; rfl
  exact it_end (f := byteU) (enc := fun c : UInt8 => [c]) (xs := t.data.toList) (fun c _ s r hc => byte_cu hc) rest (by rw [hm]; exact h1) (by rw [hl]; exact h2)
theorem msgS_end (id : ByteArray) (s : St) : (msgS cg id s).2 = (strS (fixS (byteS (fixS (chS cg (fixS s).2).2).2).2).2).2 := by
  unfold msgS
  simp only
theorem boxS_end (id : ByteArray) (s : St) : (boxS cg id s).2 = (itS (msgS cg id) (cntS 60 (itS (txtS 24) (cntS 32 (chS cg (fixS (fixS s).2).2).2).1 (cntS 32 (chS cg (fixS (fixS s).2).2).2).2).2).1 (cntS 60 (itS (txtS 24) (cntS 32 (chS cg (fixS (fixS s).2).2).2).1 (cntS 32 (chS cg (fixS (fixS s).2).2).2).2).2).2).2 := by
  unfold boxS
  simp only
theorem msg_cu {id : ByteArray} {n : Nat} {m : Msg} (hm : mmB n m = true) {s : St} {rest : List UInt8} (h : Cu s (em cg m ++ rest)) : Cu (msgS cg id s).2 rest := by
  obtain ⟨h1, h2, h3, h4, h5, h6, h7⟩ := mm_parts hm
  unfold em at h
  simp only [List.append_assoc] at h
  have e1 := (fix_cu h (by unfold mx; omega)).1
  have e0 := ch_cu e1 (by unfold mx; omega)
  have e2 := (fix_cu e0 (by unfold mx; omega)).1
  have e3 := byte_cu e2
  have e4 := (fix_cu e3 (mask_lt (fun k hk => ((keysB_rise h6).2 k hk).1))).1
  rw [msgS_end]
  exact str_cu e4 h7
theorem box_cu {b : Box} (g : Good b) {s : St} {rest : List UInt8} (h : Cu s (ebR cg b ++ rest)) : Cu (boxS cg b.id s).2 rest := by
  unfold ebR at h
  simp only [List.append_assoc] at h
  have e1 := (fix_cu h (by have := g.val; unfold mx; omega)).1
  have e2 := (fix_cu e1 (by have := g.nxt; unfold mx; omega)).1
  have e0 := ch_cu e2 (by have := g.hig; unfold mx; omega)
  obtain ⟨e3, n3⟩ := cnt_cu e0 (show min b.words.length 32 ≤ 32 by omega) (by decide)
  have e4 := it_end (f := txtS 24) (enc := tx) (fun t ht s r hc => txt_cu hc (atB_size (wordsB_at g.ws t (List.mem_of_mem_take ht))).2) _ e3 (by rw [List.length_take, Nat.min_comm]; exact n3)
  obtain ⟨e5, n5⟩ := cnt_cu e4 g.ml (by decide)
  rw [boxS_end]
  exact it_end (f := msgS cg b.id) (enc := em cg) (fun m hm s r hc => msg_cu (g.ms m hm).1 hc) _ e5 n5
theorem parse_cut {b : Box} (h : mbE b = 0) {q : Nat} (hq : q < (eb cg b).length) : (parseS cg ((eb cg b).take q) b.id).2 = 2 ∨ (parseS cg ((eb cg b).take q) b.id).2 = 3 := by
  have g := good_of h
  unfold parseS
  by_cases h3 : ((eb cg b).take q).take 3 = mk cg
  · rw [if_pos h3]
    have hq3 : 3 ≤ q := by
      have := congrArg List.length h3
      simp only [List.length_take] at this
      have e : (mk cg).length = 3 := by cases cg <;> rfl
      omega
    have hc : Cu (((eb cg b).take q).drop 3, 0, false) (ebR cg b ++ []) := by
      refine ⟨rfl, .inl ⟨rfl, q - 3, ?_, ?_⟩⟩
      · unfold eb at hq
        rw [List.length_append] at hq
        have e : (mk cg).length = 3 := by cases cg <;> rfl
        rw [List.append_nil]
        omega
      · simp only
        rw [List.drop_take, List.append_nil]
        unfold eb
        rw [drop_mk]
    obtain ⟨c1, ⟨c2, q', hq', _⟩ | c2⟩ := box_cu g hc
    · simp at hq'
    · have hf : firstS (boxS cg b.id (((eb cg b).take q).drop 3, 0, false)).2 = 2 := by unfold firstS; rw [c1, c2]; rfl
      rw [hf, if_pos (by decide)]
      exact .inl rfl
  · rw [if_neg h3]
    exact .inr rfl
end
end Go.Proofs.YtchlbbndfhibgaaGreatDoor.OlP
