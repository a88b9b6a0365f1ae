/-
  The document's way through bytes of an old form: what is over stays over, what is bad stays bad: pure.
-/
import Derived.Test.YtfhdoecackdflaaDoorK3
import Derived.Test.YtfhdoecackdflaaDoorOlP
set_option linter.unusedVariables false
set_option linter.unusedSimpArgs false
namespace Go.Proofs.YtfhdoecackdflaaDoor.OlQp
open Go.Proofs.YtfhdoecackdflaaDoor.PtK
open Go.RowKit Go.Proofs.YtfhdoecackdflaaDoor.BxD Go.Proofs.YtfhdoecackdflaaDoor.PkC Go.Proofs.YtfhdoecackdflaaDoor.PkD Go.Proofs.YtfhdoecackdflaaDoor.PkF Go.Proofs.YtfhdoecackdflaaDoor.PkG Go.Proofs.YtfhdoecackdflaaDoor.OlD Go.Proofs.YtfhdoecackdflaaDoor.OlR Go.Proofs.YtfhdoecackdflaaDoor.OlS

theorem ch_ov (cg : Bool) (s : St) : (chS cg s).2.2.2 = s.2.2 := by
  cases cg
  · rfl
  · exact fix_ov s
theorem it_from {α : Type} {f : St → α × St} {P : St → Prop} (hP : ∀ s, P s → P (f s).2) {s : St} {i : Nat} (h : P (itS f i s).2) : ∀ j, P (itS f (i + j) s).2
  | 0 => h
  | j + 1 => hP _ (it_from hP h j)
theorem it_keep {α : Type} {f : St → α × St} {P : St → Prop} (hP : ∀ s, P s → P (f s).2) {s : St} (h : P s) (k : Nat) : P (itS f k s).2 := by
  have := it_from (i := 0) hP (show P (itS f 0 s).2 from h) k
  rwa [Nat.zero_add] at this
theorem cnt_over {m : Nat} {s : St} (h : s.2.2 = true) : (cntS m s).2.2.2 = true := by
  unfold cntS
  split
  · rfl
  · rw [fix_ov]; exact h
theorem byteU_ov (s : St) : (byteU s).2.2.2 = s.2.2 := byte_ov s
theorem str_over {s : St} (h : s.2.2 = true) : (strS s).2.2.2 = true := by
  unfold strS
  show (itS byteU (cntS 300 s).1 (cntS 300 s).2).2.2.2 = true
  rw [itU_ov]
  exact cnt_over h
theorem msg_end (cg : Bool) (id : ByteArray) (s : St) : (msgS cg id s).2 = (strS (fixS (byteS (fixS (chS cg (fixS s).2).2).2).2).2).2 := OlP.msgS_end id s
theorem msg_over {cg : Bool} {id : ByteArray} {s : St} (h : s.2.2 = true) : (msgS cg id s).2.2.2 = true := by
  rw [msg_end]
  refine str_over ?_
  rw [fix_ov, byte_ov, fix_ov, ch_ov, fix_ov]
  exact h
theorem str_bad {s : St} (h : s.2.1 ≠ 0) : (strS s).2 = s := by
  unfold strS
  rw [cnt_bad 300 h]
  rfl
theorem ch_bad2 {cg : Bool} {s : St} (h : s.2.1 ≠ 0) : (chS cg s).2 = s := by
  cases cg
  · rfl
  · show (fixS s).2 = s
    rw [fix_bad h]
theorem msg_bad {cg : Bool} {id : ByteArray} {s : St} (h : s.2.1 ≠ 0) : (msgS cg id s).2 = s := by
  rw [msg_end]
  have e1 : (fixS s).2 = s := by rw [fix_bad h]
  have e3 : (byteS s).2 = s := by rw [byte_bad h]
  rw [e1, ch_bad2 h, e1, e3, e1, str_bad h]
/-- More than there may be: the error's own. -/
theorem fix_pos {m : Nat} {s : St} (h : m < (fixS s).1) : (fixS s).2.2.1 = 0 := by
  revert h
  unfold fixS
  split
  · intro h; exact absurd h (Nat.not_lt_zero m)
  · split
    · intro h; exact absurd h (Nat.not_lt_zero m)
    · intro _; rfl
theorem fix_err {s : St} (h : (fixS s).2.2.1 ≠ 0) : (fixS s).1 = 0 := by
  rcases Nat.eq_zero_or_pos (fixS s).1 with e | e
  · exact e
  · exact absurd (fix_pos e) h
theorem bytes_take {l : List UInt8} {k : Nat} (h : k ≤ l.length) (ov : Bool) : itS byteU k (l, 0, ov) = (l.take k, (l.drop k, 0, ov)) := by
  have hl : (l.take k).length = k := by rw [List.length_take]; omega
  have := bytes_good (l.take k) (l.drop k) ov
  rwa [List.take_append_drop, hl] at this
theorem bytes_out {l : List UInt8} {k : Nat} (h : l.length < k) (ov : Bool) : (itS byteU k (l, 0, ov)).2.2 = (2, ov) := by
  obtain ⟨j, rfl⟩ : ∃ j, k = (l.length + 1) + j := ⟨k - (l.length + 1), by omega⟩
  have h1 : (itS byteU (l.length + 1) (l, 0, ov)).2 = ([], 2, ov) := by
    show (byteS (itS byteU l.length (l, 0, ov)).2).2 = _
    rw [bytes_take (Nat.le_refl _), List.drop_length]
    rfl
  have := it_from (f := byteU) (P := fun s => s.2 = (2, ov)) (fun s hs => by
    show (byteS s).2.2 = (2, ov)
    rw [byte_bad (by rw [hs]; exact Nat.succ_ne_zero 1)]
    exact hs) (s := (l, 0, ov)) (i := l.length + 1) (by rw [h1]) j
  exact this
/-- A text: over, bad, cut short, whole. -/
theorem str_a {s : St} (h : 300 < (fixS s).1) : (strS s).2.2.2 = true := by
  unfold strS
  have : cntS 300 s = (0, ((fixS s).2.1, (fixS s).2.2.1, true)) := by unfold cntS; rw [if_pos h]
  rw [this]
  rfl
theorem str_b {s : St} (h : (fixS s).2.2.1 ≠ 0) : (strS s).2 = (fixS s).2 := by
  unfold strS
  have e : cntS 300 s = (0, (fixS s).2) := by
    unfold cntS
    rw [fix_err h, if_neg (by decide)]
    have := fix_err h
    rw [← this]
  rw [e]
  rfl
theorem str_cnt {s : St} (h : (fixS s).1 ≤ 300) : cntS 300 s = fixS s := by unfold cntS; rw [if_neg (by omega)]
theorem str_c {s : St} {l : List UInt8} {k : Nat} {ov : Bool} (h0 : fixS s = (k, (l, 0, ov))) (h : k ≤ 300) (h2 : l.length < k) : (strS s).2.2 = (2, ov) := by
  unfold strS
  rw [str_cnt (by rw [h0]; exact h), h0]
  exact bytes_out h2 ov
theorem str_d {s : St} {l : List UInt8} {k : Nat} {ov : Bool} (h0 : fixS s = (k, (l, 0, ov))) (h : k ≤ 300) (h2 : k ≤ l.length) : strS s = (⟨(l.take k).toArray⟩, (l.drop k, 0, ov)) := by
  unfold strS
  rw [str_cnt (by rw [h0]; exact h), h0]
  simp only [bytes_take h2 ov]
theorem words_over {s : St} (h : s.2.2 = true) (k : Nat) : (itS (txtS 24) k s).2.2.2 = true :=
  it_keep (f := txtS 24) (P := fun s => s.2.2 = true) (fun s hs => (txt_ov 24 s).trans hs) h k
theorem msgs_over {cg : Bool} {id : ByteArray} {s : St} (h : s.2.2 = true) (k : Nat) : (itS (msgS cg id) k s).2.2.2 = true :=
  it_keep (f := msgS cg id) (P := fun s => s.2.2 = true) (fun _ hs => msg_over hs) h k
theorem cnt_more {m : Nat} {s : St} (h : m < (fixS s).1) : cntS m s = (0, ((fixS s).2.1, (fixS s).2.2.1, true)) := by unfold cntS; rw [if_pos h]
theorem cnt_fit {m : Nat} {s : St} (h : (fixS s).1 ≤ m) : cntS m s = fixS s := by unfold cntS; rw [if_neg (by omega)]
theorem box_over1 {cg : Bool} {id : ByteArray} {s : St} (h : 32 < (fixS (chS cg (fixS (fixS s).2).2).2).1) : (boxS cg id s).2.2.2 = true := by
  rw [OlP.boxS_end]
  refine msgs_over (cnt_over (words_over ?_ _)) _
  rw [cnt_more h]
theorem box_over2 {cg : Bool} {id : ByteArray} {s4 : St} (h : 60 < (fixS s4).1) : (itS (msgS cg id) (cntS 60 s4).1 (cntS 60 s4).2).2.2.2 = true := by
  refine msgs_over ?_ _
  rw [cnt_more h]
theorem shr_bit {M : Nat} (hM : M < 4294967296) (j : Nat) : (bits .and .i64 ((M : Int) / 2 ^ j) 1 == 1) = M.testBit j := by
  have e : (M : Int) / 2 ^ j = ((M / 2 ^ j : Nat) : Int) := by
    rw [Int.natCast_ediv]
    congr 1
  have hle : M / 2 ^ j < 2 ^ 62 := Nat.lt_of_le_of_lt (Nat.div_le_self _ _) (by omega)
  have hb := (bits_nat .i64 62 (by decide) PkE.i64_small (M / 2 ^ j) 1 hle (by decide)).1
  have h1 : (M / 2 ^ j) &&& 1 = if M.testBit j then 1 else 0 := by
    rw [Nat.and_one_is_mod, Nat.testBit_eq_decide_div_mod_eq]
    by_cases h : M / 2 ^ j % 2 = 1
    · simp [h]
    · have : M / 2 ^ j % 2 = 0 := by omega
      simp [this]
  rw [e]
  rw [show ((1 : Nat) : Int) = 1 from rfl] at hb
  rw [hb, h1]
  cases M.testBit j <;> rfl
/-! What is told, where the end is over or bad. -/
section
variable {cg : Bool} {l : List UInt8} {id : ByteArray} {s : St} {b : Box}
theorem parse_over (hb : l.take 3 = mk cg) (hx : (boxS cg id (l.drop 3, 0, false)).2 = s) (h : s.2.2 = true) : parseS cg l id = (nB, 3) := by
  have : firstS s = 3 := by unfold firstS; rw [h]; rfl
  unfold parseS
  rw [if_pos hb, hx, this, if_pos (by decide)]
  rfl
theorem parse_bad (hb : l.take 3 = mk cg) (hx : (boxS cg id (l.drop 3, 0, false)).2 = s) (h : s.2.1 ≠ 0) (ho : s.2.2 = false) : parseS cg l id = (nB, (s.2.1 : Int)) := by
  have : firstS s = s.2.1 := by unfold firstS; rw [ho]; rfl
  unfold parseS
  rw [if_pos hb, hx, this, if_pos h]
theorem parse_rest (hb : l.take 3 = mk cg) (hx : boxS cg id (l.drop 3, 0, false) = (b, s)) (h : s.2.1 = 0) (ho : s.2.2 = false) : parseS cg l id = if 0 < s.1.length ∨ mbE b ≠ 0 then (nB, 3) else (b, 0) := by
  have : firstS s = 0 := by unfold firstS; rw [ho]; exact h
  unfold parseS
  rw [if_pos hb, hx, this, if_neg (by simp)]
theorem parse_no (hb : l.take 3 ≠ mk cg) : parseS cg l id = (nB, 3) := by unfold parseS; rw [if_neg hb]
end
end Go.Proofs.YtfhdoecackdflaaDoor.OlQp
