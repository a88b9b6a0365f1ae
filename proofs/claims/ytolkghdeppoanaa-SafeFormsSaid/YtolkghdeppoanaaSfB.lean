/-
  Numbers of few bytes, texts, changes as bytes; what a reader tells, whatever the bytes are: pure.
-/
import Derived.Test.YtolkghdeppoanaaRkD
import Derived.Test.YtolkghdeppoanaaJ1
set_option linter.unusedVariables false
set_option linter.unusedSimpArgs false
namespace Go.Proofs.Ytolkghdeppoanaa.SfB
open Go.RowKit Go.Proofs.Ytolkghdeppoanaa.PkKit Go.Proofs.Ytolkghdeppoanaa.PkA Go.Proofs.Ytolkghdeppoanaa.PkB Go.Proofs.Ytolkghdeppoanaa.PkD Go.Proofs.Ytolkghdeppoanaa.PkF Go.Proofs.Ytolkghdeppoanaa.RkD

/-- What is left, the error, whether there was too much. -/
abbrev Sr := List UInt8 × Nat × Bool
def txtS (m : Int) (s : Sr) : ByteArray × Sr := if s.2.1 ≠ 0 then (⟨#[]⟩, s) else (⟨(tz s.1 m).1.toArray⟩, ((tz s.1 m).2.1, (tz s.1 m).2.2, s.2.2))
def firstS (s : Sr) : Nat := if s.2.2 then 3 else s.2.1
def nums (zs : List Int) : List UInt8 := zs.flatMap fun z => Lib.uvarint (cl z)
theorem nums_snoc {zs : List Int} {k : Nat} {x : Int} (h : zs[k]? = some x) : nums (zs.take (k + 1)) = nums (zs.take k) ++ Lib.uvarint (cl x) := by
  obtain ⟨hl, rfl⟩ := List.getElem?_eq_some_iff.1 h
  unfold nums
  rw [List.take_succ_eq_append_getElem hl, List.flatMap_append]
  simp
theorem nums_len (zs : List Int) : (nums zs).length ≤ 6 * zs.length := by
  induction zs with
  | nil => exact Nat.le_refl _
  | cons z zs ih =>
    have h1 := uv_len (cl_le z)
    unfold nums at ih ⊢
    rw [List.flatMap_cons, List.length_append, List.length_cons]
    omega
theorem nums_one (z : Int) : nums [z] = Lib.uvarint (cl z) := by simp [nums]
def numV (s : Sr) : Nat × Sr := if s.2.1 ≠ 0 then (0, s) else ((ps s.1).1, (s.1.drop (ps s.1).2.1, (ps s.1).2.2, s.2.2))
def ntS (m : Nat) (s : Sr) : Nat × Sr := if m < (numV s).1 then (0, ((numV s).2.1, (numV s).2.2.1, true)) else numV s
theorem nt_le (m : Nat) (s : Sr) : (ntS m s).1 ≤ m := by
  unfold ntS
  split
  · exact Nat.zero_le _
  · omega
theorem nt_good {z : Int} {m : Nat} (h0 : 0 ≤ z) (hz : z ≤ m) (hm : m ≤ 1099511627776) (rest : List UInt8) (ov : Bool) : ntS m (nums [z] ++ rest, 0, ov) = (z.toNat, (rest, 0, ov)) := by
  have hc : cl z = z.toNat := by unfold cl; omega
  have hv : numV (nums [z] ++ rest, 0, ov) = (z.toNat, (rest, 0, ov)) := by
    unfold numV
    rw [if_neg (by simp), nums_one, hc]
    simp only
    rw [ps_uv (by omega)]
    simp only [List.drop_left' rfl]
  unfold ntS
  rw [hv, if_neg (by omega)]
theorem tz_gen {s : ByteArray} {m : Nat} (h : s.size ≤ m) (hm : m ≤ 1099511627776) (rest : List UInt8) : tz (tx s ++ rest) m = (s.data.toList, rest, 0) := by
  have hl : s.data.toList.length = s.size := by rw [Array.length_toList]; rfl
  have hp : ps (tx s ++ rest) = (s.size, (Lib.uvarint s.size).length, 0) := by
    unfold tx
    rw [List.append_assoc]
    exact ps_uv (by omega) _
  unfold tz
  rw [hp]
  have h1 : ¬ ((m : Int) < ((s.size : Nat) : Int)) := by omega
  have h2 : ¬ (tx s ++ rest).length < (Lib.uvarint s.size).length + s.size := by
    unfold tx
    rw [List.length_append, List.length_append]
    omega
  simp only [ne_eq, not_true_eq_false, if_false, if_neg h1, if_neg h2]
  unfold tx
  rw [List.append_assoc, List.drop_left' rfl, ← hl, List.take_left' rfl, ← List.append_assoc, List.drop_left' (by rw [List.length_append])]
theorem txt_good {s : ByteArray} {m : Nat} (h : s.size ≤ m) (hm : m ≤ 1099511627776) (rest : List UInt8) (ov : Bool) : txtS m (tx s ++ rest, 0, ov) = (s, (rest, 0, ov)) := by
  unfold txtS
  rw [if_neg (by simp)]
  simp only [tz_gen h hm rest]
def Okk (s : Sr) : Prop := s.2.1 = 0 ∧ s.2.2 = false
/-- All is well behind it: so it was ahead of it, and just these bytes were read. -/
def Rv (s : Sr) (l : List UInt8) (s' : Sr) : Prop := Okk s' → Okk s ∧ s.1 = l ++ s'.1
theorem Rv.refl (s : Sr) : Rv s [] s := fun h => ⟨h, rfl⟩
theorem Rv.trans {s s1 s2 : Sr} {a b : List UInt8} (h : Rv s a s1) (k : Rv s1 b s2) : Rv s (a ++ b) s2 := fun o => by
  obtain ⟨o1, e1⟩ := k o
  obtain ⟨o0, e0⟩ := h o1
  exact ⟨o0, by rw [e0, e1, List.append_assoc]⟩
theorem nt_rv {m : Nat} (hm : m ≤ 1099511627776) (s : Sr) : Rv s (nums [(((ntS m s).1 : Nat) : Int)]) (ntS m s).2 := by
  obtain ⟨l, er, ov⟩ := s
  rintro ⟨h1, h2⟩
  have hle := nt_le m (l, er, ov)
  rw [nums_one, cl_nat (by omega)]
  unfold ntS at h1 h2 hle ⊢
  split at h2
  · cases h2
  rename_i hn
  rw [if_neg hn] at h1 hle ⊢
  unfold numV at h1 h2 hn ⊢
  by_cases h0 : er = 0
  · subst h0
    simp only [ne_eq, not_true_eq_false, if_false] at h1 h2 ⊢
    obtain ⟨y, r, e1, e2, _, _⟩ := ps_ok h1
    refine ⟨⟨rfl, h2⟩, ?_⟩
    rw [e2]
    simp only
    rw [e1, List.drop_left' rfl]
  · simp only [ne_eq, h0, not_false_eq_true, if_true] at h1
theorem txt_rv {m : Int} (s : Sr) : Rv s (tx (txtS m s).1) (txtS m s).2 := by
  obtain ⟨l, er, ov⟩ := s
  rintro ⟨h1, h2⟩
  unfold txtS at h1 h2 ⊢
  by_cases h0 : er = 0
  · subst h0
    simp only [ne_eq, not_true_eq_false, if_false] at h1 h2 ⊢
    unfold tz at h1 ⊢
    by_cases hp : (ps l).2.2 = 0
    · obtain ⟨y, r, e1, e2, _, _⟩ := ps_ok hp
      rw [if_neg (by simpa using hp)] at h1 ⊢
      by_cases hm : (m : Int) < ((ps l).1 : Nat)
      · rw [if_pos hm] at h1
        cases h1
      rw [if_neg hm] at h1 ⊢
      by_cases hl : l.length < (ps l).2.1 + (ps l).1
      · rw [if_pos hl] at h1
        cases h1
      rw [if_neg hl] at h1 ⊢
      refine ⟨⟨rfl, h2⟩, ?_⟩
      simp only
      rw [e2] at hl ⊢
      simp only at hl ⊢
      rw [e1] at hl ⊢
      rw [List.length_append] at hl
      rw [List.drop_left' rfl, ← List.drop_drop, List.drop_left' rfl]
      unfold tx
      have hs : ((⟨(r.take y).toArray⟩ : ByteArray)).size = y := by
        show (r.take y).toArray.size = y
        rw [List.size_toArray, List.length_take]; omega
      rw [hs]
      simp
    · rw [if_pos (by simpa using hp)] at h1
      exact absurd h1 hp
  · simp only [ne_eq, h0, not_false_eq_true, if_true] at h1
theorem first_ok {s : Sr} : firstS s = 0 ↔ Okk s := by
  obtain ⟨l, er, ov⟩ := s
  unfold firstS Okk
  cases ov <;> simp
theorem txt_bad {s : Sr} (m : Int) (h : s.2.1 ≠ 0) : txtS m s = (⟨#[]⟩, s) := by unfold txtS; rw [if_pos h]

/-! ## Changes as bytes -/
def baL (d : List UInt8) : ByteArray := ⟨d.toArray⟩
theorem ba_size (d : List UInt8) : (baL d).size = d.length := List.size_toArray
theorem ba_list (d : List UInt8) : (baL d).data.toList = d := rfl
theorem ba_back (s : ByteArray) : baL s.data.toList = s := rfl
def chB (c : Ch) : List UInt8 := if c.cut then nums [1] ++ tx c.name else nums [0] ++ tx c.name ++ tx (baL c.data)
def bsL (l : List Ch) : List UInt8 := l.flatMap chB
theorem bsL_append (a b : List Ch) : bsL (a ++ b) = bsL a ++ bsL b := by unfold bsL; rw [List.flatMap_append]
theorem bsL_snoc {l : List Ch} {k : Nat} {c : Ch} (h : l[k]? = some c) : bsL (l.take (k + 1)) = bsL (l.take k) ++ chB c := by
  obtain ⟨hl, rfl⟩ := List.getElem?_eq_some_iff.1 h
  rw [List.take_succ_eq_append_getElem hl, bsL_append]
  simp [bsL]
/-- A change, read. -/
def rdC (s : Sr) : Ch × Sr :=
  if (ntS 1 s).1 = 1 then (⟨(txtS 24 (ntS 1 s).2).1, true, []⟩, (txtS 24 (ntS 1 s).2).2)
  else (⟨(txtS 24 (ntS 1 s).2).1, false, (txtS 200000 (txtS 24 (ntS 1 s).2).2).1.data.toList⟩, (txtS 200000 (txtS 24 (ntS 1 s).2).2).2)
/-- Changes, read to the end. -/
def pa : Nat → List UInt8 → List Ch × Nat
  | 0, _ => ([], 0)
  | k + 1, l => if l = [] then ([], 0) else if firstS (rdC (l, 0, false)).2 ≠ 0 then ([], firstS (rdC (l, 0, false)).2)
    else if (pa k (rdC (l, 0, false)).2.1).2 ≠ 0 then ([], (pa k (rdC (l, 0, false)).2.1).2) else ((rdC (l, 0, false)).1 :: (pa k (rdC (l, 0, false)).2.1).1, 0)
theorem rd_rv (s : Sr) : Rv s (chB (rdC s).1) (rdC s).2 := by
  have h1 := nt_rv (m := 1) (by decide) s
  have h2 := txt_rv (m := 24) (ntS 1 s).2
  have h3 := txt_rv (m := 200000) (txtS 24 (ntS 1 s).2).2
  have hle := nt_le 1 s
  unfold rdC
  by_cases h : (ntS 1 s).1 = 1
  · rw [if_pos h]
    rw [h] at h1
    unfold chB
    exact h1.trans h2
  · rw [if_neg h]
    rw [show (ntS 1 s).1 = 0 by omega] at h1
    unfold chB
    rw [if_neg (by simp), ba_back]
    exact (h1.trans h2).trans h3
theorem chB_pos (c : Ch) : 0 < (chB c).length := by
  unfold chB
  have h1 := Lib.uvarint_pos (cl 1)
  have h0 := Lib.uvarint_pos (cl 0)
  split
  · rw [List.length_append, nums_one]; omega
  · rw [List.length_append, List.length_append, nums_one]; omega
theorem rd_less {l : List UInt8} (h : firstS (rdC (l, 0, false)).2 = 0) : (rdC (l, 0, false)).2.1.length < l.length := by
  have h1 := (rd_rv (l, 0, false) (first_ok.1 h)).2
  have h2 := chB_pos (rdC (l, 0, false)).1
  have h3 := congrArg List.length h1
  rw [List.length_append] at h3
  simp only at h3
  omega
/-- What Bytes tells of a change: of a Cut no data. -/
def bare (c : Ch) : Ch := ⟨c.name, c.cut, if c.cut then [] else c.data⟩
def fitC (c : Ch) : Prop := c.name.size ≤ 24 ∧ (c.cut = false → c.data.length ≤ 200000)
theorem rd_good {c : Ch} (h : fitC c) (rest : List UInt8) : rdC (chB c ++ rest, 0, false) = (bare c, (rest, 0, false)) := by
  obtain ⟨h1, h2⟩ := h
  obtain ⟨nm, ct, dt⟩ := c
  cases ct with
  | true =>
    have e : chB ⟨nm, true, dt⟩ ++ rest = nums [1] ++ (tx nm ++ rest) := by unfold chB; rw [if_pos rfl, List.append_assoc]
    have g := nt_good (z := 1) (m := 1) (by decide) (by decide) (by decide) (tx nm ++ rest) false
    have := txt_good (m := 24) h1 (by decide) rest false
    rw [show ((24 : Nat) : Int) = 24 from rfl] at this
    rw [e]
    unfold rdC bare
    rw [g]
    simp [this]
  | false =>
    have h3 := h2 rfl
    have e : chB ⟨nm, false, dt⟩ ++ rest = nums [0] ++ (tx nm ++ (tx (baL dt) ++ rest)) := by unfold chB; rw [if_neg (by simp), List.append_assoc, List.append_assoc]
    have g := nt_good (z := 0) (m := 1) (by decide) (by decide) (by decide) (tx nm ++ (tx (baL dt) ++ rest)) false
    have e1 := txt_good (m := 24) h1 (by decide) (tx (baL dt) ++ rest) false
    have e2 := txt_good (s := baL dt) (m := 200000) (by rw [ba_size]; exact h3) (by decide) rest false
    rw [show ((24 : Nat) : Int) = 24 from rfl] at e1
    rw [show ((200000 : Nat) : Int) = 200000 from rfl] at e2
    rw [e]
    unfold rdC bare
    rw [g]
    simp [e1, e2, ba_list]
theorem pa_more : ∀ (k : Nat) (l : List UInt8), l.length ≤ k → pa k l = pa l.length l
  | 0, l, h => by rw [show l.length = 0 by omega]
  | k + 1, l, h => by
    cases hl : l with
    | nil => rfl
    | cons a r =>
      rw [← hl]
      have hne : l ≠ [] := by rw [hl]; exact List.cons_ne_nil _ _
      have hlen : l.length = r.length + 1 := by rw [hl]; rfl
      rw [hlen]
      unfold pa
      rw [if_neg hne, if_neg hne]
      by_cases he : firstS (rdC (l, 0, false)).2 = 0
      · have hls := rd_less he
        have e1 := pa_more k (rdC (l, 0, false)).2.1 (by omega)
        have e2 := pa_more r.length (rdC (l, 0, false)).2.1 (by omega)
        rw [e1, e2]
      · rw [if_pos he, if_pos he]
def parse (l : List UInt8) : List Ch × Nat := pa l.length l
theorem parse_nil : parse [] = ([], 0) := rfl
theorem parse_bad {l : List UInt8} (hl : l ≠ []) (h : firstS (rdC (l, 0, false)).2 ≠ 0) : parse l = ([], firstS (rdC (l, 0, false)).2) := by
  unfold parse
  obtain ⟨a, r, rfl⟩ := List.exists_cons_of_ne_nil hl
  rw [List.length_cons]
  unfold pa
  rw [if_neg hl, if_pos h]
theorem parse_step {l : List UInt8} (hl : l ≠ []) (h : firstS (rdC (l, 0, false)).2 = 0) :
    parse l = if (parse (rdC (l, 0, false)).2.1).2 ≠ 0 then ([], (parse (rdC (l, 0, false)).2.1).2) else ((rdC (l, 0, false)).1 :: (parse (rdC (l, 0, false)).2.1).1, 0) := by
  have hls := rd_less h
  unfold parse
  obtain ⟨a, r, rfl⟩ := List.exists_cons_of_ne_nil hl
  rw [List.length_cons] at hls ⊢
  have e := pa_more r.length (rdC (a :: r, 0, false)).2.1 (by omega)
  rw [← e]
  conv => lhs; unfold pa
  rw [if_neg hl, if_neg (by simpa using h)]
theorem parse_bytes : ∀ {l : List Ch}, (∀ c ∈ l, fitC c) → parse (bsL l) = (l.map bare, 0)
  | [], _ => rfl
  | c :: r, h => by
    have hg := rd_good (h c (List.mem_cons_self ..)) (bsL r)
    have ih := parse_bytes (l := r) fun x hx => h x (List.mem_cons_of_mem _ hx)
    have hne : bsL (c :: r) ≠ [] := by
      intro e
      have := chB_pos c
      have h2 := congrArg List.length e
      unfold bsL at h2
      rw [List.flatMap_cons, List.length_append] at h2
      rw [List.length_nil] at h2
      omega
    have e0 : bsL (c :: r) = chB c ++ bsL r := by unfold bsL; rw [List.flatMap_cons]
    rw [parse_step hne (by rw [e0, hg]; rfl), e0, hg]
    simp only [ih, ne_eq, not_true_eq_false, if_false, List.map_cons]
/-- In the midst of it: what is read so far, what is left. -/
def mid (xs : List Ch) (p : List Ch × Nat) : List Ch × Nat := if p.2 ≠ 0 then ([], p.2) else (xs ++ p.1, 0)
theorem mid_nil (l : List UInt8) : mid [] (parse l) = parse l := by
  unfold mid
  by_cases h : (parse l).2 = 0
  · rw [if_neg (by simpa using h), List.nil_append]
    exact Prod.ext rfl h.symm
  · rw [if_pos h]
    unfold parse at h ⊢
    cases hl : l.length with
    | zero => rw [hl] at h; exact absurd rfl h
    | succ k =>
      rw [hl] at h
      unfold pa at h ⊢
      split at h
      · exact absurd rfl h
      · rename_i h1
        rw [if_neg h1]
        split at h
        · rename_i h2
          rw [if_pos h2]
        · rename_i h2
          rw [if_neg h2]
          split at h
          · rename_i h3
            rw [if_pos h3]
          · exact absurd rfl h
theorem mid_step {xs : List Ch} {l : List UInt8} (hl : l ≠ []) (h : firstS (rdC (l, 0, false)).2 = 0) : mid xs (parse l) = mid (xs ++ [(rdC (l, 0, false)).1]) (parse (rdC (l, 0, false)).2.1) := by
  rw [parse_step hl h]
  unfold mid
  by_cases h0 : (parse (rdC (l, 0, false)).2.1).2 = 0
  · simp [h0]
  · simp [h0]
theorem mid_bad {xs : List Ch} {l : List UInt8} (hl : l ≠ []) (h : firstS (rdC (l, 0, false)).2 ≠ 0) : mid xs (parse l) = ([], firstS (rdC (l, 0, false)).2) := by
  rw [parse_bad hl h]
  unfold mid
  simp [h]
theorem mid_end (xs : List Ch) : mid xs (parse []) = (xs, 0) := by simp [mid, parse_nil]
end Go.Proofs.Ytolkghdeppoanaa.SfB
