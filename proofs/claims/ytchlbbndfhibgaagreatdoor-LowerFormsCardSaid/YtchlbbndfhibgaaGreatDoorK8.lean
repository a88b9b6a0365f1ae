/-
  ImD + ImR
-/
import Derived.Test.YtchlbbndfhibgaaGreatDoorRwD
import Derived.Test.YtchlbbndfhibgaaGreatDoorOlP
import Derived.Test.YtchlbbndfhibgaaGreatDoorN3
set_option linter.unusedVariables false
set_option linter.unusedSimpArgs false
namespace Go.Proofs.YtchlbbndfhibgaaGreatDoor.ImD
open Go.RowKit Go.Proofs.YtchlbbndfhibgaaGreatDoor.BxD Go.Proofs.YtchlbbndfhibgaaGreatDoor.BxOp Go.Proofs.YtchlbbndfhibgaaGreatDoor.OlD Go.Proofs.YtchlbbndfhibgaaGreatDoor.RwD

/-- A form: so many words it says; changes; names. -/
structure Fm where
  w : Nat
  c : Bool
  n : Bool
def fm1 : Fm := ⟨32, false, false⟩
def fm2 : Fm := ⟨32, true, false⟩
def fm3 : Fm := ⟨64, true, true⟩
/-- What a form says of a box. -/
def pmj (f : Fm) (id : ByteArray) (m : Msg) : Msg := ⟨m.uid, on1 f.c m.mod, m.date, if f.n then m.id else ownT id m.uid, m.flags, m.keys.filter (fun k => decide (k < (f.w : Int))), m.text⟩
def pj (f : Fm) (b : Box) : Box := ⟨b.id, b.valid, b.next, on1 f.c b.high, b.words.take f.w, b.msgs.map (pmj f b.id)⟩
/-- The rest. -/
def noT : ByteArray := ⟨#[]⟩
def flM (f : Fm) (m : Msg) : Bool := m.keys.any fun k => decide ((f.w : Int) ≤ k)
def r2 (m : Msg) : Row := ⟨2, m.uid, m.mod, ⟨0, 0, 0, noT, m.flags, m.keys, noT⟩, noT⟩
def r5 (m : Msg) : Row := ⟨5, m.uid, 0, noM, m.id⟩
def r6 (m : Msg) : Row := ⟨6, m.uid, m.mod, noM, noT⟩
def r4 (s : ByteArray) : Row := ⟨4, 0, 0, noM, s⟩
def r7 (n : Int) : Row := ⟨7, 0, n, noM, noT⟩
def reA (f : Fm) (m : Msg) : List Row := if flM f m then [r2 m] else []
def reB (f : Fm) (id : ByteArray) (m : Msg) : List Row := if f.n = false ∧ m.id ≠ ownT id m.uid then [r5 m] else []
def reC (f : Fm) (m : Msg) : List Row := if f.c = false ∧ flM f m = false ∧ m.mod ≠ 1 then [r6 m] else []
def reM (f : Fm) (id : ByteArray) (m : Msg) : List Row := reA f m ++ (reB f id m ++ reC f m)
def reH (f : Fm) (b : Box) : List Row := if f.c = false ∧ b.high ≠ 1 then [r7 b.high] else []
def reW (f : Fm) (b : Box) : List Row := (b.words.drop f.w).map r4
def re (f : Fm) (b : Box) : List Row := reH f b ++ (reW f b ++ b.msgs.flatMap (reM f b.id))

/-- A form that is one of the three. -/
def Is (f : Fm) : Prop := f = fm1 ∨ f = fm2 ∨ f = fm3
theorem reM_len (f : Fm) (id : ByteArray) (m : Msg) : (reM f id m).length ≤ 2 := by
  unfold reM reA reB reC
  cases flM f m
  · simp; split <;> split <;> simp
  · simp; split <;> simp
theorem flat_len {α β : Type} (g : α → List β) (k : Nat) : ∀ l : List α, (∀ x ∈ l, (g x).length ≤ k) → (l.flatMap g).length ≤ k * l.length
  | [], _ => by simp
  | x :: l, h => by
    have h1 := h x (by simp)
    have h2 := flat_len g k l fun y hy => h y (by simp [hy])
    rw [List.flatMap_cons, List.length_append, List.length_cons, Nat.mul_add]
    omega
theorem re_len {f : Fm} {b : Box} (hf : Is f) (h : mbE b = 0) : (re f b).length ≤ 153 := by
  obtain ⟨h1, h2, h3, h4, h5, h6⟩ := (mb_iff b).1 h
  have h7 := flat_len (reM f b.id) 2 b.msgs fun m _ => reM_len f b.id m
  have h8 : (reH f b).length ≤ 1 := by unfold reH; split <;> simp
  have h9 : (reW f b).length ≤ 32 := by
    unfold reW
    rw [List.length_map, List.length_drop]
    rcases hf with rfl | rfl | rfl <;> simp only [fm1, fm2, fm3] <;> omega
  unfold re
  rw [List.length_append, List.length_append]
  omega
theorem re_three {b : Box} (h : mbE b = 0) : re fm3 b = [] := by
  obtain ⟨h1, h2, h3, h4, h5, h6⟩ := (mb_iff b).1 h
  have e1 : reH fm3 b = [] := by unfold reH fm3; simp
  have e2 : reW fm3 b = [] := by
    unfold reW
    rw [List.drop_of_length_le (show b.words.length ≤ fm3.w from h2)]
    rfl
  have e3 : b.msgs.flatMap (reM fm3 b.id) = [] := by
    rw [List.flatMap_eq_nil_iff]
    intro m hm
    have hk := keysB_iff m.keys b.words.length |>.1 (mm_keys (h5 m hm).1)
    have : flM fm3 m = false := by
      unfold flM
      rw [List.any_eq_false]
      intro k hk2
      have := (hk.1 k hk2).2
      have h64 : ¬ ((64 : Int) ≤ k) := by omega
      exact fun h => h64 (of_decide_eq_true h)
    unfold reM reA reB reC
    rw [this]
    simp [fm3]
  unfold re
  rw [e1, e2, e3]
  rfl
theorem pj_three {b : Box} (h : mbE b = 0) : pj fm3 b = b := by
  obtain ⟨h1, h2, h3, h4, h5, h6⟩ := (mb_iff b).1 h
  have e2 : b.words.take fm3.w = b.words := List.take_of_length_le h2
  have e3 : b.msgs.map (pmj fm3 b.id) = b.msgs := by
    rw [List.map_congr_left (g := id), List.map_id]
    intro m hm
    have hk := keysB_iff m.keys b.words.length |>.1 (mm_keys (h5 m hm).1)
    have : m.keys.filter (fun k => decide (k < (fm3.w : Int))) = m.keys := by
      rw [List.filter_eq_self]
      intro k hk2
      have := (hk.1 k hk2).2
      have h64 : k < (64 : Int) := by omega
      exact decide_eq_true h64
    unfold pmj
    rw [this]
    rfl
  unfold pj
  rw [e2, e3]
  rfl
theorem pj_may {f : Fm} {b : Box} (hf : Is f) (h : mbE b = 0) : mbE (pj f b) = 0 := by
  rcases hf with rfl | rfl | rfl
  · exact OlP.good_may (OlP.pb_good (cg := false) (OlP.good_of h))
  · exact OlP.good_may (OlP.pb_good (cg := true) (OlP.good_of h))
  · rw [pj_three h]; exact h

/-! The whole is the box. -/
theorem upd_here {u : Int} {g : Msg → Msg} {p q : List Msg} {x : Msg} (hx : x.uid = u) (hp : ∀ y ∈ p, y.uid ≠ u) (hq : ∀ y ∈ q, y.uid ≠ u) : upd u g (p ++ x :: q) = p ++ g x :: q := by
  have e : ∀ l : List Msg, (∀ y ∈ l, y.uid ≠ u) → l.map (fun m => if m.uid = u then g m else m) = l := fun l hl => by
    rw [List.map_congr_left (g := id), List.map_id]
    intro y hy
    rw [if_neg (hl y hy)]
    rfl
  unfold upd
  rw [List.map_append, List.map_cons, e p hp, e q hq, if_pos hx]
theorem find_here {p q : List Msg} {x : Msg} {u : Int} (hx : x.uid = u) : ¬ findI (p ++ x :: q) u < 0 := by
  have := find_of (ms := p ++ x :: q) (m := x) (by simp)
  rw [hx] at this
  omega
/-- A box like another one, but for High, words and messages. -/
def bx (b : Box) (hi : Int) (ws : List ByteArray) (ms : List Msg) : Box := ⟨b.id, b.valid, b.next, hi, ws, ms⟩
/-- A row that is done to a box that may be. -/
theorem go_row {b c : Box} {r : Row} {l : List Row} (h : apE b r = 0) (hc : apB b r = c) : allG b (r :: l) = allG c l ∧ mbE c = 0 := by
  rw [allG_cons, if_pos h, hc]
  exact ⟨rfl, hc ▸ (ap_may h).1⟩
theorem words_go (b : Box) (hi : Int) (ms : List Msg) (rest : List Row) : ∀ (l pre : List ByteArray), (∀ x ∈ l, atB x = true) → (pre ++ l).Nodup → (pre ++ l).length ≤ 64 → mbE (bx b hi pre ms) = 0 →
    allG (bx b hi pre ms) (l.map r4 ++ rest) = allG (bx b hi (pre ++ l) ms) rest ∧ mbE (bx b hi (pre ++ l) ms) = 0
  | [], pre, _, _, _, hb => by simpa using hb
  | x :: l, pre, h1, h2, h3, hb => by
    have hx := h1 x (by simp)
    have hn : x ∉ pre := fun hm => by
      rw [List.nodup_append] at h2
      exact h2.2.2 x hm x (by simp) rfl
    have hl : ¬ 64 ≤ pre.length := by simp at h3; omega
    have he : apE (bx b hi pre ms) (r4 x) = 0 := by
      have hn' : ¬ ((r4 x).text ∈ (bx b hi pre ms).words) := hn
      have hl' : ¬ (64 ≤ (bx b hi pre ms).words.length) := hl
      unfold apE
      rw [if_neg (by simp [hb]), if_neg (show ¬ (r4 x).kind = 1 from (by decide : ¬ (4 : Int) = 1)), if_pos (show (r4 x).kind = 4 from rfl), if_neg (show ¬ atB (r4 x).text = false by show ¬ atB x = false; simp [hx]), if_neg hn', if_neg hl']
    obtain ⟨e1, e2⟩ := go_row (l := l.map r4 ++ rest) he (c := bx b hi (pre ++ [x]) ms) rfl
    obtain ⟨e3, e4⟩ := words_go b hi ms rest l (pre ++ [x]) (fun y hy => h1 y (by simp [hy])) (by simpa using h2) (by simpa using h3) e2
    rw [List.map_cons, List.cons_append, e1]
    simpa using And.intro e3 e4
theorem msg_go {f : Fm} {b : Box} {n : Nat} {p q : List Msg} {m : Msg} (rest : List Row) (hm : okOne b m) (hn : b.words.length = n) (hp : ∀ y ∈ p, y.uid ≠ m.uid) (hq : ∀ y ∈ q, y.uid ≠ m.uid)
    (hb : mbE (bx b b.high b.words (p ++ pmj f b.id m :: q)) = 0) :
    allG (bx b b.high b.words (p ++ pmj f b.id m :: q)) (reM f b.id m ++ rest) = allG (bx b b.high b.words (p ++ m :: q)) rest ∧ mbE (bx b b.high b.words (p ++ m :: q)) = 0 := by
  obtain ⟨m1, m2, m3⟩ := hm
  obtain ⟨a1, a2, a3, a4, a5, a6, a7⟩ := mm_parts m1
  have hmax : max b.high m.mod = b.high := by omega
  have hmod : modB m.mod = true := inB_true a2.1 a2.2
  have hfl : flB m.flags = true := inB_true a5.1 a5.2
  -- flags
  have A : ∃ x : Msg, x.uid = m.uid ∧ x.date = m.date ∧ x.id = (pmj f b.id m).id ∧ x.flags = m.flags ∧ x.keys = m.keys ∧ x.text = m.text ∧ (x.mod = m.mod ∨ (flM f m = false ∧ x.mod = on1 f.c m.mod)) ∧
      allG (bx b b.high b.words (p ++ pmj f b.id m :: q)) (reM f b.id m ++ rest) = allG (bx b b.high b.words (p ++ x :: q)) (reB f b.id m ++ (reC f m ++ rest)) ∧ mbE (bx b b.high b.words (p ++ x :: q)) = 0 := by
    unfold reM reA
    cases hF : flM f m with
    | false =>
      have hk : (pmj f b.id m).keys = m.keys := by
        show m.keys.filter _ = m.keys
        rw [List.filter_eq_self]
        intro k hk
        unfold flM at hF
        rw [List.any_eq_false] at hF
        have := hF k hk
        simp only [decide_eq_true_eq] at this ⊢
        omega
      exact ⟨pmj f b.id m, rfl, rfl, rfl, rfl, hk, rfl, .inr ⟨rfl, rfl⟩, by simp, hb⟩
    | true =>
      have he : apE (bx b b.high b.words (p ++ pmj f b.id m :: q)) (r2 m) = 0 := by
        unfold apE
        rw [if_neg (by simp [hb]), if_neg (show ¬ (r2 m).kind = 1 from (by decide : ¬ (2 : Int) = 1)), if_neg (show ¬ (r2 m).kind = 4 from (by decide : ¬ (2 : Int) = 4)), if_neg (show ¬ (r2 m).kind = 7 from (by decide : ¬ (2 : Int) = 7)), if_pos (.inl rfl), if_neg (show ¬ findI (bx b b.high b.words (p ++ pmj f b.id m :: q)).msgs (r2 m).uid < 0 from find_here rfl), if_neg (show ¬ (r2 m).kind = 5 from (by decide : ¬ (2 : Int) = 5)),
          if_neg (show ¬ ((r2 m).kind = 2 ∧ (flB (r2 m).msg.flags && keysB (r2 m).msg.keys (bx b b.high b.words (p ++ pmj f b.id m :: q)).words.length) = false) from fun h => by have h2 : (flB m.flags && keysB m.keys b.words.length) = false := h.2; rw [hfl, a6] at h2; cases h2), if_pos (show modB (r2 m).mod = true from hmod)]
      have hB : apB (bx b b.high b.words (p ++ pmj f b.id m :: q)) (r2 m) = bx b b.high b.words (p ++ (⟨m.uid, m.mod, m.date, (pmj f b.id m).id, m.flags, m.keys, m.text⟩ : Msg) :: q) := by
        unfold apB
        rw [if_neg (show ¬ (r2 m).kind = 1 from (by decide : ¬ (2 : Int) = 1)), if_neg (show ¬ (r2 m).kind = 4 from (by decide : ¬ (2 : Int) = 4)), if_neg (show ¬ (r2 m).kind = 7 from (by decide : ¬ (2 : Int) = 7)), if_neg (show ¬ (r2 m).kind = 5 from (by decide : ¬ (2 : Int) = 5)), if_neg (show ¬ (r2 m).kind = 3 from (by decide : ¬ (2 : Int) = 3)), if_pos (show (r2 m).kind = 2 from rfl)]
        show (⟨b.id, b.valid, b.next, max b.high m.mod, b.words, upd m.uid _ (p ++ pmj f b.id m :: q)⟩ : Box) = _
        rw [hmax, upd_here (u := m.uid) (x := pmj f b.id m) rfl hp hq]
        rfl
      obtain ⟨e1, e2⟩ := go_row (l := (reB f b.id m ++ reC f m) ++ rest) he hB
      refine ⟨⟨m.uid, m.mod, m.date, (pmj f b.id m).id, m.flags, m.keys, m.text⟩, rfl, rfl, rfl, rfl, rfl, rfl, .inl rfl, ?_, e2⟩
      rw [if_pos rfl]
      show allG _ (r2 m :: ((reB f b.id m ++ reC f m) ++ rest)) = _
      rw [e1, List.append_assoc]
  obtain ⟨x, x1, x2, x3, x4, x5, x6, x7, e1, hb1⟩ := A
  -- the name
  have B : ∃ y : Msg, y.uid = m.uid ∧ y.date = m.date ∧ y.id = m.id ∧ y.flags = m.flags ∧ y.keys = m.keys ∧ y.text = m.text ∧ (y.mod = m.mod ∨ (flM f m = false ∧ y.mod = on1 f.c m.mod)) ∧
      allG (bx b b.high b.words (p ++ x :: q)) (reB f b.id m ++ (reC f m ++ rest)) = allG (bx b b.high b.words (p ++ y :: q)) (reC f m ++ rest) ∧ mbE (bx b b.high b.words (p ++ y :: q)) = 0 := by
    unfold reB
    by_cases hN : f.n = false ∧ m.id ≠ ownT b.id m.uid
    · rw [if_pos hN]
      have he : apE (bx b b.high b.words (p ++ x :: q)) (r5 m) = 0 := by
        unfold apE
        rw [if_neg (by simp [hb1]), if_neg (show ¬ (r5 m).kind = 1 from (by decide : ¬ (5 : Int) = 1)), if_neg (show ¬ (r5 m).kind = 4 from (by decide : ¬ (5 : Int) = 4)), if_neg (show ¬ (r5 m).kind = 7 from (by decide : ¬ (5 : Int) = 7)), if_pos (.inr (.inr (.inl rfl))), if_neg (show ¬ findI (bx b b.high b.words (p ++ x :: q)).msgs (r5 m).uid < 0 from find_here x1), if_pos (show (r5 m).kind = 5 from rfl), if_pos (show atB (r5 m).text = true from a4)]
      have hB : apB (bx b b.high b.words (p ++ x :: q)) (r5 m) = bx b b.high b.words (p ++ (⟨x.uid, x.mod, x.date, m.id, x.flags, x.keys, x.text⟩ : Msg) :: q) := by
        unfold apB
        rw [if_neg (show ¬ (r5 m).kind = 1 from (by decide : ¬ (5 : Int) = 1)), if_neg (show ¬ (r5 m).kind = 4 from (by decide : ¬ (5 : Int) = 4)), if_neg (show ¬ (r5 m).kind = 7 from (by decide : ¬ (5 : Int) = 7)), if_pos (show (r5 m).kind = 5 from rfl)]
        show (⟨b.id, b.valid, b.next, b.high, b.words, upd m.uid _ (p ++ x :: q)⟩ : Box) = _
        rw [upd_here x1 hp hq]
        rfl
      obtain ⟨e3, e4⟩ := go_row (l := reC f m ++ rest) he hB
      exact ⟨⟨x.uid, x.mod, x.date, m.id, x.flags, x.keys, x.text⟩, x1, x2, rfl, x4, x5, x6, x7, e3, e4⟩
    · rw [if_neg hN]
      refine ⟨x, x1, x2, ?_, x4, x5, x6, x7, rfl, hb1⟩
      rw [x3]
      unfold pmj
      simp only
      cases hn2 : f.n with
      | true => rfl
      | false =>
        have : ¬ m.id ≠ ownT b.id m.uid := fun h => hN ⟨hn2, h⟩
        simp only [ne_eq, Classical.not_not] at this
        rw [if_neg (by simp)]
        exact this.symm
  obtain ⟨y, y1, y2, y3, y4, y5, y6, y7, e2, hb2⟩ := B
  rw [e1, e2]
  -- the Mod
  unfold reC
  by_cases hC : f.c = false ∧ flM f m = false ∧ m.mod ≠ 1
  · rw [if_pos hC]
    have he : apE (bx b b.high b.words (p ++ y :: q)) (r6 m) = 0 := by
      unfold apE
      rw [if_neg (by simp [hb2]), if_neg (show ¬ (r6 m).kind = 1 from (by decide : ¬ (6 : Int) = 1)), if_neg (show ¬ (r6 m).kind = 4 from (by decide : ¬ (6 : Int) = 4)), if_neg (show ¬ (r6 m).kind = 7 from (by decide : ¬ (6 : Int) = 7)), if_pos (.inr (.inr (.inr rfl))), if_neg (show ¬ findI (bx b b.high b.words (p ++ y :: q)).msgs (r6 m).uid < 0 from find_here y1), if_neg (show ¬ (r6 m).kind = 5 from (by decide : ¬ (6 : Int) = 5)),
        if_neg (fun h : (r6 m).kind = 2 ∧ _ => absurd h.1 (show ¬ (r6 m).kind = 2 from (by decide : ¬ (6 : Int) = 2))), if_pos (show modB (r6 m).mod = true from hmod)]
    have hB : apB (bx b b.high b.words (p ++ y :: q)) (r6 m) = bx b b.high b.words (p ++ m :: q) := by
      unfold apB
      rw [if_neg (show ¬ (r6 m).kind = 1 from (by decide : ¬ (6 : Int) = 1)), if_neg (show ¬ (r6 m).kind = 4 from (by decide : ¬ (6 : Int) = 4)), if_neg (show ¬ (r6 m).kind = 7 from (by decide : ¬ (6 : Int) = 7)), if_neg (show ¬ (r6 m).kind = 5 from (by decide : ¬ (6 : Int) = 5)), if_neg (show ¬ (r6 m).kind = 3 from (by decide : ¬ (6 : Int) = 3)), if_neg (show ¬ (r6 m).kind = 2 from (by decide : ¬ (6 : Int) = 2))]
      show (⟨b.id, b.valid, b.next, max b.high m.mod, b.words, upd m.uid _ (p ++ y :: q)⟩ : Box) = _
      rw [hmax, upd_here y1 hp hq]
      show bx b b.high b.words (p ++ (⟨y.uid, m.mod, y.date, y.id, y.flags, y.keys, y.text⟩ : Msg) :: q) = _
      rw [y1, y2, y3, y4, y5, y6]
    exact go_row (l := rest) he hB
  · rw [if_neg hC]
    have hy : y = m := Msg.same.1 ⟨y1, by
      rcases y7 with h | ⟨h, h2⟩
      · exact h
      · rw [h2]
        unfold on1
        cases hc : f.c with
        | true => rfl
        | false =>
          by_cases e : m.mod = 1
          · rw [e]; rfl
          · exact absurd ⟨hc, h, e⟩ hC, y2, y3, y4, y5, y6⟩
    subst hy
    exact ⟨rfl, hb2⟩
theorem msgs_go {f : Fm} {b : Box} (rest : List Row) : ∀ (q p : List Msg), (∀ m ∈ q, okOne b m) → Rises (p ++ q) → mbE (bx b b.high b.words (p ++ q.map (pmj f b.id))) = 0 →
    allG (bx b b.high b.words (p ++ q.map (pmj f b.id))) (q.flatMap (reM f b.id) ++ rest) = allG (bx b b.high b.words (p ++ q)) rest
  | [], p, _, _, _ => by simp
  | m :: q, p, h1, h2, hb => by
    have h3 := h2
    unfold Rises at h3
    rw [List.pairwise_append, List.pairwise_cons] at h3
    obtain ⟨g1, ⟨g2, g3⟩, g4⟩ := h3
    rw [List.map_cons] at hb ⊢
    rw [List.flatMap_cons, List.append_assoc]
    obtain ⟨e1, e2⟩ := msg_go (f := f) (b := b) (p := p) (q := q.map (pmj f b.id)) (m := m) (q.flatMap (reM f b.id) ++ rest) (h1 m (by simp)) rfl (fun y hy => by have := g4 y hy m (by simp); omega) (fun y hy => by
      obtain ⟨z, hz, rfl⟩ := List.mem_map.1 hy
      have := g2 z hz
      show z.uid ≠ m.uid
      omega) hb
    rw [e1]
    have e3 := msgs_go (f := f) (b := b) rest q (p ++ [m]) (fun y hy => h1 y (by simp [hy])) (by simpa using h2) (by simpa using e2)
    simpa using e3
theorem whole_gen {f : Fm} {b : Box} (hf : Is f) (h : mbE b = 0) (rest : List Row) : allG (pj f b) (re f b ++ rest) = allG b rest := by
  have hp := pj_may hf h
  obtain ⟨h1, h2, h3, h4, h5, h6⟩ := (mb_iff b).1 h
  obtain ⟨p1, p2, p3, p4, p5⟩ := head_parts h1
  unfold re
  rw [List.append_assoc, List.append_assoc]
  -- High
  have A : allG (pj f b) (reH f b ++ (reW f b ++ (b.msgs.flatMap (reM f b.id) ++ rest))) = allG (bx b b.high (b.words.take f.w) (b.msgs.map (pmj f b.id))) (reW f b ++ (b.msgs.flatMap (reM f b.id) ++ rest)) ∧ mbE (bx b b.high (b.words.take f.w) (b.msgs.map (pmj f b.id))) = 0 := by
    unfold reH
    by_cases hH : f.c = false ∧ b.high ≠ 1
    · rw [if_pos hH]
      have hon : on1 f.c b.high = 1 := by unfold on1; rw [hH.1]; rfl
      refine go_row ?_ ?_
      · unfold apE
        rw [if_neg (by simp [hp]), if_neg (show ¬ (r7 b.high).kind = 1 from (by decide : ¬ (7 : Int) = 1)), if_neg (show ¬ (r7 b.high).kind = 4 from (by decide : ¬ (7 : Int) = 4)), if_pos (show (r7 b.high).kind = 7 from rfl), if_pos (show modB (r7 b.high).mod = true from inB_true p4.1 p4.2)]
      · unfold apB
        rw [if_neg (show ¬ (r7 b.high).kind = 1 from (by decide : ¬ (7 : Int) = 1)), if_neg (show ¬ (r7 b.high).kind = 4 from (by decide : ¬ (7 : Int) = 4)), if_pos (show (r7 b.high).kind = 7 from rfl)]
        show (⟨b.id, b.valid, b.next, max (on1 f.c b.high) b.high, b.words.take f.w, b.msgs.map (pmj f b.id)⟩ : Box) = _
        rw [hon, show max 1 b.high = b.high by omega]
        rfl
    · rw [if_neg hH]
      have hon : on1 f.c b.high = b.high := by
        unfold on1
        cases hc : f.c with
        | true => rfl
        | false =>
          by_cases e : b.high = 1
          · rw [e]; rfl
          · exact absurd ⟨hc, e⟩ hH
      have e : pj f b = bx b b.high (b.words.take f.w) (b.msgs.map (pmj f b.id)) := by unfold pj bx; rw [hon]
      rw [← e]
      exact ⟨rfl, hp⟩
  obtain ⟨a1, a2⟩ := A
  rw [a1]
  obtain ⟨w1, w2⟩ := (wordsB_iff _).1 h4
  have B := words_go b b.high (b.msgs.map (pmj f b.id)) (b.msgs.flatMap (reM f b.id) ++ rest) (b.words.drop f.w) (b.words.take f.w) (fun x hx => w1 x (List.mem_of_mem_drop hx)) (by rw [List.take_append_drop]; exact w2) (by rw [List.take_append_drop]; exact h2) a2
  rw [List.take_append_drop] at B
  unfold reW
  rw [B.1]
  have C := msgs_go (f := f) (b := b) rest b.msgs [] h5 (by simpa using h6) (by simpa using B.2)
  have e : bx b b.high b.words b.msgs = b := rfl
  rw [List.nil_append, List.nil_append, e] at C
  exact C
theorem whole_re {f : Fm} {b : Box} (hf : Is f) (h : mbE b = 0) : allG (pj f b) (re f b) = (b, 0) := by
  have := whole_gen hf h []
  rwa [List.append_nil] at this
end Go.Proofs.YtchlbbndfhibgaaGreatDoor.ImD

namespace Go.Proofs.YtchlbbndfhibgaaGreatDoor.ImR
open Go.RowKit Go.Proofs.YtchlbbndfhibgaaGreatDoor.BxD Go.Proofs.YtchlbbndfhibgaaGreatDoor.BxOp Go.Proofs.YtchlbbndfhibgaaGreatDoor.OlD Go.Proofs.YtchlbbndfhibgaaGreatDoor.RwD Go.Proofs.YtchlbbndfhibgaaGreatDoor.ImD

/-- How many words rows bring. -/
def nw (l : List Row) : Nat := (l.filter fun r => decide (r.kind = 4)).length
theorem nw_cons (r : Row) (l : List Row) : nw (r :: l) = (if r.kind = 4 then 1 else 0) + nw l := by
  unfold nw
  rw [List.filter_cons]
  by_cases h : r.kind = 4
  · rw [if_pos h, if_pos (by simpa using h), List.length_cons]; omega
  · rw [if_neg h, if_neg (by simpa using h)]; omega
theorem nw_append (l l' : List Row) : nw (l ++ l') = nw l + nw l' := by unfold nw; rw [List.filter_append, List.length_append]
theorem apB_words (b : Box) (r : Row) : (apB b r).words.length = b.words.length + if r.kind = 4 then 1 else 0 := by
  unfold apB
  by_cases k1 : r.kind = 1
  · rw [if_pos k1, if_neg (by omega)]; simp
  rw [if_neg k1]
  by_cases k4 : r.kind = 4
  · rw [if_pos k4, if_pos k4]; simp
  rw [if_neg k4, if_neg k4]
  split
  · rfl
  · split
    · rfl
    · split
      · rfl
      · split <;> rfl
theorem words_count : ∀ (l : List Row) (b : Box), (allG b l).2 = 0 → (allG b l).1.words.length = b.words.length + nw l
  | [], b, _ => by simp [allG, nw]
  | r :: l, b, h => by
    rw [allG_cons] at h ⊢
    by_cases hr : apE b r = 0
    · rw [if_pos hr] at h ⊢
      rw [words_count l _ h, apB_words, nw_cons]
      omega
    · rw [if_neg hr] at h
      exact absurd h hr
/-- What holds of the message with that UID, whatever rows do that do not touch it. -/
def At (P : Msg → Prop) (u : Int) (b : Box) : Prop := ∀ x ∈ b.msgs, x.uid = u → P x
theorem upd_at {P : Msg → Prop} {u v : Int} {g : Msg → Msg} {ms : List Msg} (hg : ∀ m, (g m).uid = m.uid) (hP : v = u → ∀ m, P m → P (g m)) (h : ∀ x ∈ ms, x.uid = u → P x) : ∀ x ∈ upd v g ms, x.uid = u → P x := by
  intro x hx hu
  obtain ⟨m, hm, rfl⟩ := upd_mem hx
  split at hu
  · rename_i e
    rw [if_pos e]
    rw [hg] at hu
    exact hP (e.symm.trans hu) m (h m hm hu)
  · rename_i e
    rw [if_neg e]
    exact h m hm hu
/-- A row that does not touch what P says of the message u. -/
structure Keeps (P : Msg → Prop) (u : Int) (r : Row) : Prop where
  one : r.kind ≠ 1
  five : r.kind = 5 → r.uid = u → ∀ m, P m → P ⟨m.uid, m.mod, m.date, r.text, m.flags, m.keys, m.text⟩
  two : r.kind = 2 → r.uid = u → ∀ m, P m → P ⟨m.uid, r.mod, m.date, m.id, r.msg.flags, r.msg.keys, m.text⟩
  six : r.kind ≠ 2 → r.kind ≠ 5 → r.kind ≠ 3 → r.kind ≠ 4 → r.kind ≠ 7 → r.uid = u → ∀ m, P m → P ⟨m.uid, r.mod, m.date, m.id, m.flags, m.keys, m.text⟩
theorem apB_at {P : Msg → Prop} {u : Int} {b : Box} {r : Row} (hk : Keeps P u r) (h : At P u b) : At P u (apB b r) := by
  unfold apB
  rw [if_neg hk.one]
  by_cases k4 : r.kind = 4
  · rw [if_pos k4]; exact h
  rw [if_neg k4]
  by_cases k7 : r.kind = 7
  · rw [if_pos k7]; exact h
  rw [if_neg k7]
  by_cases k5 : r.kind = 5
  · rw [if_pos k5]; exact upd_at (fun _ => rfl) (hk.five k5) h
  rw [if_neg k5]
  by_cases k3 : r.kind = 3
  · rw [if_pos k3]; exact fun x hx hu => h x ((del_sub _ _).subset hx) hu
  rw [if_neg k3]
  by_cases k2 : r.kind = 2
  · rw [if_pos k2]; exact upd_at (fun _ => rfl) (hk.two k2) h
  rw [if_neg k2]
  exact upd_at (fun _ => rfl) (hk.six k2 k5 k3 k4 k7) h
theorem allG_at {P : Msg → Prop} {u : Int} : ∀ (l : List Row) (b : Box), (∀ r ∈ l, Keeps P u r) → At P u b → (allG b l).2 = 0 → At P u (allG b l).1
  | [], b, _, h, _ => h
  | r :: l, b, hk, h, h0 => by
    rw [allG_cons] at h0 ⊢
    by_cases hr : apE b r = 0
    · rw [if_pos hr] at h0 ⊢
      exact allG_at l _ (fun x hx => hk x (by simp [hx])) (apB_at (hk r (by simp)) h) h0
    · rw [if_neg hr] at h0
      exact absurd h0 hr

/-! The rows of the rest. -/
/-- x touches what r says. -/
def Tc (x r : Row) : Prop := (r.kind = 2 ∧ x.kind = 2 ∧ x.uid = r.uid) ∨ (r.kind = 5 ∧ x.kind = 5 ∧ x.uid = r.uid) ∨ (r.kind = 6 ∧ (x.kind = 2 ∨ x.kind = 6) ∧ x.uid = r.uid)
def Nt (x y : Row) : Prop := ¬ Tc x y ∧ ¬ Tc y x
theorem nt_kind {x y : Row} (h : x.kind = 4 ∨ x.kind = 7 ∨ y.kind = 4 ∨ y.kind = 7) : Nt x y := by
  unfold Nt Tc
  constructor <;> (rintro (⟨a, b, _⟩ | ⟨a, b, _⟩ | ⟨a, b, _⟩) <;> omega)
theorem nt_uid {x y : Row} (h : x.uid ≠ y.uid) : Nt x y := by
  unfold Nt Tc
  constructor <;> (rintro (⟨_, _, a⟩ | ⟨_, _, a⟩ | ⟨_, _, a⟩) <;> omega)
theorem nt_five {x y : Row} (h : (x.kind = 5 ∧ (y.kind = 2 ∨ y.kind = 6)) ∨ (y.kind = 5 ∧ (x.kind = 2 ∨ x.kind = 6))) : Nt x y := by
  unfold Nt Tc
  constructor <;> (rintro (⟨a, b, _⟩ | ⟨a, b, _⟩ | ⟨a, b, _⟩) <;> omega)
theorem reM_uid {f : Fm} {id : ByteArray} {m : Msg} {x : Row} (h : x ∈ reM f id m) : x.uid = m.uid := by
  unfold reM reA reB reC at h
  rcases List.mem_append.1 h with h | h
  · split at h
    · rw [List.mem_singleton] at h; rw [h]; rfl
    · simp at h
  · rcases List.mem_append.1 h with h | h
    · split at h
      · rw [List.mem_singleton] at h; rw [h]; rfl
      · simp at h
    · split at h
      · rw [List.mem_singleton] at h; rw [h]; rfl
      · simp at h
theorem reM_nt (f : Fm) (id : ByteArray) (m : Msg) : (reM f id m).Pairwise Nt := by
  unfold reM reA reB reC
  cases hF : flM f m with
  | true =>
    have e3 : (if f.c = false ∧ true = false ∧ m.mod ≠ 1 then [r6 m] else []) = [] := if_neg (fun h => absurd h.2.1 (by decide))
    rw [if_pos rfl, e3, List.append_nil]
    split
    · simp only [List.singleton_append, List.pairwise_cons, List.mem_singleton, forall_eq, List.Pairwise.nil, and_true, List.not_mem_nil, false_implies, implies_true]
      exact nt_five (.inr ⟨rfl, .inl rfl⟩)
    · simp
  | false =>
    rw [if_neg (by decide), List.nil_append]
    split
    · split
      · simp only [List.singleton_append, List.pairwise_cons, List.mem_singleton, forall_eq, List.Pairwise.nil, and_true, List.not_mem_nil, false_implies, implies_true]
        exact nt_five (.inl ⟨rfl, .inr rfl⟩)
      · simp
    · split <;> simp
theorem re_nt {f : Fm} {b : Box} (h : Rises b.msgs) : (re f b).Pairwise Nt := by
  have hW : ∀ x ∈ reW f b, x.kind = 4 := fun x hx => by
    obtain ⟨s, _, rfl⟩ := List.mem_map.1 hx
    rfl
  have hH : ∀ x ∈ reH f b, x.kind = 7 := fun x hx => by
    unfold reH at hx
    split at hx
    · rw [List.mem_singleton] at hx; rw [hx]; rfl
    · simp at hx
  unfold re
  rw [List.pairwise_append]
  refine ⟨?_, ?_, fun x hx y _ => nt_kind (.inr (.inl (hH x hx)))⟩
  · unfold reH
    split <;> simp
  rw [List.pairwise_append]
  refine ⟨?_, ?_, fun x hx y _ => nt_kind (.inl (hW x hx))⟩
  · refine List.Pairwise.imp_of_mem (R := fun _ _ => True) (fun {x y} hx _ _ => nt_kind (.inl (hW x hx))) ?_
    exact List.pairwise_iff_getElem.2 fun _ _ _ _ _ => trivial
  · rw [List.pairwise_flatMap]
    refine ⟨fun m _ => reM_nt f b.id m, ?_⟩
    unfold Rises at h
    refine h.imp fun {m m'} hlt x hx y hy => nt_uid ?_
    rw [reM_uid hx, reM_uid hy]
    omega
theorem re_mem {f : Fm} {b : Box} {r : Row} (h : r ∈ re f b) : r.kind = 7 ∨ r.kind = 4 ∨ ∃ m ∈ b.msgs, (r = r2 m ∧ flM f m = true) ∨ (r = r5 m ∧ f.n = false ∧ m.id ≠ ownT b.id m.uid) ∨ (r = r6 m ∧ f.c = false ∧ flM f m = false ∧ m.mod ≠ 1) := by
  unfold re at h
  rcases List.mem_append.1 h with h | h
  · unfold reH at h
    split at h
    · rw [List.mem_singleton] at h; rw [h]; exact .inl rfl
    · simp at h
  rcases List.mem_append.1 h with h | h
  · obtain ⟨s, _, rfl⟩ := List.mem_map.1 h
    exact .inr (.inl rfl)
  obtain ⟨m, hm, hx⟩ := List.mem_flatMap.1 h
  refine .inr (.inr ⟨m, hm, ?_⟩)
  unfold reM reA reB reC at hx
  rcases List.mem_append.1 hx with hx | hx
  · split at hx
    · rename_i e
      rw [List.mem_singleton] at hx
      exact .inl ⟨hx, e⟩
    · simp at hx
  rcases List.mem_append.1 hx with hx | hx
  · split at hx
    · rename_i e
      rw [List.mem_singleton] at hx
      exact .inr (.inl ⟨hx, e.1, e.2⟩)
    · simp at hx
  · split at hx
    · rename_i e
      rw [List.mem_singleton] at hx
      exact .inr (.inr ⟨hx, e.1, e.2.1, e.2.2⟩)
    · simp at hx
theorem re_kind {f : Fm} {b : Box} {r : Row} (h : r ∈ re f b) : r.kind = 2 ∨ r.kind = 4 ∨ r.kind = 5 ∨ r.kind = 6 ∨ r.kind = 7 := by
  rcases re_mem h with h | h | ⟨m, _, ⟨rfl, _⟩ | ⟨rfl, _⟩ | ⟨rfl, _⟩⟩
  · omega
  · omega
  · exact .inl rfl
  · exact .inr (.inr (.inl rfl))
  · exact .inr (.inr (.inr (.inl rfl)))
/-- Of the projection only one message has that UID. -/
theorem pj_at {f : Fm} {b : Box} {m : Msg} {P : Msg → Prop} (hr : Rises b.msgs) (hm : m ∈ b.msgs) (h : P (pmj f b.id m)) : At P m.uid (pj f b) := by
  intro x hx hu
  obtain ⟨y, hy, rfl⟩ := List.mem_map.1 hx
  have hu2 : y.uid = m.uid := hu
  have : y = m := by
    obtain ⟨i, hi, rfl⟩ := List.getElem_of_mem hy
    obtain ⟨j, hj, rfl⟩ := List.getElem_of_mem hm
    unfold Rises at hr
    rw [List.pairwise_iff_getElem] at hr
    rcases Nat.lt_trichotomy i j with e | e | e
    · have := hr i j hi hj e; omega
    · subst e; rfl
    · have := hr j i hj hi e; omega
  rw [this]
  exact h
/-- Without a row the box is another one, or none; but for High. -/
theorem less_re {f : Fm} {b : Box} {pre post : List Row} {r : Row} (hf : Is f) (h : mbE b = 0) (he : re f b = pre ++ r :: post) (h7 : r.kind ≠ 7) (h0 : (allG (pj f b) (pre ++ post)).2 = 0) : (allG (pj f b) (pre ++ post)).1 ≠ b := by
  intro hc
  obtain ⟨h1, h2, h3, h4, h5, h6⟩ := (mb_iff b).1 h
  have hmem : r ∈ re f b := by rw [he]; simp
  have hsub : ∀ x ∈ pre ++ post, x ∈ re f b := fun x hx => by
    rw [he]
    rcases List.mem_append.1 hx with hx | hx <;> simp [hx]
  have hno : ∀ x ∈ pre ++ post, ¬ Tc x r := fun x hx => by
    have hp := re_nt (f := f) h6
    rw [he, List.pairwise_append, List.pairwise_cons] at hp
    obtain ⟨_, ⟨g2, _⟩, g4⟩ := hp
    rcases List.mem_append.1 hx with hx | hx
    · exact (g4 x hx r (by simp)).1
    · exact (g2 x hx).2
  have at_ : ∀ {m : Msg} {P : Msg → Prop}, m ∈ b.msgs → P (pmj f b.id m) → (∀ x ∈ pre ++ post, Keeps P m.uid x) → P m := fun {m P} hm hP hK => by
    have := allG_at (pre ++ post) (pj f b) hK (pj_at h6 hm hP) h0
    rw [hc] at this
    exact this m hm rfl
  have kd : ∀ x ∈ pre ++ post, x.kind ≠ 1 ∧ (x.kind ≠ 2 → x.kind ≠ 5 → x.kind ≠ 4 → x.kind ≠ 7 → x.kind = 6) := fun x hx => by
    have := re_kind (hsub x hx)
    omega
  rcases re_mem hmem with e | e | ⟨m, hm, ⟨rfl, hF⟩ | ⟨rfl, hn, hN⟩ | ⟨rfl, hcc, hF, hM⟩⟩
  · exact h7 e
  · have w1 := words_count (pre ++ post) (pj f b) h0
    have hw := whole_re hf h
    have w2 := words_count (re f b) (pj f b) (by rw [hw])
    rw [hc] at w1
    rw [hw, he] at w2
    rw [nw_append] at w1 w2
    rw [nw_cons, if_pos e] at w2
    simp only at w2
    omega
  · -- keys
    have key := at_ (m := m) (P := fun x => x.keys = (pmj f b.id m).keys) hm rfl fun x hx => by
      refine ⟨(kd x hx).1, fun _ _ y hy => hy, fun k2 hu => ?_, fun _ _ _ _ _ _ y hy => hy⟩
      exact absurd (.inl ⟨rfl, k2, hu⟩) (hno x hx)
    unfold flM at hF
    rw [List.any_eq_true] at hF
    obtain ⟨k, hk1, hk2⟩ := hF
    rw [key] at hk1
    have := (List.mem_filter.1 hk1).2
    simp only [decide_eq_true_eq] at this hk2
    omega
  · have key := at_ (m := m) (P := fun x => x.id = ownT b.id m.uid) hm (by show (if f.n then m.id else ownT b.id m.uid) = _; rw [hn]; rfl) fun x hx => by
      refine ⟨(kd x hx).1, fun k5 hu => ?_, fun _ _ y hy => hy, fun _ _ _ _ _ _ y hy => hy⟩
      exact absurd (.inr (.inl ⟨rfl, k5, hu⟩)) (hno x hx)
    exact hN key
  · have key := at_ (m := m) (P := fun x => x.mod = 1) hm (by show on1 f.c m.mod = 1; rw [hcc]; rfl) fun x hx => by
      refine ⟨(kd x hx).1, fun _ _ y hy => hy, fun k2 hu => ?_, fun k2 k5 k3 k4 k7 hu => ?_⟩
      · exact absurd (.inr (.inr ⟨rfl, .inl k2, hu⟩)) (hno x hx)
      · exact absurd (.inr (.inr ⟨rfl, .inr ((kd x hx).2 k2 k5 k4 k7), hu⟩)) (hno x hx)
    exact hM key
end Go.Proofs.YtchlbbndfhibgaaGreatDoor.ImR
