/-
  LwD + LwT
-/
import Derived.Test.YtchlbbndfhibgaaGreatDoorK6
import Derived.Test.YtchlbbndfhibgaaGreatDoorK8
import Derived.Lib.Join
import Derived.Test.YtchlbbndfhibgaaGreatDoorBxO
import Derived.Deep.RegionHeld3
import Derived.Deep.DeepCutAuto
set_option linter.unusedVariables false
set_option linter.unusedSimpArgs false
namespace Go.Proofs.YtchlbbndfhibgaaGreatDoor.LwD
open Go.RowKit Go.Proofs.YtchlbbndfhibgaaGreatDoor.BxD Go.Proofs.YtchlbbndfhibgaaGreatDoor.BxOp Go.Proofs.YtchlbbndfhibgaaGreatDoor.OlD Go.Proofs.YtchlbbndfhibgaaGreatDoor.RwD Go.Proofs.YtchlbbndfhibgaaGreatDoor.ImD Go.Proofs.YtchlbbndfhibgaaGreatDoor.ImL

/-- A loss. -/
structure Los where
  kind : Int
  uid : Int
  text : ByteArray
theorem Los.same {a b : Los} : (a.kind = b.kind ∧ a.uid = b.uid ∧ a.text = b.text) ↔ a = b := by
  cases a; cases b; simp
instance Los.dec : DecidableEq Los := fun _ _ => decidable_of_iff _ Los.same
def jn (zs : List ByteArray) : List UInt8 := Lib.join (zs.map (·.data.toList)) [32]
/-- The keys from OldWords on; their words as a text; a number's digits. -/
def farK (ks : List Int) : List Int := ks.filter fun k => !decide (k < 32)
def farT (ws : List ByteArray) (ks : List Int) : ByteArray := ⟨(jn (wordsOf ws (farK ks))).toArray⟩
def digT (n : Int) : ByteArray := ⟨(Lib.itoa n).toArray⟩
def lostT (ws : List ByteArray) (r : Row) : ByteArray := if r.kind = 2 then farT ws r.msg.keys else if r.kind = 6 ∨ r.kind = 7 then digT r.mod else r.text
/-- A row of the rest as losses. -/
def lossR (c : Bool) (ws : List ByteArray) (r : Row) : List Los := ⟨r.kind, r.uid, lostT ws r⟩ :: (if r.kind = 2 ∧ c = false ∧ r.mod ≠ 1 then [⟨6, r.uid, digT r.mod⟩] else [])
def ls (f : Fm) (b : Box) : List Los := (re f b).flatMap (lossR f.c b.words)
theorem lossR_len (c : Bool) (ws : List ByteArray) (r : Row) : (lossR c ws r).length ≤ 2 := by unfold lossR; split <;> simp
theorem lossR_pos (c : Bool) (ws : List ByteArray) (r : Row) : 1 ≤ (lossR c ws r).length := by unfold lossR; simp
theorem ls_len {f : Fm} {b : Box} (hf : Is f) (h : mbE b = 0) : (ls f b).length ≤ 306 := by
  have h1 := re_len hf h
  have h2 := flat_len (lossR f.c b.words) 2 (re f b) fun r _ => lossR_len _ _ r
  unfold ls
  omega
/-- What is lost, part by part. -/
def lsM (f : Fm) (b : Box) (m : Msg) : List Los := (reM f b.id m).flatMap (lossR f.c b.words)
theorem ls_parts (f : Fm) (b : Box) : ls f b = (reH f b).flatMap (lossR f.c b.words) ++ ((reW f b).flatMap (lossR f.c b.words) ++ b.msgs.flatMap (lsM f b)) := by
  unfold ls re
  rw [List.flatMap_append, List.flatMap_append]
  congr 2
  induction b.msgs with
  | nil => rfl
  | cons m l ih => rw [List.flatMap_cons, List.flatMap_append, ih]; rfl
theorem lsH_eq (f : Fm) (b : Box) : (reH f b).flatMap (lossR f.c b.words) = if f.c = false ∧ b.high ≠ 1 then [⟨7, 0, digT b.high⟩] else [] := by
  unfold reH
  split <;> simp [lossR, lostT, r7]
theorem lsW_eq (f : Fm) (b : Box) : (reW f b).flatMap (lossR f.c b.words) = (b.words.drop f.w).map fun s => ⟨4, 0, s⟩ := by
  unfold reW
  generalize b.words.drop f.w = l
  induction l with
  | nil => rfl
  | cons x l ih => rw [List.map_cons, List.flatMap_cons, ih, List.map_cons]; simp [lossR, lostT, r4]
theorem lsM_eq (f : Fm) (b : Box) (m : Msg) : lsM f b m = (if flM f m then ⟨2, m.uid, farT b.words m.keys⟩ :: (if f.c = false ∧ m.mod ≠ 1 then [⟨6, m.uid, digT m.mod⟩] else []) else []) ++
    ((if f.n = false ∧ m.id ≠ ownT b.id m.uid then [⟨5, m.uid, m.id⟩] else []) ++ (if f.c = false ∧ flM f m = false ∧ m.mod ≠ 1 then [⟨6, m.uid, digT m.mod⟩] else [])) := by
  unfold lsM reM
  rw [List.flatMap_append, List.flatMap_append]
  congr 1
  · unfold reA
    cases flM f m <;> simp [lossR, lostT, r2]
  · congr 1
    · unfold reB
      split <;> simp [lossR, lostT, r5]
    · unfold reC
      split <;> simp [lossR, lostT, r6]
theorem lsM_len (f : Fm) (b : Box) (m : Msg) : (lsM f b m).length = (if flM f m then 1 else 0) + (if f.n = false ∧ m.id ≠ ownT b.id m.uid then 1 else 0) + (if f.c = false ∧ m.mod ≠ 1 then 1 else 0) := by
  rw [lsM_eq]
  cases flM f m
  · by_cases h1 : f.n = false ∧ m.id ≠ ownT b.id m.uid <;> by_cases h2 : f.c = false ∧ m.mod ≠ 1 <;> simp [h1, h2]
  · by_cases h1 : f.n = false ∧ m.id ≠ ownT b.id m.uid <;> by_cases h2 : f.c = false ∧ m.mod ≠ 1 <;> simp [h1, h2]
theorem flat_mono {α β : Type} (g h : α → List β) : ∀ l : List α, (∀ x ∈ l, (g x).length ≤ (h x).length) → (l.flatMap g).length ≤ (l.flatMap h).length
  | [], _ => by simp
  | x :: l, hx => by
    have h1 := hx x (by simp)
    have h2 := flat_mono g h l fun y hy => hx y (by simp [hy])
    rw [List.flatMap_cons, List.flatMap_cons, List.length_append, List.length_append]
    omega
/-- The older form loses no less. -/
theorem ls_older (b : Box) : (ls fm2 b).length ≤ (ls fm1 b).length := by
  rw [ls_parts, ls_parts, lsH_eq, lsH_eq, lsW_eq, lsW_eq]
  have h := flat_mono (lsM fm2 b) (lsM fm1 b) b.msgs fun m _ => by
    rw [lsM_len, lsM_len]
    simp [fm1, fm2, flM]
    exact Nat.le_add_right _ _
  simp only [List.length_append]
  have e : ((b.words.drop fm2.w).map fun s => (⟨4, 0, s⟩ : Los)).length = ((b.words.drop fm1.w).map fun s => (⟨4, 0, s⟩ : Los)).length := rfl
  have e2 : (if fm2.c = false ∧ b.high ≠ 1 then [(⟨7, 0, digT b.high⟩ : Los)] else []).length = 0 := by simp [fm2]
  rw [e2, e]
  omega
/-! What is left of what is left. -/
theorem on1_on1 (c d : Bool) (x : Int) (h : c = false ∨ d = true) : on1 c (on1 d x) = on1 c x := by cases c <;> cases d <;> simp_all [on1]
theorem pmj_pmj {f g : Fm} {id : ByteArray} {m : Msg} (hc : f.c = false ∨ g.c = true) (hn : f.n = false ∨ g.n = true) (hw : f.w ≤ g.w) : pmj f id (pmj g id m) = pmj f id m := by
  unfold pmj
  rw [on1_on1 _ _ _ hc]
  congr 1
  · rcases hn with h | h <;> simp [h]
  · show (m.keys.filter _).filter _ = _
    rw [List.filter_filter]
    refine List.filter_congr fun k _ => ?_
    by_cases h : k < (f.w : Int)
    · rw [decide_eq_true h, decide_eq_true (show k < (g.w : Int) by omega)]; rfl
    · rw [decide_eq_false h]; rfl
theorem pj_over {f g : Fm} {b : Box} (hc : f.c = false ∨ g.c = true) (hn : f.n = false ∨ g.n = true) (hw : f.w ≤ g.w) : pj f (pj g b) = pj f b := by
  unfold pj
  rw [on1_on1 _ _ _ hc]
  congr 1
  · show (b.words.take g.w).take f.w = b.words.take f.w
    rw [List.take_take, Nat.min_eq_left hw]
  · show (b.msgs.map _).map _ = _
    rw [List.map_map]
    exact List.map_congr_left fun m _ => pmj_pmj hc hn hw
theorem pj_pj (f : Fm) (b : Box) : pj f (pj f b) = pj f b := pj_over (by cases f.c <;> simp) (by cases f.n <;> simp) (Nat.le_refl _)
theorem pj_older (b : Box) : pj fm1 (pj fm2 b) = pj fm1 b := pj_over (.inl rfl) (.inl rfl) (Nat.le_refl _)
/-! What is lost is just what is not the same. -/
theorem flM_len (f : Fm) (m : Msg) : flM f m = false ↔ (m.keys.filter (fun k => decide (k < (f.w : Int)))).length = m.keys.length := by
  rw [List.length_filter_eq_length_iff]
  unfold flM
  rw [List.any_eq_false]
  constructor
  · intro h k hk
    have := h k hk
    simp only [decide_eq_true_eq] at this ⊢
    omega
  · intro h k hk
    have := h k hk
    simp only [decide_eq_true_eq] at this ⊢
    omega
def one (p : Prop) [Decidable p] : Nat := if p then 1 else 0
/-- How many of a message's parts are others in the projection. -/
def nOf (f : Fm) (b : Box) (m : Msg) : Nat := one (m.id ≠ (pmj f b.id m).id) + one (m.mod ≠ (pmj f b.id m).mod) + one (m.keys.length ≠ (pmj f b.id m).keys.length)
theorem lsM_n (f : Fm) (b : Box) (m : Msg) : (lsM f b m).length = nOf f b m := by
  rw [lsM_len]
  unfold nOf one pmj
  simp only
  have h1 : (if flM f m then 1 else 0) = (if m.keys.length ≠ (m.keys.filter (fun k => decide (k < (f.w : Int)))).length then 1 else 0 : Nat) := by
    have := flM_len f m
    cases hb : flM f m
    · rw [if_neg (by simp), if_neg (by have := this.1 hb; omega)]
    · rw [if_pos rfl, if_pos (fun h => by have := this.2 h.symm; rw [hb] at this; cases this)]
  have h2 : (if f.n = false ∧ m.id ≠ ownT b.id m.uid then 1 else 0) = (if m.id ≠ (if f.n = true then m.id else ownT b.id m.uid) then 1 else 0 : Nat) := by cases f.n <;> simp
  have h3 : (if f.c = false ∧ m.mod ≠ 1 then 1 else 0) = (if m.mod ≠ on1 f.c m.mod then 1 else 0 : Nat) := by cases f.c <;> simp [on1]
  rw [h1, h2, h3]
  omega
theorem lsM_uid {f : Fm} {b : Box} {m : Msg} {x : Los} (h : x ∈ lsM f b m) : x.uid = m.uid ∧ x.kind ≠ 4 ∧ x.kind ≠ 7 := by
  rw [lsM_eq] at h
  rcases List.mem_append.1 h with h | h
  · split at h
    · rcases List.mem_cons.1 h with rfl | h
      · exact ⟨rfl, show (2 : Int) ≠ 4 by decide, show (2 : Int) ≠ 7 by decide⟩
      · split at h
        · rw [List.mem_singleton] at h; subst h; exact ⟨rfl, show (6 : Int) ≠ 4 by decide, show (6 : Int) ≠ 7 by decide⟩
        · cases h
    · cases h
  · rcases List.mem_append.1 h with h | h
    · split at h
      · rw [List.mem_singleton] at h; subst h; exact ⟨rfl, show (5 : Int) ≠ 4 by decide, show (5 : Int) ≠ 7 by decide⟩
      · cases h
    · split at h
      · rw [List.mem_singleton] at h; subst h; exact ⟨rfl, show (6 : Int) ≠ 4 by decide, show (6 : Int) ≠ 7 by decide⟩
      · cases h
/-- How many losses are of a kind; how many of a message. -/
def kN (k : Int) (l : List Los) : Nat := (l.filter fun x => decide (x.kind = k)).length
def uN (u : Int) (l : List Los) : Nat := (l.filter fun x => decide (x.kind ≠ 4 ∧ x.kind ≠ 7 ∧ x.uid = u)).length
theorem kN_append (k : Int) (a b : List Los) : kN k (a ++ b) = kN k a + kN k b := by unfold kN; rw [List.filter_append, List.length_append]
theorem uN_append (u : Int) (a b : List Los) : uN u (a ++ b) = uN u a + uN u b := by unfold uN; rw [List.filter_append, List.length_append]
theorem flat_none {P : Los → Bool} {f : Fm} {b : Box} : ∀ ms : List Msg, (∀ m ∈ ms, ∀ x ∈ lsM f b m, P x = false) → (ms.flatMap (lsM f b)).filter P = []
  | ms, h => by
    rw [List.filter_eq_nil_iff]
    intro x hx
    obtain ⟨m, hm, hx⟩ := List.mem_flatMap.1 hx
    rw [h m hm x hx]
    decide
theorem ls_words (f : Fm) (b : Box) : kN 4 (ls f b) = b.words.length - (pj f b).words.length := by
  rw [ls_parts, kN_append, kN_append, lsH_eq, lsW_eq]
  have h1 : kN 4 (if f.c = false ∧ b.high ≠ 1 then [(⟨7, 0, digT b.high⟩ : Los)] else []) = 0 := by split <;> simp [kN]
  have h2 : kN 4 (b.msgs.flatMap (lsM f b)) = 0 := by
    unfold kN
    rw [flat_none _ fun m _ x hx => decide_eq_false (lsM_uid hx).2.1]
    rfl
  have h3 : kN 4 ((b.words.drop f.w).map fun s => (⟨4, 0, s⟩ : Los)) = (b.words.drop f.w).length := by
    unfold kN
    rw [List.filter_eq_self.2 (fun x hx => by obtain ⟨s, _, rfl⟩ := List.mem_map.1 hx; rfl), List.length_map]
  rw [h1, h2, h3]
  unfold pj
  simp only [List.length_take, List.length_drop]
  omega
theorem ls_high (f : Fm) (b : Box) : kN 7 (ls f b) = one (b.high ≠ (pj f b).high) := by
  rw [ls_parts, kN_append, kN_append, lsH_eq, lsW_eq]
  have h2 : kN 7 (b.msgs.flatMap (lsM f b)) = 0 := by
    unfold kN
    rw [flat_none _ fun m _ x hx => decide_eq_false (lsM_uid hx).2.2]
    rfl
  have h3 : kN 7 ((b.words.drop f.w).map fun s => (⟨4, 0, s⟩ : Los)) = 0 := by
    unfold kN
    rw [List.filter_eq_nil_iff.2 (fun x hx => by obtain ⟨s, _, rfl⟩ := List.mem_map.1 hx; exact (show ¬ decide ((4 : Int) = 7) = true by decide))]
    rfl
  rw [h2, h3]
  unfold pj one on1
  cases f.c
  · by_cases h : b.high = 1 <;> simp [kN, h]
  · simp [kN]
theorem ls_uid (f : Fm) {b : Box} (hr : Rises b.msgs) {m : Msg} (hm : m ∈ b.msgs) : uN m.uid (ls f b) = nOf f b m := by
  rw [ls_parts, uN_append, uN_append, lsH_eq, lsW_eq]
  have h1 : uN m.uid (if f.c = false ∧ b.high ≠ 1 then [(⟨7, 0, digT b.high⟩ : Los)] else []) = 0 := by split <;> simp [uN]
  have h3 : uN m.uid ((b.words.drop f.w).map fun s => (⟨4, 0, s⟩ : Los)) = 0 := by
    unfold uN
    rw [List.filter_eq_nil_iff.2 (fun x hx => by obtain ⟨s, _, rfl⟩ := List.mem_map.1 hx; simp)]
    rfl
  rw [h1, h3, Nat.zero_add, Nat.zero_add]
  obtain ⟨p, q, he⟩ := List.append_of_mem hm
  have hp : ∀ y ∈ p, y.uid ≠ m.uid := fun y hy e => by
    unfold Rises at hr
    rw [he, List.pairwise_append] at hr
    have := hr.2.2 y hy m (by simp)
    omega
  have hq : ∀ y ∈ q, y.uid ≠ m.uid := fun y hy e => by
    unfold Rises at hr
    rw [he, List.pairwise_append, List.pairwise_cons] at hr
    have := hr.2.1.1 y hy
    omega
  have z : ∀ l : List Msg, (∀ y ∈ l, y.uid ≠ m.uid) → uN m.uid (l.flatMap (lsM f b)) = 0 := fun l hl => by
    unfold uN
    rw [flat_none _ fun y hy x hx => decide_eq_false fun h => hl y hy ((lsM_uid hx).1.symm.trans h.2.2)]
    rfl
  rw [he, List.flatMap_append, List.flatMap_cons, uN_append, uN_append, z p hp, z q hq, ← lsM_n]
  unfold uN
  rw [List.filter_eq_self.2 (fun x hx => decide_eq_true ⟨(lsM_uid hx).2.1, (lsM_uid hx).2.2, (lsM_uid hx).1⟩)]
  omega
/-- Nothing is lost just if the box is the same alone. -/
theorem ls_nil {f : Fm} {b : Box} (hf : Is f) (h : mbE b = 0) : ls f b = [] ↔ pj f b = b := by
  constructor
  · intro hl
    have h1 : re f b = [] := by
      cases hr : re f b with
      | nil => rfl
      | cons r l =>
        unfold ls at hl
        rw [hr, List.flatMap_cons] at hl
        have h1 := lossR_pos f.c b.words r
        have h2 := (List.append_eq_nil_iff.1 hl).1
        rw [h2] at h1
        simp at h1
    have h2 := whole_re hf h
    rw [h1] at h2
    have h3 : allG (pj f b) [] = (pj f b, 0) := rfl
    rw [h3] at h2
    exact (Prod.mk.inj h2).1
  · intro he
    rw [ls_parts, lsH_eq, lsW_eq]
    have e1 : (pj f b).high = b.high := by rw [he]
    have e2 : (pj f b).words = b.words := by rw [he]
    have e3 : (pj f b).msgs = b.msgs := by rw [he]
    have f1 : ¬ (f.c = false ∧ b.high ≠ 1) := fun ⟨hc, hn⟩ => by
      unfold pj on1 at e1
      simp [hc] at e1
      exact hn e1.symm
    have f2 : b.words.drop f.w = [] := by
      unfold pj at e2
      have : (b.words.take f.w).length = b.words.length := congrArg List.length e2
      rw [List.length_take] at this
      exact List.drop_of_length_le (by omega)
    have f3 : b.msgs.flatMap (lsM f b) = [] := by
      rw [List.flatMap_eq_nil_iff]
      intro m hm
      refine List.eq_nil_of_length_eq_zero ?_
      rw [lsM_n]
      have : pmj f b.id m = m := by
        unfold pj at e3
        have e4 : b.msgs.map (pmj f b.id) = b.msgs.map id := by rw [List.map_id]; exact e3
        exact List.map_inj_left.1 e4 m hm
      unfold nOf
      rw [this]
      simp [one]
    rw [if_neg f1, f2, f3]
    rfl
/-- What kinds a loss has. -/
theorem ls_kind {f : Fm} {b : Box} {x : Los} (h : x ∈ ls f b) : x.kind = 2 ∨ x.kind = 4 ∨ x.kind = 5 ∨ x.kind = 6 ∨ x.kind = 7 := by
  obtain ⟨r, hr, hx⟩ := List.mem_flatMap.1 h
  unfold lossR at hx
  rcases List.mem_cons.1 hx with rfl | hx
  · exact ImR.re_kind hr
  · split at hx
    · rw [List.mem_singleton] at hx; subst hx; simp
    · cases hx
end Go.Proofs.YtchlbbndfhibgaaGreatDoor.LwD

namespace Go.Proofs.YtchlbbndfhibgaaGreatDoor.LwT
open Go.RowKit Go.Proofs.YtchlbbndfhibgaaGreatDoor.BxD Go.Proofs.YtchlbbndfhibgaaGreatDoor.BxKit Go.Proofs.YtchlbbndfhibgaaGreatDoor.LwD

theorem itoa_any {n : Int} {w : World} (ht : BxO.Tab w) (h1 : -9223372036854775808 ≤ n) (h2 : n ≤ 9223372036854775807) : Calls Tryz.prog 64 #[.int .i64 n] w fun e w' => e = .returned (.string (digT n)) ∧ Below w.heap.size w w' :=
  (Tryz.strconv_Itoa n (by omega) (by omega) w ht).mono fun e w' ⟨he, k, os, hw⟩ => ⟨he, by rw [hw]; exact BxO.below_grow _ _ (Nat.le_refl _) _ _⟩
theorem dig_len {n : Int} (h1 : -9223372036854775808 ≤ n) (h2 : n ≤ 9223372036854775807) : (digT n).size ≤ 21 := by
  show ((Lib.itoa n).toArray).size ≤ 21
  rw [List.size_toArray]
  unfold Lib.itoa
  split
  · rw [List.length_cons, Lib.decDigits_length]
    have := BxO.nDigits_le 19 n.natAbs (Nat.lt_of_le_of_lt (show n.natAbs ≤ 9223372036854775808 by omega) (by decide))
    omega
  · rw [Lib.decDigits_length]
    have := BxO.nDigits_le 19 n.toNat (Nat.lt_of_le_of_lt (show n.toNat ≤ 9223372036854775807 by omega) (by decide))
    omega
theorem one_size (c : UInt8) : (⟨#[c]⟩ : ByteArray).size = 1 := rfl
theorem cat_run {t : TypeId} {a b : ByteArray} (h : a.size + b.size ≤ 9223372036854775807) (w : World) : (binOp .add t (.string a) (.string b)).run Tryz.prog w = .ok (.string (a ++ b)) w := by
  rw [binOp_string_add]
  exact run_string_add_sum w _ _ h
/-- A loss of a message; a loss as a line. -/
def msgT (wt : ByteArray) (u : Int) (tx : ByteArray) : ByteArray := (((wt ++ ⟨#[32]⟩) ++ digT u) ++ ⟨#[32]⟩) ++ tx
def textL (x : Los) : ByteArray :=
  if x.kind = 4 then ⟨#[119, 111, 114, 100, 32]⟩ ++ x.text else if x.kind = 7 then ⟨#[104, 105, 103, 104, 32]⟩ ++ x.text else
  if x.kind = 2 then msgT ⟨#[107, 101, 121, 115]⟩ x.uid x.text else if x.kind = 5 then msgT ⟨#[110, 97, 109, 101]⟩ x.uid x.text else if x.kind = 6 then msgT ⟨#[109, 111, 100]⟩ x.uid x.text else ⟨#[]⟩
set_option maxHeartbeats 1000000 in
set_option maxRecDepth 100000 in
theorem ofMsg_any {wt tx : ByteArray} {k u : Int} {w : World} (ht : BxO.Tab w) (h1 : -9223372036854775808 ≤ u) (h2 : u ≤ 9223372036854775807) (hw : wt.size ≤ 100) (hx : tx.size ≤ 1000000) :
    Calls Tryz.prog 68 #[.string wt, .agg #[.int .i64 k, .int .i64 u, .string tx]] w fun e w' => e = .returned (.string (msgT wt u tx)) ∧ Below w.heap.size w w' := by
  have hbl := (Below.refl w.heap.size w).alloc (Nat.le_refl _) (.cells #[.int .i64 k, .int .i64 u, .string tx] 50)
  have HB := Lib.hid hbl
  have K := Lib.hid (fun (wr : World) (hb : Below w.heap.size w wr) => itoa_any (n := u) (ht.below hb (Nat.le_refl _)) h1 h2)
  have hd := dig_len h1 h2
  have HF := Lib.hid (show msgT wt u tx = (((wt ++ ⟨#[32]⟩) ++ digT u) ++ ⟨#[32]⟩) ++ tx from rfl)
  obtain ⟨D, hD⟩ : ∃ D : ByteArray, D = digT u := ⟨_, rfl⟩
  rw [← hD] at K HF hd
  clear hD hbl ht
  have hr := heap_alloc_new w (.cells #[.int .i64 k, .int .i64 u, .string tx] 50)
  have c := fun o => cell_of_row _ w.heap.size o _ _ _ hr
  have c1 := (c 1).trans (show _ = some (Value.int .i64 u) from rfl)
  have c2 := (c 2).trans (show _ = some (Value.string tx) from rfl)
  clear c
  have hs0 : (w.alloc (.cells #[.int .i64 k, .int .i64 u, .string tx] 50)).heap.size = w.heap.size + 1 := by simp
  go_enter Tryz.func68, Tryz.ntmps68
  go_upto_region 1 with fail
  generalize (World.alloc w _) = w1 at HB hr c1 c2 hs0 ⊢
  have bd := (Below.refl w1.heap.size w1).drew
  clear hr
  have q1 : ¬ 9223372036854775807 < wt.size + 1 := by omega
  have q2 : ¬ 9223372036854775807 < wt.size + 1 + D.size := by omega
  have q3 : ¬ 9223372036854775807 < wt.size + 1 + D.size + 1 := by omega
  have q4 : ¬ 9223372036854775807 < wt.size + 1 + D.size + 1 + tx.size := by omega
  go_region_held3 (fun wr => wr.cell? { block := w.heap.size, off := 1 } = some (.int .i64 u) ∧ wr.cell? { block := w.heap.size, off := 2 } = some (.string tx)) (with_reducible first | exact ⟨c1, c2⟩ | exact D2.out | go_keep) (first
    | (go_at_call 64
       ((with_reducible refine (K.out _ ?d1).mono ?_); rotate_left)
       case d1 => first | exact HB.out | exact HB.out.trans (bd.mono HB.out.size)
       go_loud (
       rintro e w2 ⟨rfl, hb2⟩
       have D2 := Lib.hid (show w2.cell? { block := w.heap.size, off := 1 } = some (.int .i64 u) ∧ w2.cell? { block := w.heap.size, off := 2 } = some (.string tx) by
         have hk : w2.heap[w.heap.size]? = w1.heap[w.heap.size]? := hb2.block _ (by show _ < w1.heap.size; omega)
         exact ⟨(World.cell?_of_block hk).trans c1, (World.cell?_of_block hk).trans c2⟩)
       have HB2 := Lib.hid (show Below w.heap.size w w2 from (HB.out.trans (Below.mono (show Below w1.heap.size w1 w2 from ⟨hb2.os, hb2.tape, hb2.output, hb2.size, hb2.block⟩) HB.out.size)))
       clear hb2
       dsimp only)))
  all_goals
    go_wp2_with fail
    go_ret
    exact ⟨ret_str HF.out.symm, HB2.out⟩
set_option maxHeartbeats 1000000 in
set_option maxRecDepth 100000 in
theorem text_any {k u : Int} {tx : ByteArray} {w : World} (ht : BxO.Tab w) (h1 : -9223372036854775808 ≤ u) (h2 : u ≤ 9223372036854775807) (hx : tx.size ≤ 1000000) :
    Calls Tryz.prog 29 #[.agg #[.int .i64 k, .int .i64 u, .string tx]] w fun e w' => e = .returned (.string (textL ⟨k, u, tx⟩)) ∧ Below w.heap.size w w' := by
  have HB := Lib.hid ((Below.refl w.heap.size w).alloc (Nat.le_refl _) (.cells #[.int .i64 k, .int .i64 u, .string tx] 50))
  have K := Lib.hid (fun (wt : ByteArray) (hw : wt.size ≤ 100) (wr : World) (hb : Below w.heap.size w wr) => ofMsg_any (k := k) (ht.below hb (Nat.le_refl _)) h1 h2 hw hx)
  have hr := heap_alloc_new w (.cells #[.int .i64 k, .int .i64 u, .string tx] 50)
  have c := fun o => cell_of_row _ w.heap.size o _ _ _ hr
  have c0 := (c 0).trans (show _ = some (Value.int .i64 k) from rfl)
  have c1 := (c 1).trans (show _ = some (Value.int .i64 u) from rfl)
  have c2 := (c 2).trans (show _ = some (Value.string tx) from rfl)
  clear c ht
  have hs0 : (w.alloc (.cells #[.int .i64 k, .int .i64 u, .string tx] 50)).heap.size = w.heap.size + 1 := by simp
  obtain ⟨T, hT⟩ : ∃ T, T = textL ⟨k, u, tx⟩ := ⟨_, rfl⟩
  have HT := Lib.hid hT
  rw [← hT]
  clear hT
  have q1 : ¬ 9223372036854775807 < 5 + tx.size := by omega
  go_enter Tryz.func29, Tryz.ntmps29
  go_upto_region 1 with fail
  generalize (World.alloc w _) = w1 at HB hr c0 c1 c2 hs0 ⊢
  clear hr
  by_cases k4 : k = 4
  · subst k4
    go_wp2_with fail
    go_ret
    refine ⟨?_, HB.out⟩
    rw [HT.out]
    rfl
  have k4b : (k == 4) = false := by simpa using k4
  by_cases k7 : k = 7
  · subst k7
    go_wp2_with fail
    go_ret
    refine ⟨?_, HB.out⟩
    rw [HT.out]
    rfl
  have k7b : (k == 7) = false := by simpa using k7
  by_cases k2 : k = 2
  · subst k2
    have KM := Lib.hid (K.out ⟨#[107, 101, 121, 115]⟩ (show 4 ≤ 100 by decide) w1 HB.out)
    go_wp2_with (go_at_call 68; go_loud (refine KM.out.mono ?_; rintro e w2 ⟨rfl, hb2⟩))
    go_ret
    refine ⟨?_, HB.out.trans (hb2.mono HB.out.size)⟩
    rw [HT.out]
    rfl
  have k2b : (k == 2) = false := by simpa using k2
  by_cases k5 : k = 5
  · subst k5
    have KM := Lib.hid (K.out ⟨#[110, 97, 109, 101]⟩ (show 4 ≤ 100 by decide) w1 HB.out)
    go_wp2_with (go_at_call 68; go_loud (refine KM.out.mono ?_; rintro e w2 ⟨rfl, hb2⟩))
    go_ret
    refine ⟨?_, HB.out.trans (hb2.mono HB.out.size)⟩
    rw [HT.out]
    rfl
  have k5b : (k == 5) = false := by simpa using k5
  by_cases k6 : k = 6
  · subst k6
    have KM := Lib.hid (K.out ⟨#[109, 111, 100]⟩ (show 3 ≤ 100 by decide) w1 HB.out)
    go_wp2_with (go_at_call 68; go_loud (refine KM.out.mono ?_; rintro e w2 ⟨rfl, hb2⟩))
    go_ret
    refine ⟨?_, HB.out.trans (hb2.mono HB.out.size)⟩
    rw [HT.out]
    rfl
  have k6b : (k == 6) = false := by simpa using k6
  go_wp2_with fail
  go_ret
  refine ⟨?_, HB.out⟩
  rw [HT.out]
  unfold textL
  rw [if_neg k4, if_neg k7, if_neg k2, if_neg k5, if_neg k6]
  rfl
end Go.Proofs.YtchlbbndfhibgaaGreatDoor.LwT
