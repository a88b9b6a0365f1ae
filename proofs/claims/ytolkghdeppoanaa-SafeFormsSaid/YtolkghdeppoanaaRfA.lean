/-
  The document's files: put and cut on sorted lists; named, cost, Costs, at.
-/
import Derived.Test.YtolkghdeppoanaaRkE
set_option linter.unusedVariables false
set_option linter.unusedSimpArgs false
namespace Go.Proofs.Ytolkghdeppoanaa.RfA
open Go.RowKit Go.Proofs.Ytolkghdeppoanaa.BxD Go.Proofs.Ytolkghdeppoanaa.BxKit Go.Proofs.Ytolkghdeppoanaa.RkO Go.Proofs.Ytolkghdeppoanaa.RkC Go.Proofs.Ytolkghdeppoanaa.RkD Go.Proofs.Ytolkghdeppoanaa.RkR Go.Proofs.Ytolkghdeppoanaa.RkK Go.Proofs.Ytolkghdeppoanaa.RkP Go.Proofs.Ytolkghdeppoanaa.RkQ Go.Proofs.Ytolkghdeppoanaa.RkE

/-- Is a behind b, or b itself? -/
def ge (a b : ByteArray) : Bool := !Op.bytesLess a.toList b.toList
theorem ge_iff {a b : ByteArray} : ge a b = true ↔ ¬ cmpS a b < 0 := by
  unfold ge
  rw [cmpS_neg]
  cases Op.bytesLess a.toList b.toList <;> simp
theorem beqN (a b : ByteArray) : (a.toList == b.toList) = decide (a = b) := by
  by_cases h : a = b
  · subst h; rw [decide_eq_true rfl]; exact beq_self_eq_true _
  · rw [decide_eq_false h]
    exact beq_eq_false_iff_ne.2 fun e => h (ba_ext e)
/-- What is still to come of a put. -/
def rp (n : ByteArray) (d : List UInt8) : List F → Bool → List F
  | [], dn => if dn then [] else [(n, d)]
  | f :: r, dn => (if !dn && ge f.1 n then [(n, d)] else []) ++ ((if decide (f.1 = n) then [] else [f]) ++ rp n d r (dn || ge f.1 n))
theorem rp_true {n : ByteArray} {d : List UInt8} : ∀ {r : List F}, (∀ g ∈ r, g.1 ≠ n) → rp n d r true = r
  | [], _ => rfl
  | f :: r, h => by
    unfold rp
    rw [decide_eq_false (h f (List.mem_cons_self ..)), Bool.true_or, rp_true fun g hg => h g (List.mem_cons_of_mem _ hg)]
    simp
theorem srt_ne {f : F} {r : List F} {n : ByteArray} (hs : SrtF (f :: r)) (h : ¬ cmpS f.1 n < 0) : ∀ g ∈ r, g.1 ≠ n := fun g hg e => by
  have := (List.pairwise_cons.1 hs).1 g hg
  rw [e] at this
  exact h this
theorem lo_up {f : F} {r : List F} {n : ByteArray} (h : cmpS f.1 n < 0) : lo cmpS n (f :: r) = lo cmpS n r + 1 := by
  refine lo_eq cmpS n (f :: r) _ (by have := lo_le cmpS n r; simp; omega) ?_ ?_
  · intro j p hj hp
    cases j with
    | zero => obtain rfl : f = p := by simpa using hp
              exact h
    | succ j => exact lo_below cmpS n r j p (by omega) (by simpa using hp)
  · intro p hp
    exact lo_at cmpS n r p (by simpa using hp)
theorem lo_here {f : F} {r : List F} {n : ByteArray} (h : ¬ cmpS f.1 n < 0) : lo cmpS n (f :: r) = 0 :=
  lo_eq cmpS n (f :: r) 0 (Nat.zero_le _) (fun j p hj => absurd hj (Nat.not_lt_zero _)) fun p hp => by
    obtain rfl : f = p := by simpa using hp
    exact h
theorem hit_up {f : F} {r : List F} {n : ByteArray} (h : cmpS f.1 n < 0) : hitF n (f :: r) = hitF n r := by
  unfold hitF hit
  rw [lo_up h, List.getElem?_cons_succ]
theorem hit_here {f : F} {r : List F} {n : ByteArray} (h : ¬ cmpS f.1 n < 0) : hitF n (f :: r) = decide (f.1 = n) := by
  unfold hitF hit
  rw [lo_here h]
  by_cases e : f.1 = n
  · simp [e, (ordS.eq0 n n).2 rfl]
  · simp [e, show ¬ cmpS f.1 n = 0 from fun h => e ((ordS.eq0 _ _).1 h)]
theorem rp_put {n : ByteArray} {d : List UInt8} : ∀ {l : List F}, SrtF l → rp n d l false = putF n d l
  | [], _ => by unfold rp putF put; simp [hit, lo, ins]
  | f :: r, hs => by
    have hr : SrtF r := (List.pairwise_cons.1 hs).2
    by_cases h : cmpS f.1 n < 0
    · have hg : ge f.1 n = false := by
        cases hg : ge f.1 n with
        | false => rfl
        | true => exact absurd h (ge_iff.1 hg)
      have hn : f.1 ≠ n := fun e => by
        rw [e, (ordS.eq0 n n).2 rfl] at h
        exact absurd h (by decide)
      unfold rp
      rw [hg, decide_eq_false hn, Bool.or_false, rp_put hr]
      have hh := hit_up (r := r) h
      unfold putF put
      rw [show hit cmpS n (f :: r) = hit cmpS n r from hh]
      unfold upd ins
      rw [lo_up h]
      cases hit cmpS n r <;> simp
    · have hg := ge_iff.2 h
      unfold rp
      rw [hg, Bool.false_or, rp_true (srt_ne hs h)]
      unfold putF put
      rw [show hit cmpS n (f :: r) = decide (f.1 = n) from hit_here h]
      unfold upd ins
      rw [lo_here h]
      by_cases e : f.1 = n <;> simp [e]
/-- What is still to come of a cut. -/
def rc (n : ByteArray) (l : List F) : List F := l.filter fun f => !decide (f.1 = n)
theorem rc_cut {n : ByteArray} : ∀ {l : List F}, SrtF l → rc n l = cutF n l
  | [], _ => by unfold rc cutF cut; simp [hit, lo]
  | f :: r, hs => by
    have hr : SrtF r := (List.pairwise_cons.1 hs).2
    by_cases h : cmpS f.1 n < 0
    · have hn : f.1 ≠ n := fun e => by
        rw [e, (ordS.eq0 n n).2 rfl] at h
        exact absurd h (by decide)
      have ih := rc_cut (n := n) hr
      unfold rc at ih ⊢
      rw [List.filter_cons_of_pos (by simpa using hn), ih]
      unfold cutF cut
      rw [show hit cmpS n (f :: r) = hit cmpS n r from hit_up h, lo_up h]
      cases hit cmpS n r <;> simp
    · have hr0 : rc n r = r := List.filter_eq_self.2 fun g hg => by simpa using srt_ne hs h g hg
      unfold rc at hr0 ⊢
      unfold cutF cut
      rw [show hit cmpS n (f :: r) = decide (f.1 = n) from hit_here h, lo_here h]
      by_cases e : f.1 = n
      · rw [List.filter_cons_of_neg (by simpa using e), hr0]; simp [e]
      · rw [List.filter_cons_of_pos (by simpa using e), hr0]; simp [e]
theorem at_hit {n : ByteArray} {l : List F} {k : Nat} {f : F} (hs : SrtF l) (h : l[k]? = some f) (e : f.1 = n) : hitF n l = true ∧ lo cmpS n l = k := by
  have hk : k < l.length := (List.getElem?_eq_some_iff.1 h).1
  have hl : lo cmpS n l = k := by
    refine lo_eq cmpS n l k (by omega) (fun j p hj hp => ?_) fun p hp => ?_
    · obtain ⟨h1, e1⟩ := List.getElem?_eq_some_iff.1 hp
      obtain ⟨h2, e2⟩ := List.getElem?_eq_some_iff.1 h
      have := (List.pairwise_iff_getElem.1 hs) j k h1 h2 hj
      rw [e1, e2, e] at this
      exact this
    · rw [h] at hp
      obtain rfl := Option.some.inj hp
      rw [e, (ordS.eq0 n n).2 rfl]
      decide
  refine ⟨?_, hl⟩
  unfold hitF hit
  rw [hl, h]
  exact decide_eq_true ((ordS.eq0 _ _).2 e)
theorem at_miss {n : ByteArray} {l : List F} (h : ∀ f ∈ l, f.1 ≠ n) : hitF n l = false := by
  unfold hitF hit
  cases e : l[lo cmpS n l]? with
  | none => rfl
  | some f => exact decide_eq_false fun e2 => h f (List.mem_of_getElem? e) ((ordS.eq0 _ _).1 e2)
/-- Where a file lies, or -1. -/
def atI (n : ByteArray) (l : List F) : Int := if hitF n l then (lo cmpS n l : Nat) else -1

end Go.Proofs.Ytolkghdeppoanaa.RfA
