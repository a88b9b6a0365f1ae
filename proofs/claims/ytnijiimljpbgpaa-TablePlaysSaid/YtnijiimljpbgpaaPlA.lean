/-
  Plain facts for the law of all calls: what stands side by side: the table, the law's own two rows of ints.
-/
import Derived.Test.YtnijiimljpbgpaaAwake
import Derived.Test.YtnijiimljpbgpaaPutI
import Derived.Test.YtnijiimljpbgpaaRdI
import Derived.Test.YtnijiimljpbgpaaCutI
import Derived.Test.YtnijiimljpbgpaaKeysI
import Derived.Test.YtnijiimljpbgpaaIns
import Derived.Test.YtnijiimljpbgpaaKitC
namespace Go.Proofs.Ytnijiimljpbgpaa.PL
open Go.RowKit Go.Proofs.Ytnijiimljpbgpaa.Kit Go.Proofs.Ytnijiimljpbgpaa.Arg

/-- A slice of calls that came in: three ints each. -/
def CallsAt (w : World) (A : Option Addr) (n : Nat) : Prop :=
  0 < n → ∃ ad, A = some ad ∧ ad.block < w.heap.size ∧ ∀ j, j < n → ∃ D K V : Int, w.cell? (ad.add (j * 3)) = some (.int .i64 D) ∧ w.cell? (ad.add (j * 3 + 1)) = some (.int .i64 K) ∧ w.cell? (ad.add (j * 3 + 2)) = some (.int .i64 V)

theorem CallsAt.at_ {w wr : World} {A : Option Addr} {n B : Nat} (h : CallsAt w A n) (hb : Below B w wr) (hB : w.heap.size ≤ B) {j : Nat} (hj : j < n) :
    ∃ ad, A = some ad ∧ ∃ D K V : Int, wr.cell? (ad.add (j * 3)) = some (.int .i64 D) ∧ wr.cell? { block := (ad.add (j * 3)).block, off := (ad.add (j * 3)).off + 1 } = some (.int .i64 K) ∧ wr.cell? { block := (ad.add (j * 3)).block, off := (ad.add (j * 3)).off + 2 } = some (.int .i64 V) := by
  obtain ⟨ad, rfl, hlt, hc⟩ := h (by omega)
  obtain ⟨D, K, V, h1, h2, h3⟩ := hc j hj
  refine ⟨ad, rfl, D, K, V, ?_, ?_, ?_⟩
  · rw [hb.cell (p := ad.add (j * 3)) (by rw [add_block]; omega)]; exact h1
  · rw [← h2, ← add_add]
    rw [hb.cell (by show (ad.add (j * 3)).block < B; rw [add_block]; omega)]
    rfl
  · rw [← h3, ← add_add]
    rw [hb.cell (by show (ad.add (j * 3)).block < B; rw [add_block]; omega)]
    rfl

/-- Between two calls: the table in order, keys and vals as it has them, in blocks of their own. -/
structure Rl (w wr : World) (T room : Nat) (ps : List TI.PR) (m : Nat) (A7 : Option Addr) (c7 : Nat) (A8 : Option Addr) (c8 : Nat) : Prop where
  tab : TI.Tab wr T T room ps
  bel : Below T w wr
  len : ps.length = m
  o7 : wr.ownsRow T 3 1 (.slice A7 m c7) m (ints (ps.map (·.1)))
  o8 : wr.ownsRow T 3 1 (.slice A8 m c8) m (ints (ps.map (·.2)))
  ne : ∀ g, (Value.slice A7 m c7).ownBlock = some g → (Value.slice A8 m c8).ownBlock ≠ some g

theorem Rl.below {w wr wx : World} {T room : Nat} {ps : List TI.PR} {m : Nat} {A7 : Option Addr} {c7 : Nat} {A8 : Option Addr} {c8 : Nat} (h : Rl w wr T room ps m A7 c7 A8 c8) (hb : Below wr.heap.size wr wx) : Rl w wx T room ps m A7 c7 A8 c8 := by
  obtain ⟨h1, h2, h3, h4, h5, h6⟩ := h
  exact ⟨h1.below hb, h2.trans (hb.mono h1.base_le), h3, TI.owns_below hb h4, TI.owns_below hb h5, h6⟩

theorem names_at {ps : List TI.PR} {i : Nat} {x : Int} (h : (ps.map (·.1))[i]? = some x) : ∃ v, ps[i]? = some (x, v) := by
  rw [List.getElem?_map] at h
  cases hq : ps[i]? with
  | none => rw [hq] at h; cases h
  | some p => rw [hq] at h; injection h with h; exact ⟨p.2, by rw [← h]⟩

/-- keys[i], in whatever world what was there stays -/
theorem Rl.key {w wr wx : World} {T room : Nat} {ps : List TI.PR} {m : Nat} {A7 : Option Addr} {c7 : Nat} {A8 : Option Addr} {c8 : Nat} (h : Rl w wr T room ps m A7 c7 A8 c8) (hb : Below wr.heap.size wr wx) {i : Nat} (hi : i < m) :
    ∃ ad x v, A7 = some ad ∧ ps[i]? = some (x, v) ∧ wx.cell? (ad.add i) = some (.int .i64 x) := by
  obtain ⟨ad, x, e, hx, hc⟩ := (ints_of_owns h.o7).at_ hb (Nat.le_refl _) hi
  obtain ⟨v, hv⟩ := names_at hx
  exact ⟨ad, x, v, e, hv, hc⟩
theorem Rl.val {w wr wx : World} {T room : Nat} {ps : List TI.PR} {m : Nat} {A7 : Option Addr} {c7 : Nat} {A8 : Option Addr} {c8 : Nat} (h : Rl w wr T room ps m A7 c7 A8 c8) (hb : Below wr.heap.size wr wx) {i : Nat} {p : TI.PR} (hp : ps[i]? = some p) :
    ∃ ad, A8 = some ad ∧ wx.cell? (ad.add i) = some (.int .i64 p.2) := by
  have hi := (List.getElem?_eq_some_iff.1 hp).1
  obtain ⟨ad, x, e, hx, hc⟩ := (ints_of_owns h.o8).at_ hb (Nat.le_refl _) (j := i) (by have := h.len; omega)
  rw [List.getElem?_map, hp] at hx
  injection hx with hx
  subst hx
  exact ⟨ad, e, hc⟩

/-- where the law's own scan stands -/
theorem scan_up {ps : List TI.PR} {k : Int} {i : Nat} {x v : Int} (h : i ≤ lo Cmp.cmpI k ps) (hp : ps[i]? = some (x, v)) (hx : x < k) : i + 1 ≤ lo Cmp.cmpI k ps := by
  rcases Nat.lt_or_eq_of_le h with h1 | h1
  · exact h1
  · subst h1
    have := lo_at Cmp.cmpI k ps _ hp
    rw [cmpI_lt] at this
    exact absurd hx this
theorem scan_at {ps : List TI.PR} {k : Int} {i : Nat} {x v : Int} (h : i ≤ lo Cmp.cmpI k ps) (hp : ps[i]? = some (x, v)) (hx : ¬ x < k) : i = lo Cmp.cmpI k ps := by
  rcases Nat.lt_or_eq_of_le h with h1 | h1
  · have := lo_below Cmp.cmpI k ps i _ h1 hp
    rw [cmpI_lt] at this
    exact absurd this hx
  · exact h1
theorem scan_end {ps : List TI.PR} {k : Int} {i : Nat} (h : i ≤ lo Cmp.cmpI k ps) (hi : i = ps.length) : i = lo Cmp.cmpI k ps := by
  have := lo_le Cmp.cmpI k ps
  omega
theorem hit_at {ps : List TI.PR} {k x v : Int} (hp : ps[lo Cmp.cmpI k ps]? = some (x, v)) : hit Cmp.cmpI k ps = (x == k) := by
  unfold hit
  rw [hp]
  simp only [Cmp.ordI.eq0]
  by_cases h : x = k
  · simp [h]
  · simp [h]
theorem hit_end {ps : List TI.PR} {k : Int} (h : lo Cmp.cmpI k ps = ps.length) : hit Cmp.cmpI k ps = false := by
  unfold hit
  rw [h, List.getElem?_eq_none (Nat.le_refl _)]
end Go.Proofs.Ytnijiimljpbgpaa.PL
