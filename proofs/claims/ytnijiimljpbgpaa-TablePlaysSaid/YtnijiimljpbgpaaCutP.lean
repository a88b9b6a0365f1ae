/-
  The law's own cut out of both rows: one statement with four appends, in whatever order the second row is begun.
-/
import Derived.Test.YtnijiimljpbgpaaPlA
namespace Go.Proofs.Ytnijiimljpbgpaa.PL
open Go.RowKit Go.Proofs.Ytnijiimljpbgpaa.Kit Go.Proofs.Ytnijiimljpbgpaa.Arg

/-- two appends, one behind the other, onto an empty row: what stands ahead of i, then what stands behind it -/
theorem two {w X : World} {b : Nat} {A : Option Addr} {c i m : Nat} {zs : List Int} (ho : w.ownsRow b 3 1 (.slice A m c) m (ints zs)) (hm : zs.length = m) (hmc : m ≤ c) (hi : i < m) (hn : m ≤ 1000) (hb : Below w.heap.size w X)
    {g0 : Nat} (h0 : X.ownsRow w.heap.size 3 1 (.slice (some ⟨g0, 0, none⟩) 0 0) 0 (ints [])) :
    ∃ A4 c4 W4, (Builtin.append_ #[26, 26] 26 #[.slice (some ⟨g0, 0, none⟩) 0 0, .slice A i c]).run Try.prog X = .ok (.slice A4 i c4) W4 ∧
      W4.ownsRow w.heap.size 3 1 (.slice A4 i c4) i (ints (zs.take i)) ∧ X.grownBy W4 (some g0) ∧ Below w.heap.size w W4 ∧ ((Value.slice A4 i c4).ownBlock = some g0 ∨ (Value.slice A4 i c4).ownBlock = some X.heap.size) := by
  obtain ⟨A4, c4, W4, hr4, ho4, hg4, hl4⟩ := app h0 A i c (zs.take i) (by simp; omega) (cutL ho hb (Nat.le_of_lt hi)) (by omega) hb.size
  rw [Nat.zero_add] at hr4 ho4 hl4
  exact ⟨A4, c4, W4, hr4, ho4, hg4, hb.grown hg4 hb.size (fun k hk => (h0.lt k hk).1), hl4⟩

theorem snd {w Y : World} {b : Nat} {A : Option Addr} {c i m : Nat} {zs : List Int} (ho : w.ownsRow b 3 1 (.slice A m c) m (ints zs)) (hm : zs.length = m) (hmc : m ≤ c) (hi : i < m) (hn : m ≤ 1000) (hb : Below w.heap.size w Y)
    {A4 : Option Addr} {c4 : Nat} (h4 : Y.ownsRow w.heap.size 3 1 (.slice A4 i c4) i (ints (zs.take i))) :
    ∃ A5 c5 W5, (Builtin.append_ #[26, 26] 26 #[.slice A4 i c4, .slice (if c = i + 1 then A else Option.map (fun x => x.add (i + 1)) A) (m - (i + 1)) (c - (i + 1))]).run Try.prog Y = .ok (.slice A5 (m - 1) c5) W5 ∧
      W5.ownsRow w.heap.size 3 1 (.slice A5 (m - 1) c5) (m - 1) (ints (zs.take i ++ zs.drop (i + 1))) ∧ Y.grownBy W5 (Value.slice A4 i c4).ownBlock ∧ Below w.heap.size w W5 ∧
      ((Value.slice A5 (m - 1) c5).ownBlock = (Value.slice A4 i c4).ownBlock ∨ (Value.slice A5 (m - 1) c5).ownBlock = some Y.heap.size) := by
  obtain ⟨A5, c5, W5, hr5, ho5, hg5, hl5⟩ := app h4 (if c = i + 1 then A else Option.map (fun x => x.add (i + 1)) A) (m - (i + 1)) (c - (i + 1)) (zs.drop (i + 1)) (by simp; omega) (cutR ho hb hmc) (by omega) hb.size
  rw [show i + (m - (i + 1)) = m - 1 by omega] at hr5 ho5 hl5
  exact ⟨A5, c5, W5, hr5, ho5, hg5, hb.grown hg5 hb.size (fun k hk => (h4.lt k hk).1), hl5⟩

/-- both rows behind the cut: each its own -/
structure Fin (w : World) (zs ys : List Int) (i m : Nat) (A5 : Option Addr) (c5 : Nat) (A9 : Option Addr) (c9 : Nat) (Z : World) : Prop where
  o7 : Z.ownsRow w.heap.size 3 1 (.slice A5 (m - 1) c5) (m - 1) (ints (zs.take i ++ zs.drop (i + 1)))
  o8 : Z.ownsRow w.heap.size 3 1 (.slice A9 (m - 1) c9) (m - 1) (ints (ys.take i ++ ys.drop (i + 1)))
  ne : ∀ g, (Value.slice A5 (m - 1) c5).ownBlock = some g → (Value.slice A9 (m - 1) c9).ownBlock ≠ some g
  bel : Below w.heap.size w Z

/-- the second row's two appends, the first row done -/
theorem last {w Y : World} {b : Nat} {A : Option Addr} {c i m : Nat} {zs ys : List Int} (ho : w.ownsRow b 3 1 (.slice A m c) m (ints ys)) (hm : ys.length = m) (hmc : m ≤ c) (hi : i < m) (hn : m ≤ 1000) (hb : Below w.heap.size w Y)
    {A5 : Option Addr} {c5 : Nat} (h5 : Y.ownsRow w.heap.size 3 1 (.slice A5 (m - 1) c5) (m - 1) (ints (zs.take i ++ zs.drop (i + 1))))
    {g1 : Nat} (h0 : Y.ownsRow w.heap.size 3 1 (.slice (some ⟨g1, 0, none⟩) 0 0) 0 (ints [])) (hne : (Value.slice A5 (m - 1) c5).ownBlock ≠ some g1) :
    ∃ A8 c8 W8 A9 c9 Z, (Builtin.append_ #[26, 26] 26 #[.slice (some ⟨g1, 0, none⟩) 0 0, .slice A i c]).run Try.prog Y = .ok (.slice A8 i c8) W8 ∧
      (Builtin.append_ #[26, 26] 26 #[.slice A8 i c8, .slice (if c = i + 1 then A else Option.map (fun x => x.add (i + 1)) A) (m - (i + 1)) (c - (i + 1))]).run Try.prog W8 = .ok (.slice A9 (m - 1) c9) Z ∧
      Fin w zs ys i m A5 c5 A9 c9 Z := by
  obtain ⟨A8, c8, W8, hr8, ho8, hg8, hb8, hl8⟩ := two ho hm hmc hi hn hb h0
  obtain ⟨A9, c9, Z, hr9, ho9, hg9, hb9, hl9⟩ := snd ho hm hmc hi hn hb8 ho8
  have hlt : ∀ g, (Value.slice A5 (m - 1) c5).ownBlock = some g → g < Y.heap.size := fun g hg => (h5.lt g hg).2
  have h58 : W8.ownsRow w.heap.size 3 1 (.slice A5 (m - 1) c5) (m - 1) (ints (zs.take i ++ zs.drop (i + 1))) := h5.kept hg8 (.inr hne)
  have hne8 : ∀ g, (Value.slice A5 (m - 1) c5).ownBlock = some g → (Value.slice A8 i c8).ownBlock ≠ some g := by
    intro g hg he
    rcases hl8 with h | h
    · rw [h] at he; rw [hg] at hne; exact hne he.symm
    · rw [h] at he; injection he with he; have := hlt g hg; omega
  have h59 : Z.ownsRow w.heap.size 3 1 (.slice A5 (m - 1) c5) (m - 1) (ints (zs.take i ++ zs.drop (i + 1))) := by
    refine h58.kept hg9 ?_
    cases hq : (Value.slice A5 (m - 1) c5).ownBlock with
    | none => exact .inl rfl
    | some g => exact .inr (fun e => hne8 g hq e.symm)
  refine ⟨A8, c8, W8, A9, c9, Z, hr8, hr9, h59, ho9, ?_, hb9⟩
  intro g hg he
  rcases hl9 with h | h
  · rw [h] at he; exact hne8 g hg he
  · rw [h] at he
    injection he with he
    have h1 := hlt g hg
    have h2 := hg8.size
    omega

theorem ordA {w X : World} {b b' : Nat} {A C : Option Addr} {c d i m : Nat} {zs ys : List Int} (ho : w.ownsRow b 3 1 (.slice A m c) m (ints zs)) (hm : zs.length = m) (hmc : m ≤ c) (ho' : w.ownsRow b' 3 1 (.slice C m d) m (ints ys)) (hm' : ys.length = m) (hmd : m ≤ d) (hi : i < m) (hn : m ≤ 1000) (hb : Below w.heap.size w X)
    {g0 : Nat} (h0 : X.ownsRow w.heap.size 3 1 (.slice (some ⟨g0, 0, none⟩) 0 0) 0 (ints [])) {g1 : Nat} (h1 : X.ownsRow w.heap.size 3 1 (.slice (some ⟨g1, 0, none⟩) 0 0) 0 (ints [])) (hne : g1 ≠ g0) :
    ∃ A4 c4 W4 A5 c5 W5 A8 c8 W8 A9 c9 Z, (Builtin.append_ #[26, 26] 26 #[.slice (some ⟨g0, 0, none⟩) 0 0, .slice A i c]).run Try.prog X = .ok (.slice A4 i c4) W4 ∧
      (Builtin.append_ #[26, 26] 26 #[.slice A4 i c4, .slice (if c = i + 1 then A else Option.map (fun x => x.add (i + 1)) A) (m - (i + 1)) (c - (i + 1))]).run Try.prog W4 = .ok (.slice A5 (m - 1) c5) W5 ∧
      (Builtin.append_ #[26, 26] 26 #[.slice (some ⟨g1, 0, none⟩) 0 0, .slice C i d]).run Try.prog W5 = .ok (.slice A8 i c8) W8 ∧
      (Builtin.append_ #[26, 26] 26 #[.slice A8 i c8, .slice (if d = i + 1 then C else Option.map (fun x => x.add (i + 1)) C) (m - (i + 1)) (d - (i + 1))]).run Try.prog W8 = .ok (.slice A9 (m - 1) c9) Z ∧
      Fin w zs ys i m A5 c5 A9 c9 Z := by
  obtain ⟨A4, c4, W4, hr4, ho4, hg4, hb4, hl4⟩ := two ho hm hmc hi hn hb h0
  have h14 := h1.kept hg4 (.inr (by simp [Value.ownBlock, hne]))
  have hg1 : g1 < X.heap.size := (h1.lt g1 rfl).2
  have hn4 : (Value.slice A4 i c4).ownBlock ≠ some g1 := by
    intro e
    rcases hl4 with h | h
    · rw [h] at e; injection e with e; exact hne e.symm
    · rw [h] at e; injection e with e; omega
  obtain ⟨A5, c5, W5, hr5, ho5, hg5, hb5, hl5⟩ := snd ho hm hmc hi hn hb4 ho4
  have h15 := h14.kept hg5 (.inr (fun e => hn4 (e.symm.trans rfl)))
  have hn5 : (Value.slice A5 (m - 1) c5).ownBlock ≠ some g1 := by
    intro e
    rcases hl5 with h | h
    · rw [h] at e; exact hn4 e
    · rw [h] at e; injection e with e; have := hg4.size; omega
  obtain ⟨A8, c8, W8, A9, c9, Z, hr8, hr9, hf⟩ := last (zs := zs) ho' hm' hmd hi hn hb5 ho5 h15 hn5
  exact ⟨A4, c4, W4, A5, c5, W5, A8, c8, W8, A9, c9, Z, hr4, hr5, hr8, hr9, hf⟩

/-- the first append done: the second row is begun at once, or behind the second append -/
theorem ordBC {w X : World} {b b' : Nat} {A C : Option Addr} {c d i m : Nat} {zs ys : List Int} (ho : w.ownsRow b 3 1 (.slice A m c) m (ints zs)) (hm : zs.length = m) (hmc : m ≤ c) (ho' : w.ownsRow b' 3 1 (.slice C m d) m (ints ys)) (hm' : ys.length = m) (hmd : m ≤ d) (hi : i < m) (hn : m ≤ 1000) (hb : Below w.heap.size w X)
    {g0 : Nat} (h0 : X.ownsRow w.heap.size 3 1 (.slice (some ⟨g0, 0, none⟩) 0 0) 0 (ints [])) :
    ∃ A4 c4 W4, (Builtin.append_ #[26, 26] 26 #[.slice (some ⟨g0, 0, none⟩) 0 0, .slice A i c]).run Try.prog X = .ok (.slice A4 i c4) W4 ∧
      (∃ A5 c5 W5 A8 c8 W8 A9 c9 Z, (Builtin.append_ #[26, 26] 26 #[.slice A4 i c4, .slice (if c = i + 1 then A else Option.map (fun x => x.add (i + 1)) A) (m - (i + 1)) (c - (i + 1))]).run Try.prog (W4.alloc (.cells #[] 3)) = .ok (.slice A5 (m - 1) c5) W5 ∧
        (Builtin.append_ #[26, 26] 26 #[.slice (some ⟨W4.heap.size, 0, none⟩) 0 0, .slice C i d]).run Try.prog W5 = .ok (.slice A8 i c8) W8 ∧
        (Builtin.append_ #[26, 26] 26 #[.slice A8 i c8, .slice (if d = i + 1 then C else Option.map (fun x => x.add (i + 1)) C) (m - (i + 1)) (d - (i + 1))]).run Try.prog W8 = .ok (.slice A9 (m - 1) c9) Z ∧ Fin w zs ys i m A5 c5 A9 c9 Z) ∧
      (∃ A5 c5 W5 A8 c8 W8 A9 c9 Z, (Builtin.append_ #[26, 26] 26 #[.slice A4 i c4, .slice (if c = i + 1 then A else Option.map (fun x => x.add (i + 1)) A) (m - (i + 1)) (c - (i + 1))]).run Try.prog W4 = .ok (.slice A5 (m - 1) c5) W5 ∧
        (Builtin.append_ #[26, 26] 26 #[.slice (some ⟨W5.heap.size, 0, none⟩) 0 0, .slice C i d]).run Try.prog (W5.alloc (.cells #[] 3)) = .ok (.slice A8 i c8) W8 ∧
        (Builtin.append_ #[26, 26] 26 #[.slice A8 i c8, .slice (if d = i + 1 then C else Option.map (fun x => x.add (i + 1)) C) (m - (i + 1)) (d - (i + 1))]).run Try.prog W8 = .ok (.slice A9 (m - 1) c9) Z ∧ Fin w zs ys i m A5 c5 A9 c9 Z) := by
  obtain ⟨A4, c4, W4, hr4, ho4, hg4, hb4, hl4⟩ := two ho hm hmc hi hn hb h0
  refine ⟨A4, c4, W4, hr4, ?_, ?_⟩
  · have h14 : (W4.alloc (.cells #[] 3)).ownsRow w.heap.size 3 1 (.slice (some ⟨W4.heap.size, 0, none⟩) 0 0) 0 (ints []) := own_empty W4 w.heap.size hb4.size
    have hn4 : (Value.slice A4 i c4).ownBlock ≠ some W4.heap.size := by
      intro e
      have := (ho4.lt _ e).2
      omega
    obtain ⟨A5, c5, W5, hr5, ho5, hg5, hb5, hl5⟩ := snd ho hm hmc hi hn (hb4.alloc hb4.size (.cells #[] 3)) (ho4.alloc (.cells #[] 3))
    have h15 := h14.kept hg5 (.inr (fun e => hn4 (e.symm.trans rfl)))
    have hn5 : (Value.slice A5 (m - 1) c5).ownBlock ≠ some W4.heap.size := by
      intro e
      rcases hl5 with h | h
      · rw [h] at e; exact hn4 e
      · rw [h] at e; injection e with e; simp at e
    obtain ⟨A8, c8, W8, A9, c9, Z, hr8, hr9, hf⟩ := last (zs := zs) ho' hm' hmd hi hn hb5 ho5 h15 hn5
    exact ⟨A5, c5, W5, A8, c8, W8, A9, c9, Z, hr5, hr8, hr9, hf⟩
  · obtain ⟨A5, c5, W5, hr5, ho5, hg5, hb5, hl5⟩ := snd ho hm hmc hi hn hb4 ho4
    have h15 : (W5.alloc (.cells #[] 3)).ownsRow w.heap.size 3 1 (.slice (some ⟨W5.heap.size, 0, none⟩) 0 0) 0 (ints []) := own_empty W5 w.heap.size hb5.size
    have hn5 : (Value.slice A5 (m - 1) c5).ownBlock ≠ some W5.heap.size := by
      intro e
      have := (ho5.lt _ e).2
      omega
    obtain ⟨A8, c8, W8, A9, c9, Z, hr8, hr9, hf⟩ := last (zs := zs) ho' hm' hmd hi hn (hb5.alloc hb5.size (.cells #[] 3)) (ho5.alloc (.cells #[] 3)) h15 hn5
    exact ⟨A5, c5, W5, A8, c8, W8, A9, c9, Z, hr5, hr8, hr9, hf⟩
end Go.Proofs.Ytnijiimljpbgpaa.PL
