/-
  An append of a slice that may be empty onto a row of one's own; two rows of names in order with the same names are one; texts in order.
-/
import Derived.Test.YtnijiimljpbgpaaKitB
import Derived.Laws.OwnMore
namespace Go.Proofs.Ytnijiimljpbgpaa.Kit
open Go.RowKit

theorem run_append_seq {P : Program} (w : World) (base : Nat) (t ty e : TypeId) (i : TypeInfo) (z : Value) (size bytes : Nat) (ht : P.underlying t = some (.slice e)) (hi : P.info? e = some i) (hz : i.zero = some z)
    (hsize : i.size = size) (hby : i.bytes = bytes) (hzs : z.cells.size = size) (hsz : 0 < size)
    (v : Value) (n : Nat) (xs : List Value) (hown : w.ownsRow base e size v n xs)
    (A : Option Addr) (m c : Nat) (news : List Value) (hl : news.length = m * size) (hc : 0 < m → ∃ ad, A = some ad ∧ ∀ j u, news[j]? = some u → w.cell? (ad.add j) = some u) (h1 : ∀ u ∈ news, u.oneCell' = true)
    (h63 : n + m ≤ maxLen) (hbytes : (n + m) * bytes ≤ 140737488355328) (hbase : base ≤ w.heap.size) :
    ∃ A' c' w', (Builtin.append_ #[t, t] ty #[v, .slice A m c]).run P w = .ok (.slice A' (n + m) c') w' ∧ w'.ownsRow base e size (.slice A' (n + m) c') (n + m) (xs ++ news) ∧ w.grownBy w' v.ownBlock := by
  have shape : ∀ (v' : Value) (w' : World), w'.ownsRow base e size v' (n + m) (xs ++ news) → ∃ A' c', v' = .slice A' (n + m) c' := by
    intro v' w' h
    rcases owns_cases h with ⟨rfl, h0, _⟩ | ⟨g, cap, rest, rfl, _⟩
    · exact ⟨none, 0, by rw [h0]⟩
    · exact ⟨_, _, rfl⟩
  rcases A with _ | ad
  · have hm : m = 0 := by
      rcases Nat.eq_zero_or_pos m with h0 | h0
      · exact h0
      · obtain ⟨ad, h, _⟩ := hc h0; cases h
    subst hm
    have hn : news = [] := List.eq_nil_of_length_eq_zero (by simpa using hl)
    subst hn
    have hr : (Builtin.append_ #[t, t] ty #[v, .slice none 0 c]).run P w = .ok v w := by
      rcases hown.2 with ⟨rfl, rfl⟩ | ⟨g, cap, cur, rfl, _, _, hnc, _⟩
      · simp [Builtin.append_, run_underlying ht, sizeOf, typeInfo, hi, Builtin.lenOf, Builtin.firstCells]
      · simp [Builtin.append_, run_underlying ht, sizeOf, typeInfo, hi, Builtin.lenOf, Builtin.firstCells, hnc, storeCells]
    have ho : w.ownsRow base e size v (n + 0) (xs ++ []) := by simpa using hown
    obtain ⟨A', c', rfl⟩ := shape v w ho
    exact ⟨A', c', w, hr, ho, grown_refl _ _⟩
  · have hnews : ∀ j u, news[j]? = some u → w.cell? (ad.add j) = some u := by
      intro j u hu
      rcases Nat.eq_zero_or_pos m with h0 | h0
      · subst h0
        have hn : news = [] := List.eq_nil_of_length_eq_zero (by simpa using hl)
        subst hn
        simp at hu
      · obtain ⟨ad', h, hcell⟩ := hc h0
        injection h with h
        subst h
        exact hcell j u hu
    obtain ⟨v', w', hr, h2, h3, _⟩ := run_append_own (P := P) w base t ty e i z size bytes ht hi hz hsize hby hzs hsz v n xs hown ad m c news hl hnews h1 h63 hbytes hbase
    obtain ⟨A', c', rfl⟩ := shape v' w' h2
    exact ⟨A', c', w', hr, h2, h3⟩

section
variable {κ : Type} {cm : κ → κ → Int} (O : Ord cm)
include O
theorem names_ext : ∀ (a b : List κ), a.Pairwise (fun x y => cm x y < 0) → b.Pairwise (fun x y => cm x y < 0) → (∀ x, x ∈ a ↔ x ∈ b) → a = b
  | [], [], _, _, _ => rfl
  | [], y :: b, _, _, h => absurd ((h y).2 List.mem_cons_self) (by simp)
  | x :: a, [], _, _, h => absurd ((h x).1 List.mem_cons_self) (by simp)
  | x :: a, y :: b, ha, hb, h => by
    obtain ⟨ha1, ha2⟩ := List.pairwise_cons.1 ha
    obtain ⟨hb1, hb2⟩ := List.pairwise_cons.1 hb
    have hxy : x = y := by
      rcases List.mem_cons.1 ((h x).1 List.mem_cons_self) with h1 | h1
      · exact h1
      · rcases List.mem_cons.1 ((h y).2 List.mem_cons_self) with h2 | h2
        · exact h2.symm
        · have h3 := hb1 x h1
          have h4 := ha1 y h2
          have := O.trans _ _ _ h3 h4
          rw [O.refl] at this
          omega
    subst hxy
    have irr : ∀ z, cm z z < 0 → False := fun z hz => by rw [O.refl] at hz; omega
    congr 1
    refine names_ext a b ha2 hb2 (fun z => ⟨fun hz => ?_, fun hz => ?_⟩)
    · rcases List.mem_cons.1 ((h z).1 (List.mem_cons_of_mem _ hz)) with h1 | h1
      · subst h1; exact (irr z (ha1 z hz)).elim
      · exact h1
    · rcases List.mem_cons.1 ((h z).2 (List.mem_cons_of_mem _ hz)) with h1 | h1
      · subst h1; exact (irr z (hb1 z hz)).elim
      · exact h1
omit O in
theorem srt_names {υ : Type} {ps : List (κ × υ)} (hs : Srt cm ps) : (ps.map (·.1)).Pairwise (fun x y => cm x y < 0) := List.pairwise_map.2 hs
end

theorem text_above {a b : ByteArray} (h : Cmp.cmpS a b < 0) : Op.bytesLess b.toList a.toList = false ∧ (b.toList == a.toList) = false := by
  have h1 := Cmp.cmpS_neg.1 h
  constructor
  · cases h2 : Op.bytesLess b.toList a.toList with
    | false => rfl
    | true =>
      have := Cmp.bl_trans _ _ _ h1 h2
      rw [Cmp.bl_irrefl] at this
      cases this
  · cases h2 : (b.toList == a.toList) with
    | false => rfl
    | true =>
      have e : b.toList = a.toList := by simpa using h2
      rw [e, Cmp.bl_irrefl] at h1
      cases h1
end Go.Proofs.Ytnijiimljpbgpaa.Kit
