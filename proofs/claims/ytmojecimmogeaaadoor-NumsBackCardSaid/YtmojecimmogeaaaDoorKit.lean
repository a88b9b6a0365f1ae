/-
  The table of powers in memory; slices of spans and of ints that came in: their cells lie among what was there, and they stay as long as nothing turns there.
-/
import Derived.Test.YtmojecimmogeaaaDoorRows
import Derived.Below
import Derived.Lib.Hide
import Derived.Lib.LaidTab
import Derived.Lib.ItoaNum
import Derived.Lib.SmallJoins
import Derived.Stop.LaidErr
import Derived.MakeChecks
import Derived.Deep.Draws
import Derived.KernelRfl
namespace Go.Proofs.YtmojecimmogeaaaDoor.Kit
open Go.RowKit

def laid : List (String × DataW Unit) := [("math/bits.deBruijn32tab", Rows.laid_math_bits_deBruijn32tab), ("math/bits.deBruijn64tab", Rows.laid_math_bits_deBruijn64tab), ("internal/strconv.uint64pow10", Rows.laid_internal_strconv_uint64pow10)]
/-- The powers of ten as the program lays them. -/
def Tab (w : World) : Prop := Lib.TabIs Tryd.prog w "internal/strconv.uint64pow10" .u64 Lib.pow10Tab
theorem gPow : Tryd.prog.globalNamed "internal/strconv.uint64pow10" = some 1 := by kernel_rfl
theorem tPow : (Tryd.prog.globals[1]?).map (·.type) = some 97 := by kernel_rfl
theorem c97 : Tryd.prog.cellsOf 97 = 20 := by kernel_rfl
theorem c35 : Tryd.prog.cellsOf 35 = 1 := by kernel_rfl
theorem powData : Rows.laid_internal_strconv_uint64pow10 (H := Unit) = Lib.tabData .u64 Lib.pow10Tab := by kernel_rfl
theorem tab_of_laid {W : World} (h : laidMetH Tryd.prog laid W) : Tab W := by
  rw [MakeChecks.laidMetH_plain _ _ _ (by kernel_rfl)] at h
  have h2 := (laidMet.tail (laidMet.tail h))
  rw [powData] at h2
  exact Lib.tabIs_of_head gPow tPow Tryd.underlying97 Tryd.underlying35 c35 c97 h2
theorem Tab.below {B : Nat} {w w' : World} (h : Tab w) (hb : Below B w w') (hB : w.heap.size ≤ B) : Tab w' := _root_.Go.Joins.tab_stays gPow h hb hB

theorem below_drewN {B : Nat} {a w : World} (h : Below B a w) (n : Nat) : Below B a (w.drewN n) := ⟨h.os, h.tape, h.output, h.size, h.block⟩

theorem add_block (a : Addr) (j : Nat) : (a.add j).block = a.block := by unfold Addr.add; split <;> rfl
theorem add_add (a : Addr) (i j : Nat) : (a.add i).add j = a.add (i + j) := by
  unfold Addr.add
  by_cases hi : i = 0 <;> by_cases hj : j = 0 <;> simp [hi, hj, Nat.add_assoc]

abbrev Sp : Type := Int × Int
/-- A slice of ints that came in. -/
def IntsAt (w : World) (A : Option Addr) (n : Nat) (zs : List Int) : Prop :=
  zs.length = n ∧ (0 < n → ∃ ad, A = some ad ∧ ad.block < w.heap.size ∧ ∀ j z, zs[j]? = some z → w.cell? (ad.add j) = some (.int .i64 z))
/-- A slice of spans that came in. -/
def SpansAt (w : World) (A : Option Addr) (n : Nat) (zs : List Sp) : Prop :=
  zs.length = n ∧ (0 < n → ∃ ad, A = some ad ∧ ad.block < w.heap.size ∧ ∀ j z, zs[j]? = some z → w.cell? (ad.add (j * 2)) = some (.int .i64 z.1) ∧ w.cell? (ad.add (j * 2 + 1)) = some (.int .i64 z.2))

theorem IntsAt.at_ {w wr : World} {A : Option Addr} {n B : Nat} {zs : List Int} (h : IntsAt w A n zs) (hb : Below B w wr) (hB : w.heap.size ≤ B) {j : Nat} (hj : j < n) :
    ∃ ad x, A = some ad ∧ zs[j]? = some x ∧ wr.cell? (ad.add j) = some (.int .i64 x) := by
  obtain ⟨hl, hc⟩ := h
  obtain ⟨ad, rfl, hlt, hcell⟩ := hc (by omega)
  refine ⟨ad, zs[j]'(by omega), rfl, List.getElem?_eq_getElem (by omega), ?_⟩
  rw [hb.cell (p := ad.add j) (by rw [add_block]; omega)]
  exact hcell j _ (List.getElem?_eq_getElem (by omega))
theorem SpansAt.at_ {w wr : World} {A : Option Addr} {n B : Nat} {zs : List Sp} (h : SpansAt w A n zs) (hb : Below B w wr) (hB : w.heap.size ≤ B) {j : Nat} (hj : j < n) :
    ∃ ad x y, A = some ad ∧ zs[j]? = some (x, y) ∧ wr.cell? (ad.add (j * 2)) = some (.int .i64 x) ∧ wr.cell? (ad.add (j * 2 + 1)) = some (.int .i64 y) := by
  obtain ⟨hl, hc⟩ := h
  obtain ⟨ad, rfl, hlt, hcell⟩ := hc (by omega)
  refine ⟨ad, (zs[j]'(by omega)).1, (zs[j]'(by omega)).2, rfl, List.getElem?_eq_getElem (by omega), ?_⟩
  rw [hb.cell (p := ad.add (j * 2)) (by rw [add_block]; omega), hb.cell (p := ad.add (j * 2 + 1)) (by rw [add_block]; omega)]
  exact hcell j _ (List.getElem?_eq_getElem (by omega))
theorem add_two (a : Addr) (j : Nat) : a.add (j * 2 + 1) = { block := (a.add (j * 2)).block, off := (a.add (j * 2)).off + 1 } := by
  unfold Addr.add
  by_cases hj : j * 2 = 0
  · simp [hj]
  · simp [hj]; omega
/-- As the walk spells it. -/
theorem SpansAt.sp {w wr : World} {A : Option Addr} {n B : Nat} {zs : List Sp} (h : SpansAt w A n zs) (hb : Below B w wr) (hB : w.heap.size ≤ B) {j : Nat} (hj : j < n) :
    ∃ ad x y, A = some ad ∧ zs[j]? = some (x, y) ∧ wr.cell? (ad.add (j * 2)) = some (.int .i64 x) ∧ wr.cell? { block := (ad.add (j * 2)).block, off := (ad.add (j * 2)).off + 1 } = some (.int .i64 y) := by
  obtain ⟨ad, x, y, h1, h2, h3, h4⟩ := h.at_ hb hB hj
  exact ⟨ad, x, y, h1, h2, h3, by rw [← add_two]; exact h4⟩
theorem SpansAt.below {w wr : World} {A : Option Addr} {n : Nat} {zs : List Sp} (h : SpansAt w A n zs) (hb : Below w.heap.size w wr) : SpansAt wr A n zs := by
  refine ⟨h.1, fun hn => ?_⟩
  obtain ⟨ad, rfl, hlt, hc⟩ := h.2 hn
  exact ⟨ad, rfl, Nat.lt_of_lt_of_le hlt hb.size, fun j z hz => by rw [hb.cell (p := ad.add (j * 2)) (by rw [add_block]; exact hlt), hb.cell (p := ad.add (j * 2 + 1)) (by rw [add_block]; exact hlt)]; exact hc j z hz⟩

/-- The cells of spans. -/
def cells : List Sp → List Value
  | [] => []
  | p :: r => .int .i64 p.1 :: .int .i64 p.2 :: cells r
theorem cells_length : ∀ ps : List Sp, (cells ps).length = ps.length * 2
  | [] => rfl
  | p :: r => by simp [cells, cells_length r]; omega
theorem cells_append : ∀ ps qs : List Sp, cells (ps ++ qs) = cells ps ++ cells qs
  | [], _ => rfl
  | p :: r, qs => by simp [cells, cells_append r qs]
theorem cells_at : ∀ (ps : List Sp) (i : Nat) (p : Sp), ps[i]? = some p → (cells ps)[i * 2]? = some (.int .i64 p.1) ∧ (cells ps)[i * 2 + 1]? = some (.int .i64 p.2)
  | q :: r, 0, p, h => by simp at h; subst h; simp [cells]
  | q :: r, i + 1, p, h => by
    have := cells_at r i p (by simpa using h)
    rw [show (i + 1) * 2 = i * 2 + 1 + 1 by omega]
    simpa [cells] using this
theorem cells_one : ∀ (ps : List Sp) (v : Value), v ∈ cells ps → v.oneCell' = true
  | p :: r, v, h => by
    simp only [cells, List.mem_cons] at h
    rcases h with rfl | rfl | h
    · rfl
    · rfl
    · exact cells_one r v h

theorem own_form {w : World} {base n e s : Nat} {v : Value} {xs : List Value} (h : w.ownsRow base e s v n xs) (hn : 0 < n) : ∃ g cap, v = .slice (some ⟨g, 0, none⟩) n cap ∧ base ≤ g ∧ g < w.heap.size := by
  rcases h.2 with ⟨rfl, rfl⟩ | ⟨g, cap, cur, rfl, hb, hg, _⟩
  · omega
  · exact ⟨g, cap, rfl, hb, (Array.getElem?_eq_some_iff.1 hg).1⟩
theorem own_slice {w : World} {base n e s : Nat} {v : Value} {xs : List Value} (h : w.ownsRow base e s v n xs) : ∃ A cp, v = .slice A n cp ∧ n ≤ cp := by
  rcases h.2 with ⟨rfl, rfl⟩ | ⟨g, cap, cur, rfl, _, _, hnc, _⟩
  · exact ⟨_, _, rfl, Nat.le_refl _⟩
  · exact ⟨_, _, rfl, hnc⟩
/-- A row of the call's own, handed on. -/
theorem spansAt_own {w : World} {base n cp : Nat} {A : Option Addr} {zs : List Sp} (h : w.ownsRow base 32 2 (.slice A n cp) n (cells zs)) : SpansAt w A n zs := by
  have hl := h.1
  rw [cells_length] at hl
  refine ⟨by omega, fun hn => ?_⟩
  obtain ⟨g, cap, hv, _, hlt⟩ := own_form h hn
  have hA : A = some ⟨g, 0, none⟩ := by injection hv
  subst hA
  exact ⟨_, rfl, hlt, fun j z hz => ⟨h.cells (g := g) rfl _ _ (cells_at _ _ _ hz).1, h.cells (g := g) rfl _ _ (cells_at _ _ _ hz).2⟩⟩
theorem own_len {w : World} {base n : Nat} {v : Value} {zs : List Sp} (h : w.ownsRow base 32 2 v n (cells zs)) : zs.length = n := by
  have hl := h.1
  rw [cells_length] at hl
  omega
end Go.Proofs.YtmojecimmogeaaaDoor.Kit
