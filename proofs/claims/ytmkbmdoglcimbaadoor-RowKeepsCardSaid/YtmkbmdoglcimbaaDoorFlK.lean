/-
  The five flags' table in memory: what the laid variable gives every walk, and that it stays.
-/
import Derived.Test.YtmkbmdoglcimbaaDoorRows
import Derived.Below
import Derived.Lib.Hide
import Derived.Laws.Rows
import Derived.OpenShut
import Derived.ProofKit
import Derived.KernelRfl
import Derived.LaidMore
namespace Go.Proofs.YtmkbmdoglcimbaaDoor.FlK
open Go.RowKit

def nAnswered : ByteArray := ⟨#[92, 65, 110, 115, 119, 101, 114, 101, 100]⟩
def nFlagged : ByteArray := ⟨#[92, 70, 108, 97, 103, 103, 101, 100]⟩
def nDeleted : ByteArray := ⟨#[92, 68, 101, 108, 101, 116, 101, 100]⟩
def nSeen : ByteArray := ⟨#[92, 83, 101, 101, 110]⟩
def nDraft : ByteArray := ⟨#[92, 68, 114, 97, 102, 116]⟩
/-- The k-th flag's bit and name. -/
def bitAt (k : Nat) : Int := ((1 <<< k : Nat) : Int)
def nameAt (k : Nat) : ByteArray := match k with | 0 => nAnswered | 1 => nFlagged | 2 => nDeleted | 3 => nSeen | _ => nDraft
def cells : Array Value := #[.int .i64 1, .string nAnswered, .int .i64 2, .string nFlagged, .int .i64 4, .string nDeleted, .int .i64 8, .string nSeen, .int .i64 16, .string nDraft]
/-- The table as the program lays it. -/
def Names (w : World) : Prop := ∃ t fr, w.heap[0]? = some (.cells cells t fr)
set_option maxRecDepth 100000 in
theorem Names.size {w : World} (h : Names w) : 0 < w.heap.size := by
  obtain ⟨t, fr, h⟩ := h
  exact (Array.getElem?_eq_some_iff.1 h).1
set_option maxRecDepth 100000 in
theorem Names.below {B : Nat} {w w' : World} (h : Names w) (hb : Below B w w') (hB : 0 < B) : Names w' := by
  obtain ⟨t, fr, h⟩ := h
  exact ⟨t, fr, by rw [hb.block 0 hB]; exact h⟩

def laid : List (String × DataW Unit) := [("mailsack/flag.flagNames", Rows.laid_mailsack_flag_flagNames)]
set_option maxRecDepth 100000 in
theorem gNames : Tryd.prog.globalNamed "mailsack/flag.flagNames" = some 0 := by kernel_rfl
set_option maxRecDepth 100000 in
theorem tNames : (Tryd.prog.globals[0]?).map (·.type) = some 120 := by kernel_rfl

set_option maxRecDepth 100000 in
theorem names_of_laid {W : World} (h : laidMetH Tryd.prog laid W) : Names W := by
  rw [MakeChecks.laidMetH_plain _ _ _ (by kernel_rfl)] at h
  obtain ⟨ps, ⟨g, t, cs, fuel, p, q, hg, ht, hv, hd, _, _⟩, _, _⟩ := h
  obtain rfl := Option.some.inj (gNames.symm.trans hg)
  obtain rfl := Option.some.inj (tNames.symm.trans ht)
  have hcs : cs = cells := by
    obtain ⟨xs, m, rfl, hx, hlen, hn, hel⟩ := DataW.trod_array Tryd.underlying120 hd
    have c39 : Tryd.prog.cellsOf 119 = 2 := by kernel_rfl
    have c40 : Tryd.prog.cellsOf 120 = 10 := by kernel_rfl
    have c3 : Tryd.prog.cellsOf 3 = 1 := by kernel_rfl
    have c9 : Tryd.prog.cellsOf 9 = 1 := by kernel_rfl
    rw [c40] at hlen
    simp only [c39] at hel
    obtain ⟨l⟩ := cs
    simp only [Prod.mk.injEq] at hx
    have hx1 := hx.1
    unfold Rows.laid_mailsack_flag_flagNames at hx1
    simp only [DataW.agg.injEq] at hx1
    match l, hlen with
    | [c0, c1, c2, c3', c4, c5, c6, c7, c8, c9'], _ =>
    match xs, hn with
    | [x0, x1, x2, x3, x4], _ =>
    simp only [List.map_cons, List.map_nil, List.cons.injEq, and_true] at hx1
    obtain ⟨e0, e1, e2, e3, e4⟩ := hx1
    have one : ∀ (a b : Value) (x : DataW Unit × List MemPlace) (n : Int) (s : List UInt8), DataW.trod (fun _ => ()) Tryd.prog W 0 (fun _ => true) false m 119 [a, b] = some x → .agg [.lit (.int .i64 n), .lit (.string s)] = x.1 →
        a = .int .i64 n ∧ ∃ z : ByteArray, b = .string z ∧ z.data.toList = s := by
      intro a b x n s hx he
      obtain ⟨ys, m', rfl, hy, hly, hny, hey⟩ := DataW.trod_struct Tryd.underlying119 hx
      subst hy
      simp at hny
      match ys, hny with
      | [y0, y1], _ =>
      simp only [List.map_cons, List.map_nil, DataW.agg.injEq, List.cons.injEq, and_true] at he
      have h0 := hey 0 _ rfl
      have h1 := hey 1 _ rfl
      simp [c3, c9] at h0 h1
      obtain ⟨k, ek, hk, _⟩ := DataW.trod_int Tryd.underlying3 h0
      obtain ⟨z, ez, hz, _⟩ := DataW.trod_string Tryd.underlying9 h1
      simp at ek ez
      rw [hk, hz] at he
      simp at he
      exact ⟨by rw [ek, he.1], z, ez, he.2.symm⟩
    have h0 := one _ _ _ _ _ (hel 0 (by decide)) e0
    have h1 := one _ _ _ _ _ (hel 1 (by decide)) e1
    have h2 := one _ _ _ _ _ (hel 2 (by decide)) e2
    have h3 := one _ _ _ _ _ (hel 3 (by decide)) e3
    have h4 := one _ _ _ _ _ (hel 4 (by decide)) e4
    have sz : ∀ (z : ByteArray) (l : List UInt8), z.data.toList = l → z = ⟨l.toArray⟩ := by
      rintro ⟨⟨l⟩⟩ l' rfl; rfl
    obtain ⟨rfl, z0, rfl, hz0⟩ := h0
    obtain ⟨rfl, z1, rfl, hz1⟩ := h1
    obtain ⟨rfl, z2, rfl, hz2⟩ := h2
    obtain ⟨rfl, z3, rfl, hz3⟩ := h3
    obtain ⟨rfl, z4, rfl, hz4⟩ := h4
    rw [sz _ _ hz0, sz _ _ hz1, sz _ _ hz2, sz _ _ hz3, sz _ _ hz4]
    rfl
  subst hcs
  unfold World.var? at hv
  rw [gNames] at hv
  simp only [Option.bind_some] at hv
  split at hv
  · rename_i cs t fr hh
    injection hv with hv
    subst hv
    exact ⟨_, _, hh⟩
  · cases hv
end Go.Proofs.YtmkbmdoglcimbaaDoor.FlK
