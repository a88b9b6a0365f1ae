/-
  Numbers in so many bytes read; a reader that there isn't.
-/
import Derived.Test.YtdgcihgohkgecaaDoorPkF
namespace Go.Proofs.YtdgcihgohkgecaaDoor.PkG
open Go.RowKit Go.Proofs.YtdgcihgohkgecaaDoor.PkKit Go.Proofs.YtdgcihgohkgecaaDoor.PkA Go.Proofs.YtdgcihgohkgecaaDoor.PkC Go.Proofs.YtdgcihgohkgecaaDoor.PkD Go.Proofs.YtdgcihgohkgecaaDoor.PkE Go.Proofs.YtdgcihgohkgecaaDoor.PkF

/-- Bytes as a number, the highest one first. -/
def be (l : List UInt8) : Nat := l.foldl (fun a c => a * 256 + c.toNat) 0
set_option maxRecDepth 100000 in
theorem be_snoc (l : List UInt8) (c : UInt8) : be (l ++ [c]) = be l * 256 + c.toNat := by simp [be, List.foldl_append]
set_option maxRecDepth 100000 in
theorem be_lt : ∀ (k : Nat) (l : List UInt8), l.length = k → be l < 256 ^ k := by
  intro k
  induction k with
  | zero => intro l h; rw [List.eq_nil_of_length_eq_zero h]; decide
  | succ k ih =>
    intro l h
    have hne : l ≠ [] := by intro e; rw [e] at h; cases h
    have e := List.dropLast_concat_getLast hne
    have h1 := ih l.dropLast (by rw [List.length_dropLast, h]; rfl)
    have h2 := (l.getLast hne).toNat_lt
    rw [← e, be_snoc, Nat.pow_succ]
    omega
set_option maxRecDepth 100000 in
theorem be_fx (m : Nat) : be (fx m) = m % 4294967296 := by
  unfold be fx
  simp only [List.foldl_cons, List.foldl_nil, toNat_u8 (show m / 16777216 % 256 < 256 by omega), toNat_u8 (show m / 65536 % 256 < 256 by omega), toNat_u8 (show m / 256 % 256 < 256 by omega), toNat_u8 (show m % 256 < 256 by omega)]
  omega
set_option maxRecDepth 100000 in
theorem or_low {X : Nat} {c : UInt8} (hX : X < 16777216) : bits .or .i64 ((X : Int) * 256) (c.toNat : Int) = ((X * 256 + c.toNat : Nat) : Int) := by
  have hc := c.toNat_lt
  rw [show (X : Int) * 256 = ((X * 256 : Nat) : Int) by omega, (bits_nat .i64 62 (by decide) i64_small (X * 256) c.toNat (by omega) (by omega)).2]
  congr 1
  have := Nat.two_pow_add_eq_or_of_lt (i := 8) (b := c.toNat) (by omega) X
  rw [show X * 256 = 2 ^ 8 * X by omega, ← this]

def NumK (w : World) (T : Nat) (l : List UInt8) (k : Nat) (e : Ending) (w' : World) : Prop := e = .returned (.int .i64 (be (l.take k) : Nat)) ∧ RD w' T (l.drop k) 0 ∧ w.grownBy w' (some T)
/-! A reader that there isn't. -/
set_option maxRecDepth 100000 in
theorem err_nil (w : World) : Calls Tryd.prog 103 #[.pointer none] w fun e w' => e = .returned (.int .i64 1) ∧ w = w' := by
  go_enter Tryd.func103, Tryd.ntmps103
  go_wp2_with fail
  go_ret
  exact ⟨rfl, rfl⟩
set_option maxRecDepth 100000 in
theorem left_nil (w : World) : Calls Tryd.prog 81 #[.pointer none] w fun e w' => e = .returned (.int .i64 0) ∧ w = w' := by
  go_enter Tryd.func81, Tryd.ntmps81
  go_wp2_with fail
  go_ret
  exact ⟨rfl, rfl⟩
set_option maxRecDepth 100000 in
theorem num_nil (w : World) : Calls Tryd.prog 112 #[.pointer none] w fun e w' => e = .returned (.int .i64 0) ∧ w = w' := by
  go_enter Tryd.func112, Tryd.ntmps112
  go_wp2_with (go_at_call 103; refine (err_nil _).mono ?_; rintro e w' ⟨rfl, rfl⟩)
  go_ret
  exact ⟨rfl, rfl⟩
set_option maxRecDepth 100000 in
theorem text_nil (x : Int) (w : World) : Calls Tryd.prog 101 #[.pointer none, .int .i64 x] w fun e w' => e = .returned (.string ⟨#[]⟩) ∧ w = w' := by
  go_enter Tryd.func101, Tryd.ntmps101
  go_wp2_with (go_at_call 103; refine (err_nil _).mono ?_; rintro e w' ⟨rfl, rfl⟩)
  go_ret
  exact ⟨rfl, rfl⟩
set_option maxRecDepth 100000 in
theorem take_nil (x : Int) (w : World) : Calls Tryd.prog 114 #[.pointer none, .int .i64 x] w fun e w' => e = .returned (.slice none 0 0) ∧ w = w' := by
  go_enter Tryd.func114, Tryd.ntmps114
  go_wp2_with (go_at_call 103; refine (err_nil _).mono ?_; rintro e w' ⟨rfl, rfl⟩)
  go_ret
  exact ⟨rfl, rfl⟩
set_option maxRecDepth 100000 in
theorem below_of_grown {base T : Nat} {w0 w w' : World} (h : Below base w0 w) (hg : w.grownBy w' (some T)) (hb : base ≤ w.heap.size) (hT : base ≤ T) : Below base w0 w' :=
  h.grown hg hb (fun k e => by injection e with e; omega)
end Go.Proofs.YtdgcihgohkgecaaDoor.PkG
