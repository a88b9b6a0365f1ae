/-
  Numbers in so many bytes read; a reader that there isn't.
-/
import Derived.Test.YthbilcadifbaeaaDoorPkF
namespace Go.Proofs.YthbilcadifbaeaaDoor.PkG
open Go.RowKit Go.Proofs.YthbilcadifbaeaaDoor.PkKit Go.Proofs.YthbilcadifbaeaaDoor.PkA Go.Proofs.YthbilcadifbaeaaDoor.PkC Go.Proofs.YthbilcadifbaeaaDoor.PkD Go.Proofs.YthbilcadifbaeaaDoor.PkE Go.Proofs.YthbilcadifbaeaaDoor.PkF

/-- Bytes as a number, the highest one first. -/
def be (l : List UInt8) : Nat := l.foldl (fun a c => a * 256 + c.toNat) 0
set_option maxRecDepth 100000 in
theorem be_snoc (l : List UInt8) (c : UInt8) : be (l ++ [c]) = be l * 256 + c.toNat := by simp [be, List.foldl_append]
set_option maxRecDepth 100000 in
theorem be_lt : ∀ (k : Nat) (l : List UInt8), l.length = k → be l < 256 ^ k := by
  intro k
  induction k with
  | zero => intro l h; rw [List.eq_nil_of_length_eq_zero h]; decide
  | succ k ih =>
    intro l h
    have hne : l ≠ [] := by intro e; rw [e] at h; cases h
    have e := List.dropLast_concat_getLast hne
    have h1 := ih l.dropLast (by rw [List.length_dropLast, h]; rfl)
    have h2 := (l.getLast hne).toNat_lt
    rw [← e, be_snoc, Nat.pow_succ]
    omega
set_option maxRecDepth 100000 in
theorem be_fx (m : Nat) : be (fx m) = m % 4294967296 := by
  unfold be fx
  simp only [List.foldl_cons, List.foldl_nil, toNat_u8 (show m / 16777216 % 256 < 256 by omega), toNat_u8 (show m / 65536 % 256 < 256 by omega), toNat_u8 (show m / 256 % 256 < 256 by omega), toNat_u8 (show m % 256 < 256 by omega)]
  omega
set_option maxRecDepth 100000 in
theorem or_low {X : Nat} {c : UInt8} (hX : X < 16777216) : bits .or .i64 ((X : Int) * 256) (c.toNat : Int) = ((X * 256 + c.toNat : Nat) : Int) := by
  have hc := c.toNat_lt
  rw [show (X : Int) * 256 = ((X * 256 : Nat) : Int) by omega, (bits_nat .i64 62 (by decide) i64_small (X * 256) c.toNat (by omega) (by omega)).2]
  congr 1
  have := Nat.two_pow_add_eq_or_of_lt (i := 8) (b := c.toNat) (by omega) X
  rw [show X * 256 = 2 ^ 8 * X by omega, ← this]

def NumK (w : World) (T : Nat) (l : List UInt8) (k : Nat) (e : Ending) (w' : World) : Prop := e = .returned (.int .i64 (be (l.take k) : Nat)) ∧ RD w' T (l.drop k) 0 ∧ w.grownBy w' (some T)
set_option maxHeartbeats 4000000 in
set_option maxRecDepth 100000 in
theorem numk_any {w : World} {T k : Nat} {l : List UInt8} (h : RD w T l 0) (hk : k ≤ l.length) (hk4 : k ≤ 4) : Calls Tryd.prog 155 #[ptr T, .int .i64 (k : Nat)] w (NumK w T l k) := by
  have HT := Lib.hid (take_any h hk)
  have hll : (l.take k).length = k := by rw [List.length_take]; omega
  have HLL := Lib.hid hll
  clear h hk hll
  go_enter Tryd.func155, Tryd.ntmps155
  go_wp2_with fail
  refine HT.out.mono ?_
  rintro e w1 ⟨A, cp, rfl, hcp, hb, hr, hg⟩
  have HB := Lib.hid hb
  have HR := Lib.hid hr
  have HG := Lib.hid hg
  clear hb hr hg
  go_wp2_with fail
  go_loop [5, 12] (fun s5 s12 => ∃ (i X : Nat), i ≤ k ∧ s12 = .int .i64 i ∧ s5 = .int .i64 X ∧ Hid (X = be ((l.take k).take i))) (fun _ s12 => k - (intOf s12).toNat)
  case atStart => exact ⟨0, 0, by omega, rfl, rfl, rfl⟩
  case round =>
    obtain ⟨i, X, hi, rfl, rfl, HX⟩ := hrel
    by_cases hlt : i < k
    · obtain ⟨ad, c, rfl, hc, hcell⟩ := HB.out.at_ hlt
      have hx : X < 16777216 := by
        have h1 := be_lt i ((l.take k).take i) (by rw [List.length_take, HLL.out]; omega)
        have h2 : 256 ^ i ≤ 256 ^ 3 := Nat.pow_le_pow_right (by decide) (by omega)
        rw [HX.out]
        omega
      have hor := or_low (c := c) hx
      have hcl := c.toNat_lt
      have hsn : be ((l.take k).take (i + 1)) = X * 256 + c.toNat := by
        obtain ⟨hl, e⟩ := List.getElem?_eq_some_iff.1 hc
        rw [List.take_succ_eq_append_getElem hl, e, be_snoc, ← HX.out]
      have HSN := Lib.hid hsn
      clear hsn hc
      go_wp2_with fail
      go_round
      case rel => exact ⟨i + 1, X * 256 + c.toNat, by omega, by go_num, rfl, HSN.out.symm⟩
      case measure => simp [intOf]; omega
    · obtain rfl : i = k := by omega
      have hx : X = be (l.take i) := by rw [HX.out, List.take_take, Nat.min_self]
      subst hx
      go_wp2_with fail
      go_ret
      exact ⟨rfl, HR.out, HG.out⟩
set_option maxRecDepth 100000 in
set_option maxHeartbeats 1000000 in
theorem numk_short {w : World} {T k : Nat} {l : List UInt8} (h : RD w T l 0) (hk : l.length < k) : Calls Tryd.prog 155 #[ptr T, .int .i64 (k : Nat)] w fun e w' => e = .returned (.int .i64 0) ∧ RD w' T l 2 ∧ w.grownBy w' (some T) := by
  have HT := Lib.hid (take_short h hk)
  clear h hk
  go_enter Tryd.func155, Tryd.ntmps155
  go_wp2_with fail
  refine HT.out.mono ?_
  rintro e w1 ⟨rfl, hr, hg⟩
  have HR := Lib.hid hr
  have HG := Lib.hid hg
  clear hr hg
  go_wp2_with fail
  go_loop [5, 12] (fun s5 s12 => s12 = .int .i64 0 ∧ s5 = .int .i64 0) (fun _ _ => 0)
  case atStart => exact ⟨rfl, rfl⟩
  case round =>
    obtain ⟨rfl, rfl⟩ := hrel
    go_wp2_with fail
    go_ret
    exact ⟨rfl, HR.out, HG.out⟩
set_option maxRecDepth 100000 in
set_option maxHeartbeats 1000000 in
theorem numk_bad {w : World} {T er : Nat} {l : List UInt8} (h : RD w T l er) (he : er ≠ 0) (x : Int) : Calls Tryd.prog 155 #[ptr T, .int .i64 x] w fun e w' => e = .returned (.int .i64 0) ∧ w = w' := by
  have HT := Lib.hid (take_bad h he x)
  clear h he
  go_enter Tryd.func155, Tryd.ntmps155
  go_wp2_with fail
  refine HT.out.mono ?_
  rintro e w1 ⟨rfl, rfl⟩
  go_wp2_with fail
  go_loop [5, 12] (fun s5 s12 => s12 = .int .i64 0 ∧ s5 = .int .i64 0) (fun _ _ => 0)
  case atStart => exact ⟨rfl, rfl⟩
  case round =>
    obtain ⟨rfl, rfl⟩ := hrel
    go_wp2_with fail
    go_ret
    exact ⟨rfl, rfl⟩
set_option maxRecDepth 100000 in
theorem fixed_any {w : World} {T : Nat} {l : List UInt8} (h : RD w T l 0) (hk : 4 ≤ l.length) : Calls Tryd.prog 138 #[ptr T] w (NumK w T l 4) := by
  have HT := Lib.hid (numk_any (k := 4) h hk (Nat.le_refl _))
  clear h hk
  go_enter Tryd.func138, Tryd.ntmps138
  go_wp2_with fail
  refine HT.out.mono ?_
  rintro e w1 ⟨rfl, hr⟩
  go_wp2_with fail
  go_ret
  exact ⟨rfl, hr⟩
set_option maxRecDepth 100000 in
theorem byte_any {w : World} {T : Nat} {l : List UInt8} (h : RD w T l 0) (hk : 1 ≤ l.length) : Calls Tryd.prog 158 #[ptr T] w (NumK w T l 1) := by
  have HT := Lib.hid (numk_any (k := 1) h hk (by decide))
  clear h hk
  go_enter Tryd.func158, Tryd.ntmps158
  go_wp2_with fail
  refine HT.out.mono ?_
  rintro e w1 ⟨rfl, hr⟩
  go_wp2_with fail
  go_ret
  exact ⟨rfl, hr⟩

/-! A reader that there isn't. -/
set_option maxRecDepth 100000 in
theorem err_nil (w : World) : Calls Tryd.prog 143 #[.pointer none] w fun e w' => e = .returned (.int .i64 1) ∧ w = w' := by
  go_enter Tryd.func143, Tryd.ntmps143
  go_wp2_with fail
  go_ret
  exact ⟨rfl, rfl⟩
set_option maxRecDepth 100000 in
theorem left_nil (w : World) : Calls Tryd.prog 104 #[.pointer none] w fun e w' => e = .returned (.int .i64 0) ∧ w = w' := by
  go_enter Tryd.func104, Tryd.ntmps104
  go_wp2_with fail
  go_ret
  exact ⟨rfl, rfl⟩
set_option maxRecDepth 100000 in
theorem num_nil (w : World) : Calls Tryd.prog 146 #[.pointer none] w fun e w' => e = .returned (.int .i64 0) ∧ w = w' := by
  go_enter Tryd.func146, Tryd.ntmps146
  go_wp2_with (go_at_call 143; refine (err_nil _).mono ?_; rintro e w' ⟨rfl, rfl⟩)
  go_ret
  exact ⟨rfl, rfl⟩
set_option maxRecDepth 100000 in
theorem text_nil (x : Int) (w : World) : Calls Tryd.prog 141 #[.pointer none, .int .i64 x] w fun e w' => e = .returned (.string ⟨#[]⟩) ∧ w = w' := by
  go_enter Tryd.func141, Tryd.ntmps141
  go_wp2_with (go_at_call 143; refine (err_nil _).mono ?_; rintro e w' ⟨rfl, rfl⟩)
  go_ret
  exact ⟨rfl, rfl⟩
set_option maxRecDepth 100000 in
theorem take_nil (x : Int) (w : World) : Calls Tryd.prog 157 #[.pointer none, .int .i64 x] w fun e w' => e = .returned (.slice none 0 0) ∧ w = w' := by
  go_enter Tryd.func157, Tryd.ntmps157
  go_wp2_with (go_at_call 143; refine (err_nil _).mono ?_; rintro e w' ⟨rfl, rfl⟩)
  go_ret
  exact ⟨rfl, rfl⟩
set_option maxRecDepth 100000 in
theorem numk_nil (x : Int) (w : World) : Calls Tryd.prog 155 #[.pointer none, .int .i64 x] w fun e w' => e = .returned (.int .i64 0) ∧ w = w' := by
  go_enter Tryd.func155, Tryd.ntmps155
  go_wp2_with (go_at_call 157; refine (take_nil _ _).mono ?_; rintro e w' ⟨rfl, rfl⟩)
  go_loop [5, 12] (fun s5 s12 => s12 = .int .i64 0 ∧ s5 = .int .i64 0) (fun _ _ => 0)
  case atStart => exact ⟨rfl, rfl⟩
  case round =>
    obtain ⟨rfl, rfl⟩ := hrel
    go_wp2_with fail
    go_ret
    exact ⟨rfl, rfl⟩
set_option maxRecDepth 100000 in
theorem fixed_nil (w : World) : Calls Tryd.prog 138 #[.pointer none] w fun e w' => e = .returned (.int .i64 0) ∧ w = w' := by
  go_enter Tryd.func138, Tryd.ntmps138
  go_wp2_with (go_at_call 155; refine (numk_nil _ _).mono ?_; rintro e w' ⟨rfl, rfl⟩)
  go_ret
  exact ⟨rfl, rfl⟩
set_option maxRecDepth 100000 in
theorem byte_nil (w : World) : Calls Tryd.prog 158 #[.pointer none] w fun e w' => e = .returned (.int .i64 0) ∧ w = w' := by
  go_enter Tryd.func158, Tryd.ntmps158
  go_wp2_with (go_at_call 155; refine (numk_nil _ _).mono ?_; rintro e w' ⟨rfl, rfl⟩)
  go_ret
  exact ⟨rfl, rfl⟩
set_option maxRecDepth 100000 in
theorem below_of_grown {base T : Nat} {w0 w w' : World} (h : Below base w0 w) (hg : w.grownBy w' (some T)) (hb : base ≤ w.heap.size) (hT : base ≤ T) : Below base w0 w' :=
  h.grown hg hb (fun k e => by injection e with e; omega)
end Go.Proofs.YthbilcadifbaeaaDoor.PkG
