/-
  Fixed: four bytes; by the program, and by the document's own answer.
-/
import Derived.Test.YthbilcadifbaeaaDoorPkB
namespace Go.Proofs.YthbilcadifbaeaaDoor.PkC
open Go.RowKit Go.Proofs.YthbilcadifbaeaaDoor.PkKit Go.Proofs.YthbilcadifbaeaaDoor.PkA Go.Proofs.YthbilcadifbaeaaDoor.PkB

/-- Four bytes of a number. -/
def fx (m : Nat) : List UInt8 := [(m / 16777216 % 256).toUInt8, (m / 65536 % 256).toUInt8, (m / 256 % 256).toUInt8, (m % 256).toUInt8]
def mx (x : Int) : Nat := (max x 0).toNat
set_option maxRecDepth 100000 in
theorem by_single {c : Nat} (h : c < 256) : by_ [c.toUInt8] = [Value.int .u8 (c : Int)] := by
  have := Lib.byteCells_snoc [] h
  simpa [Lib.byteCells] using this
set_option maxRecDepth 100000 in
theorem by_fx (m : Nat) : by_ (fx m) = [.int .u8 ((m : Int) / 16777216 % 256), .int .u8 ((m : Int) / 65536 % 256), .int .u8 ((m : Int) / 256 % 256), .int .u8 ((m : Int) % 256)] := by
  have e : ∀ k : Nat, (((m / k % 256 : Nat)) : Int) = (m : Int) / (k : Int) % 256 := fun k => by omega
  unfold fx
  rw [show ([(m / 16777216 % 256).toUInt8, (m / 65536 % 256).toUInt8, (m / 256 % 256).toUInt8, (m % 256).toUInt8] : List UInt8) = [(m / 16777216 % 256).toUInt8] ++ ([(m / 65536 % 256).toUInt8] ++ ([(m / 256 % 256).toUInt8] ++ [(m % 256).toUInt8])) from rfl,
    by_append, by_append, by_append, by_single (by omega), by_single (by omega), by_single (by omega), by_single (by omega)]
  simp only [List.cons_append, List.nil_append, Int.natCast_emod, Int.natCast_ediv]
  rfl

set_option maxRecDepth 100000 in
theorem fx_at (m : Nat) : (fx m)[0]? = some (m / 16777216 % 256).toUInt8 ∧ (fx m)[1]? = some (m / 65536 % 256).toUInt8 ∧ (fx m)[2]? = some (m / 256 % 256).toUInt8 ∧ (fx m)[3]? = some (m % 256).toUInt8 := ⟨rfl, rfl, rfl, rfl⟩
set_option maxRecDepth 100000 in
theorem by_int {c : Nat} {x : Int} (h : c < 256) (hx : x = c) : by_ [c.toUInt8] = [Value.int .u8 x] := by rw [hx]; exact by_single h
set_option maxHeartbeats 4000000 in
set_option maxRecDepth 100000 in
theorem fixed_any {w : World} {B n cp : Nat} {A : Option Addr} {l : List UInt8} (h : BytesAt w B A n l) (hB : B ≤ w.heap.size) (x : Int) (hn : n + 16 ≤ 140737488355328) :
    Calls Tryd.prog 133 #[.slice A n cp, .int .i64 x] w (Gives w.heap.size w (l ++ fx (mx x))) := by
  have hx : (x < 0 ∧ mx x = 0) ∨ (x = 0 ∧ mx x = 0) ∨ (x = ((mx x : Nat) : Int) ∧ 0 < (mx x : Int)) := by unfold mx; omega
  obtain ⟨m, hm⟩ : ∃ m, m = mx x := ⟨_, rfl⟩
  rw [← hm] at hx ⊢
  have hl := h.1
  have C := copied_any (cp := cp) h hB (m := 4) (by omega)
  rw [show (((4 : Nat) : Int)) = 4 from rfl] at C
  have HC := Lib.hid C
  have HL := Lib.hid hl
  clear C hl h hm
  rcases hx with ⟨hx, hm0⟩ | ⟨hx, hm0⟩ | ⟨hm0, hx⟩ <;>
  · have HM := Lib.hid hm0
    try subst x
    try clear hm0
    go_enter Tryd.func133, Tryd.ntmps133
    go_wp2_with fail
    refine HC.out.mono ?_
    rintro e w1 ⟨v1, rfl, O1⟩
    rw [HL.out] at O1
    have O1 := Lib.hid O1
    go_wp2_with fail
    go_loopw [0, 5] (fun s0 s5 wr => ∃ (v' : Value) (k : Nat), s0 = v' ∧ k ≤ 4 ∧ s5 = .int .i64 (3 - (k : Int)) ∧ Hid (OB w.heap.size w wr (n + k) v' (l ++ (fx m).take k))) (fun _ s5 _ => (intOf s5 + 1).toNat)
    case atStart => exact ⟨_, 0, rfl, by omega, rfl, by rw [List.take_zero, List.append_nil]; exact O1.out⟩
    case round =>
      clear O1
      obtain ⟨v', k, rfl, hk, rfl, HO⟩ := hrel
      obtain ⟨A, cp, rfl, hcp⟩ := own_slice HO.out.own
      by_cases h4 : k = 4
      · subst h4
        go_wp2_with fail
        go_ret
        exact gives_of HO.out
      · obtain ⟨e0, e1, e2, e3⟩ := fx_at m
        have hk4 : k = 0 ∨ k = 1 ∨ k = 2 ∨ k = 3 := by omega
        obtain ⟨c, hc, hfc⟩ : ∃ c : Nat, c < 256 ∧ (fx m)[k]? = some c.toUInt8 ∧ (c : Int) = (m : Int) / 2 ^ (8 * (3 - k)) % 256 := by
          rcases hk4 with rfl | rfl | rfl | rfl
          · exact ⟨_, by omega, e0, by omega⟩
          · exact ⟨_, by omega, e1, by omega⟩
          · exact ⟨_, by omega, e2, by omega⟩
          · exact ⟨_, by omega, e3, by omega⟩
        have hsn : (fx m).take (k + 1) = (fx m).take k ++ [c.toUInt8] := by
          obtain ⟨hl, e⟩ := List.getElem?_eq_some_iff.1 hfc.1
          rw [List.take_succ_eq_append_getElem hl, e]
        have HSN := Lib.hid hsn
        clear e0 e1 e2 e3 hsn
        rcases hk4 with rfl | rfl | rfl | rfl <;>
        · have hby := by_int hc hfc.2.symm
          try rw [HM.out] at hby
          simp only [Nat.sub_zero, Nat.reduceSub, Nat.reduceMul, Int.reducePow, Int.pow_zero, Int.ediv_one, Int.natCast_zero, Int.zero_ediv, Int.zero_emod] at hby
          have HBY := Lib.hid hby
          clear hby hc hfc HM
          go_wp2_with (at_builtin; refine wpList_by rfl _ _ rfl rfl rfl (HO.out.own.alloc _) (bytesAt_new wr [c.toUInt8] rfl (Nat.lt_succ_self _) rfl HBY.out.symm) (by omega) (Nat.le_trans (Nat.le_trans HO.out.bas HO.out.bel.size) (by simp)) ?_; intro v3 w3 hown3 hg3 hat3)
          go_roundw
          case rel => first | exact ⟨v3, 0 + 1, rfl, by omega, by go_num, by rw [HSN.out]; exact (HO.out.alloc _).app (by rw [← List.append_assoc, by_append]; exact hown3) hg3⟩ | exact ⟨v3, 1 + 1, rfl, by omega, by go_num, by rw [HSN.out]; exact (HO.out.alloc _).app (by rw [← List.append_assoc, by_append]; exact hown3) hg3⟩ | exact ⟨v3, 2 + 1, rfl, by omega, by go_num, by rw [HSN.out]; exact (HO.out.alloc _).app (by rw [← List.append_assoc, by_append]; exact hown3) hg3⟩ | exact ⟨v3, 3 + 1, rfl, by omega, by go_num, by rw [HSN.out]; exact (HO.out.alloc _).app (by rw [← List.append_assoc, by_append]; exact hown3) hg3⟩
          case measure => simp [intOf]
end Go.Proofs.YthbilcadifbaeaaDoor.PkC
