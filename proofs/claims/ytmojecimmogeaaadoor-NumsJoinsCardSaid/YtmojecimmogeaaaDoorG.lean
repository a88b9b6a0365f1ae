/-
  Parse: the text of a set is read as it was.
-/
import Derived.Test.YtmojecimmogeaaaDoorF
namespace Go.Proofs.YtmojecimmogeaaaDoor.G
open Go.RowKit Go.Proofs.YtmojecimmogeaaaDoor.Kit Go.Proofs.YtmojecimmogeaaaDoor.A Go.Proofs.YtmojecimmogeaaaDoor.B Go.Proofs.YtmojecimmogeaaaDoor.C Go.Proofs.YtmojecimmogeaaaDoor.D Go.Proofs.YtmojecimmogeaaaDoor.E Go.Proofs.YtmojecimmogeaaaDoor.F

def slen : Value → Nat | .slice _ n _ => n | _ => 0
theorem txt_nil : txt [] = [] := rfl
/-- What is cut off at the first comma. -/
theorem cut_part {zs : List Sp} {k : Nat} {z : Sp} (hz : zs[k]? = some z) (hl : (txt (zs.drop k)).length ≤ maxLen) (w : World) :
    Calls Tryd.prog 19 #[.string ⟨(txt (zs.drop k)).toArray⟩, .string ⟨#[44]⟩] w fun e w' => e = .returned (.tuple #[.string ⟨(spT z).toArray⟩, .string ⟨(txt (zs.drop (k + 1))).toArray⟩, .bool (decide (k + 1 < zs.length))]) ∧ Drawn w w' := by
  obtain ⟨hlt, rfl⟩ := List.getElem?_eq_some_iff.1 hz
  have hd : zs.drop k = zs[k] :: zs.drop (k + 1) := List.drop_eq_getElem_cons hlt
  by_cases hk : k + 1 < zs.length
  · rw [decide_eq_true hk]
    have hd2 : zs.drop (k + 1) = zs[k + 1] :: zs.drop (k + 2) := List.drop_eq_getElem_cons hk
    have e : txt (zs.drop k) = spT zs[k] ++ 44 :: txt (zs.drop (k + 1)) := by rw [hd, hd2, txt_cons]
    rw [e] at hl ⊢
    exact cut_hit _ _ 44 (spT_ne _) hl w
  · rw [decide_eq_false hk]
    have hd2 : zs.drop (k + 1) = [] := List.drop_eq_nil_of_le (by omega)
    rw [hd, hd2, txt_one, txt_nil]
    exact cut_miss _ 44 (spT_ne _) w

def PaPost (w : World) (n : Nat) (zs : List Sp) (e : Ending) (w' : World) : Prop :=
  ∃ A cp, e = .returned (.tuple #[.slice A n cp, .bool true]) ∧ OW w w' n (.slice A n cp) zs

set_option maxHeartbeats 2000000 in
set_option maxRecDepth 100000 in
theorem parse_any {zs : List Sp} {n : Nat} (h : mayB zs = true) (hn : zs.length = n) (w : World) :
    Calls Tryd.prog 11 #[.string ⟨(txt zs).toArray⟩] w (PaPost w n zs) := by
  have h20 := may_len h
  have hall := may_all h
  have hn1 : 0 < n := by omega
  have hn20 : (n : Int) ≤ 20 := by omega
  have HALL := Lib.hid hall
  have HL := Lib.hid hn
  obtain ⟨S0, hS0⟩ : ∃ S0 : ByteArray, S0 = ⟨(txt (zs.drop 0)).toArray⟩ := ⟨_, rfl⟩
  rw [show txt zs = txt (zs.drop 0) by rw [List.drop_zero], ← hS0]
  have HS0 := Lib.hid hS0
  clear h h20 hall hS0 hn
  go_enter Tryd.func11, Tryd.ntmps11
  go_wp2_with fail
  go_loopw [0, 4, 5] (fun s0 s4 s5 wr => ∃ (k : Nat) (v : Value) (S : ByteArray) (b : Bool), v = s4 ∧ k ≤ n ∧ slen s4 = k ∧ s0 = .string S ∧ s5 = .bool b ∧ Hid (b = decide (k < n)) ∧ Hid (S = ⟨(txt (zs.drop k)).toArray⟩) ∧ Hid (OW w wr k v (zs.take k))) (fun _ s4 _ _ => 20 - slen s4)
  case atStart => exact ⟨0, _, S0, true, rfl, Nat.zero_le _, rfl, rfl, rfl, (decide_eq_true hn1).symm, HS0, World.ownsRow_nil _ _ _ _, Below.refl _ _⟩
  case round =>
    clear HS0
    obtain ⟨k, v, S, b, rfl, hk, hsl, rfl, rfl, HB, HS, HO⟩ := hrel
    by_cases hlt : k < n
    · obtain rfl : b = true := HB.out.trans (decide_eq_true hlt)
      obtain ⟨z, hz⟩ : ∃ z, zs[k]? = some z := ⟨_, List.getElem?_eq_getElem (by rw [HL.out]; exact hlt)⟩
      have hlen : (txt (zs.drop k)).length ≤ maxLen := by
        have h1 := txt_len (zs := zs.drop k) (fun u hu => HALL.out u (List.mem_of_mem_drop hu))
        rw [List.length_drop, HL.out] at h1
        unfold maxLen
        omega
      have C := fun w => cut_part hz hlen w
      rw [HL.out] at C
      obtain ⟨x, y⟩ := z
      obtain ⟨b2, hb2⟩ : ∃ b2, b2 = decide (k + 1 < n) := ⟨_, rfl⟩
      obtain ⟨S2, hS2⟩ : ∃ S2 : ByteArray, S2 = ⟨(txt (zs.drop (k + 1))).toArray⟩ := ⟨_, rfl⟩
      obtain ⟨P, hP⟩ : ∃ P : ByteArray, P = ⟨(spT (x, y)).toArray⟩ := ⟨_, rfl⟩
      have PS := fun w => parseSpan_any (HALL.out (x, y) (List.mem_of_getElem? hz)) w
      rw [← hb2, ← hS2, ← hP, ← HS.out] at C
      rw [← hP] at PS
      have HC := Lib.hid C
      have HPS := Lib.hid PS
      have HB2 := Lib.hid hb2
      have HS2 := Lib.hid hS2
      have HZ := Lib.hid hz
      obtain ⟨A, cp, rfl, hcp⟩ := own_slice HO.out.1
      have hk20 : (k : Int) < 20 := by omega
      have hk20b : ((k : Int) == 20) = false := by rw [beq_eq_false_iff_ne]; omega
      clear hz hlen C PS hb2 hS2 hP hsl HS
      go_wp2_with fail
      refine (HC.out _).mono ?_
      rintro e w1 ⟨rfl, hd⟩
      have HO1 := Lib.hid (HO.out.below (hd.below _))
      clear hd HO
      go_wp2_with fail
      refine (HPS.out _).mono ?_
      rintro e w2 ⟨rfl, hb⟩
      have HO2 := Lib.hid (HO1.out.below hb)
      clear hb HO1
      have hws := HO2.out.2.size
      go_wp2_with (at_builtin; refine wpList_sp rfl _ _ rfl rfl rfl ((HO2.out.1.alloc _).alloc _) (spansAt_new _ _ _ (by simp)) (by omega) (by simp; omega) ?_; intro v' w3 hown3 hg3 hat3)
      have HO3 := Lib.hid (show OW w w3 (k + 1) v' (zs.take (k + 1)) from ((HO2.out.alloc _).alloc _).app (by rw [cells_snoc HZ.out]; exact hown3) hg3)
      obtain ⟨A3, cp3, rfl, hcp3⟩ := own_slice HO3.out.1
      clear hown3 hg3 hat3 HO2
      go_roundw
      case rel => exact ⟨k + 1, _, S2, b2, rfl, by omega, rfl, rfl, rfl, HB2, HS2, HO3⟩
      case measure => simp [slen]; omega
    · obtain rfl : b = false := HB.out.trans (decide_eq_false hlt)
      obtain rfl : k = n := by omega
      obtain ⟨A, cp, rfl, hcp⟩ := own_slice HO.out.1
      have hzn : zs.take k = zs := List.take_of_length_le (by rw [HL.out]; omega)
      have h1 := HO.out
      rw [hzn] at h1
      clear HO hzn
      have HO := Lib.hid h1
      clear h1
      go_wp2_with fail
      go_ret2
      exact ⟨A, cp, rfl, HO.out⟩
end Go.Proofs.YtmojecimmogeaaaDoor.G
