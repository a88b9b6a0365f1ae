/-
  A line of ints: what All does: a row of its own with all that waits, in order; the line is empty.
-/
import Derived.Test.YtkhecigpjjhmjaaLnI
import Derived.OwnWalk
import Derived.Laws.NewBlocks
import Derived.Maps.AppendAt
namespace Go.Proofs.Ytkhecigpjjhmjaa.LI
open Go.RowKit Go.Conc Go.Proofs.Ytkhecigpjjhmjaa.Kit

def ints (ys : List Int) : List Value := ys.map (fun y => Value.int .i64 y)

theorem grown_new {a b c : World} {row row' : Option Nat} (h : a.grownBy b row) (k : b.grownBy c row') (hg : ∀ g, row' = some g → a.heap.size ≤ g) : a.grownBy c row :=
  ⟨k.os.trans h.os, k.tape.trans h.tape, k.output.trans h.output, Nat.le_trans h.size k.size, fun i hi hne => (k.block i (Nat.lt_of_lt_of_le hi h.size) (fun e => by have := hg i e.symm; omega)).trans (h.block i hi hne)⟩

theorem kinfo : (Try.prog.info? 3).map (fun i => (i.zero, i.size, i.bytes)) = some (some (.int .i64 0), 1, 8) := by kernel_rfl

/-- What All tells. -/
def AllPost (w : World) (T c room : Nat) (ys : List Int) (e : Ending) (w' : World) : Prop :=
  ∃ v, e = .returned v ∧ w'.ownsRow w.heap.size 3 1 v ys.length (ints ys) ∧ L w' T c room [] [] ∧ w.grownBy w' (some c)

set_option maxHeartbeats 1000000 in
theorem all_ {w : World} {T c room : Nat} {bs : List Nat} {ys : List Int} (h : L w T c room bs (ints ys)) :
    Calls Try.prog 11 #[ptr T] w (AllPost w T c room ys) := by
  obtain ⟨i0, hi0, hz0, hz1, hz2⟩ := info_parts kinfo
  have hly : (ints ys).length = ys.length := by simp [ints]
  have hL := len_ h
  rw [hly] at hL
  have HL := Lib.hid hL
  have hle := h.le
  have hrm := h.room_le
  rw [hly] at hle
  have hTN := h.T_lt
  have hcN := h.c_lt
  have HBS := Lib.hid (fun b (hb : b ∈ bs) => h.mem_lt hb)
  have HH := Lib.hid h
  have HI := Lib.hid hi0
  have HZ0 := Lib.hid hz0
  have HZ1 := Lib.hid hz1
  have HZ2 := Lib.hid hz2
  have HLB := Lib.hid (show bs.length = ys.length by rw [h.len, hly])
  obtain ⟨N, hN⟩ : ∃ N, N = w.heap.size := ⟨_, rfl⟩
  rw [← hN] at hTN hcN HBS
  have HN := Lib.hid hN
  have HO0 := Lib.hid (World.ownsRow_nil w N 3 1)
  have HG0 := Lib.hid (grown_refl w (some c))
  clear h hL hly hN hi0 hz0 hz1 hz2
  have ep : ptr T = .pointer (some ⟨T, 0, none⟩) := rfl
  rw [ep] at HL ⊢
  go_enter Try.func11, Try.ntmps11
  go_wp2_with (go_at_call 12; refine HL.out.mono ?_; rintro e w' ⟨rfl, rfl⟩)
  go_loopw [3, 8] (fun s3 s8 wr => ∃ (j : Nat) (v3 : Value), j ≤ ys.length ∧ s8 = .int .i64 j ∧ v3 = s3 ∧ Hid (wr.ownsRow N 3 1 v3 j ((ints ys).take j)) ∧ Hid (L wr T c room (bs.drop j) ((ints ys).drop j)) ∧ Hid (w.grownBy wr (some c))) (fun _ s8 _ => ys.length - (intOf s8).toNat)
  case atStart => exact ⟨0, _, Nat.zero_le _, rfl, rfl, by rw [List.take_zero]; exact HO0, by rw [List.drop_zero, List.drop_zero]; exact HH, HG0⟩
  case round =>
    obtain ⟨j, v3, hj, rfl, rfl, hO, hL, hG⟩ := hrel
    by_cases hlt : j < ys.length
    · obtain ⟨y, hy⟩ : ∃ y, ys[j]? = some y := ⟨_, List.getElem?_eq_getElem hlt⟩
      have hyl : (ints ys)[j]? = some (.int .i64 y) := by unfold ints; rw [List.getElem?_map, hy]; rfl
      have hdx : (ints ys).drop j = .int .i64 y :: (ints ys).drop (j + 1) := by
        rw [List.drop_eq_getElem_cons (by unfold ints; simpa using hlt)]
        congr 1
        rw [List.getElem?_eq_getElem (by unfold ints; simpa using hlt)] at hyl
        injection hyl
      have hlb := HLB.out
      have hdb : bs.drop j = bs[j]'(by omega) :: bs.drop (j + 1) := List.drop_eq_getElem_cons (by omega)
      have hL' := hL.out
      rw [hdx, hdb] at hL'
      have TK := Lib.hid (take_some hL')
      have hcv : v3.ownBlock = none ∨ v3.ownBlock ≠ some c := by
        right; intro e
        have := (hO.out.lt c e).1; omega
      have HCV := Lib.hid hcv
      have HTK := Lib.hid (List.take_append_getElem (l := ints ys) (i := j) (by unfold ints; simpa using hlt))
      have HYL := Lib.hid hyl
      clear hy hyl hdx hlb hdb hL' hcv
      go_wp2_with fail
      refine TK.out.mono ?_
      rintro e w2 ⟨rfl, hl2, hg2⟩
      have HL2 := Lib.hid hl2
      have HG2 := Lib.hid (grown_trans hG.out hg2)
      have HO2 := Lib.hid (hO.out.kept hg2 HCV.out)
      have hsz2 : N ≤ w2.heap.size := by have := (grown_trans hG.out hg2).size; have := HN.out; omega
      clear hl2 hg2
      go_wp2_with (at_builtin; refine wpList_append_own _ rfl (.tmp 16) (.tmp 18) 26 rfl N 3 i0 _ 1 8 Try.underlying26 HI.out HZ0.out HZ1.out HZ2.out rfl (by decide) _ j _ rfl (HO2.out.alloc _) ⟨w2.heap.size, 0, none⟩ 1 1 [.int .i64 y] rfl rfl (cell_one_new _ _ _) (by simp [Value.oneCell']) (by unfold maxLen; omega) (by omega) (by simp; omega) ?_; intro v4 w4 hown4 hgrow4 hnil4; have HO4 := Lib.hid hown4; have HG4 := Lib.hid hgrow4; clear hown4 hgrow4 hnil4)
      go_roundw
      case rel =>
        have hrow : ∀ g, v3.ownBlock = some g → N ≤ g := fun g e => (hO.out.lt g e).1
        have hl3 := HL2.out.below ((Below.refl _ _).alloc (Nat.le_refl _) (.cells #[.int .i64 y] 3))
        refine ⟨j + 1, _, by omega, by go_num, rfl, ?_, ?_, ?_⟩
        · have h1 := HO4.out
          have h2 := HTK.out
          have h3 := HYL.out
          rw [List.getElem?_eq_getElem (by unfold ints; simpa using hlt)] at h3
          injection h3 with h3
          rw [h3] at h2
          rw [h2] at h1
          exact h1
        · refine hl3.grown HG4.out ?_ ?_ ?_
          · intro e; have := hrow _ e.symm; omega
          · intro e; have := hrow _ e.symm; omega
          · intro b hb e
            have := hrow _ e.symm
            have := HBS.out b (List.mem_of_mem_drop hb)
            omega
        · refine grown_new (grown_new HG2.out (World.grownBy_alloc _ _ none) (by simp)) HG4.out (fun g e => ?_)
          have := hrow g e; have := HN.out; omega
      case measure => simp [intOf]; omega
    · obtain rfl : j = ys.length := by omega
      go_wp2
      go_ret
      refine ⟨v3, rfl, ?_, ?_, hG.out⟩
      · have h1 := hO.out
        rw [List.take_of_length_le (by simp [ints])] at h1
        rw [← HN.out]; exact h1
      · have h1 := hL.out
        rw [List.drop_eq_nil_of_le (by have := HLB.out; omega), List.drop_eq_nil_of_le (by simp [ints])] at h1
        exact h1
end Go.Proofs.Ytkhecigpjjhmjaa.LI
