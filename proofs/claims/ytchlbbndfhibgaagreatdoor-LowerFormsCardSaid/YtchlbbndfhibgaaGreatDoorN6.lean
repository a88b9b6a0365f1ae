/-
  ImAw + LwAw
-/
import Derived.Test.YtchlbbndfhibgaaGreatDoorK6
import Derived.Test.YtchlbbndfhibgaaGreatDoorK7
import Derived.Test.YtchlbbndfhibgaaGreatDoorM2
set_option linter.unusedVariables false
set_option linter.unusedSimpArgs false
namespace Go.Proofs.YtchlbbndfhibgaaGreatDoor.ImAw
open Go.RowKit Go.Proofs.YtchlbbndfhibgaaGreatDoor.BxD Go.Proofs.YtchlbbndfhibgaaGreatDoor.BxKit Go.Proofs.YtchlbbndfhibgaaGreatDoor.BxR Go.Proofs.YtchlbbndfhibgaaGreatDoor.BxS Go.Proofs.YtchlbbndfhibgaaGreatDoor.BxX Go.Proofs.YtchlbbndfhibgaaGreatDoor.OlD Go.Proofs.YtchlbbndfhibgaaGreatDoor.PtK Go.Proofs.YtchlbbndfhibgaaGreatDoor.RwD Go.Proofs.YtchlbbndfhibgaaGreatDoor.RwKit Go.Proofs.YtchlbbndfhibgaaGreatDoor.ImD Go.Proofs.YtchlbbndfhibgaaGreatDoor.ImA Go.Proofs.YtchlbbndfhibgaaGreatDoor.ImB Go.Proofs.YtchlbbndfhibgaaGreatDoor.ImP Go.Proofs.YtchlbbndfhibgaaGreatDoor.ImN Go.Proofs.YtchlbbndfhibgaaGreatDoor.ImL
open Go.Proofs.YtchlbbndfhibgaaGreatDoor.PkKit (BytesAt)

def m1 : Msg := ⟨1, 7, 0, ⟨#[120]⟩, 0, [], ⟨#[]⟩⟩
def b1 : ByteArray := ⟨#[98, 49]⟩
def bx : Box := ⟨b1, 5, 2, 7, [], [m1]⟩
theorem bx_may : mbE bx = 0 := by decide +kernel
theorem bx_rows : ∃ r1 r2, re fm1 bx = [r7 7, r1, r2] := ⟨r5 m1, r6 m1, by decide +kernel⟩
/-- What the document's Same tells of a box and itself. -/
theorem eqX_self (b : Box) : eqX b b = true := eqX_eq rfl
theorem msgs_one (w : World) : MsgsAt (w.alloc (.cells #[.int .i64 1, .int .i64 7, .int .i64 0, .string ⟨#[120]⟩, .int .i64 0, .slice none 0 0, .string ⟨#[]⟩] 28)) (w.heap.size + 1) (some ⟨w.heap.size, 0, none⟩) 1 [m1] := by
  refine ⟨rfl, by decide, fun _ => ⟨_, rfl, Nat.lt_succ_self _, fun j x hj => ?_⟩⟩
  match j, hj with
  | 0, hj =>
    have hx : m1 = x := by simpa using hj
    subst hx
    have c : ∀ o, (w.alloc (.cells #[.int .i64 1, .int .i64 7, .int .i64 0, .string ⟨#[120]⟩, .int .i64 0, .slice none 0 0, .string ⟨#[]⟩] 28)).cell? ⟨w.heap.size, o, none⟩ = (#[.int .i64 1, .int .i64 7, .int .i64 0, .string ⟨#[120]⟩, .int .i64 0, .slice none 0 0, .string ⟨#[]⟩] : Array Value)[o]? := fun o => cell_of_row _ w.heap.size o _ _ _ (heap_alloc_new w _)
    refine ⟨(c 0).trans rfl, (c 1).trans rfl, (c 2).trans rfl, (c 3).trans rfl, (c 4).trans rfl, ⟨none, 0, (c 5).trans rfl, Nat.le_refl _, RowAt.nil _ _ _ _ _⟩, (c 6).trans rfl, by decide, by decide⟩
  | j + 1, hj => simp at hj
end Go.Proofs.YtchlbbndfhibgaaGreatDoor.ImAw

namespace Go.Proofs.YtchlbbndfhibgaaGreatDoor.LwAw
open Go.RowKit Go.Proofs.YtchlbbndfhibgaaGreatDoor.BxD Go.Proofs.YtchlbbndfhibgaaGreatDoor.BxKit Go.Proofs.YtchlbbndfhibgaaGreatDoor.BxR Go.Proofs.YtchlbbndfhibgaaGreatDoor.RwD Go.Proofs.YtchlbbndfhibgaaGreatDoor.RwKit Go.Proofs.YtchlbbndfhibgaaGreatDoor.ImD Go.Proofs.YtchlbbndfhibgaaGreatDoor.ImL Go.Proofs.YtchlbbndfhibgaaGreatDoor.ImAw Go.Proofs.YtchlbbndfhibgaaGreatDoor.LwD Go.Proofs.YtchlbbndfhibgaaGreatDoor.LwT Go.Proofs.YtchlbbndfhibgaaGreatDoor.LwL Go.Proofs.YtchlbbndfhibgaaGreatDoor.LwS

theorem ls_1 : ls fm1 bx = [⟨7, 0, ⟨#[55]⟩⟩, ⟨5, 1, ⟨#[120]⟩⟩, ⟨6, 1, ⟨#[55]⟩⟩] := by decide +kernel
theorem ls_3 : ls fm3 bx = [] := by decide +kernel
theorem tx_7 : textL ⟨7, 0, ⟨#[55]⟩⟩ = ⟨#[104, 105, 103, 104, 32, 55]⟩ := by decide +kernel
theorem tx_5 : textL ⟨5, 1, ⟨#[120]⟩⟩ = ⟨#[110, 97, 109, 101, 32, 49, 32, 120]⟩ := by decide +kernel
theorem tx_6 : textL ⟨6, 1, ⟨#[55]⟩⟩ = ⟨#[109, 111, 100, 32, 49, 32, 55]⟩ := by decide +kernel
theorem text_call {x : Los} {t : ByteArray} {w : World} (ht : BxO.Tab w) (h1 : 0 ≤ x.uid ∧ x.uid ≤ 999999) (h2 : x.text.size ≤ 1600) (e : textL x = t) :
    Calls Tryz.prog 29 #[.agg #[.int .i64 x.kind, .int .i64 x.uid, .string x.text]] w fun e w' => e = .returned (.string t) ∧ Below w.heap.size w w' := by
  subst e
  exact text_any ht (by omega) (by omega) (by omega)
set_option maxHeartbeats 4000000 in
set_option maxRecDepth 100000 in
theorem awake {w : World} (ht : BxO.Tab w) : Calls Tryz.prog 22 #[] w fun e w' => e = .returned (.bool true) ∧ Below w.heap.size w w' := by
  have hbl1 := (Below.refl w.heap.size w).alloc (Nat.le_refl _) (.cells #[.int .i64 1, .int .i64 7, .int .i64 0, .string ⟨#[120]⟩, .int .i64 0, .slice none 0 0, .string ⟨#[]⟩] 28)
  have hs1 : (w.alloc (.cells #[.int .i64 1, .int .i64 7, .int .i64 0, .string ⟨#[120]⟩, .int .i64 0, .slice none 0 0, .string ⟨#[]⟩] 28)).heap.size = w.heap.size + 1 := by simp
  have hbl2 := hbl1.alloc (by omega) (.cells #[.string ⟨#[98, 49]⟩, .int .i64 5, .int .i64 2, .int .i64 7, .slice none 0 0, .slice (some ⟨w.heap.size, 0, none⟩) 1 1] 25)
  have HB1 := Lib.hid hbl2
  have HT := Lib.hid ht
  have hal := heap_alloc_new (w.alloc (.cells #[.int .i64 1, .int .i64 7, .int .i64 0, .string ⟨#[120]⟩, .int .i64 0, .slice none 0 0, .string ⟨#[]⟩] 28)) (.cells #[.string ⟨#[98, 49]⟩, .int .i64 5, .int .i64 2, .int .i64 7, .slice none 0 0, .slice (some ⟨w.heap.size, 0, none⟩) 1 1] 25)
  rw [hs1] at hal
  have HP1 := Lib.hid hal
  have HM1 := Lib.hid (MsgsAt.below (msgs_one w) ((Below.refl _ _).alloc (Nat.le_refl (w.alloc (.cells #[.int .i64 1, .int .i64 7, .int .i64 0, .string ⟨#[120]⟩, .int .i64 0, .slice none 0 0, .string ⟨#[]⟩] 28)).heap.size) (.cells #[.string ⟨#[98, 49]⟩, .int .i64 5, .int .i64 2, .int .i64 7, .slice none 0 0, .slice (some ⟨w.heap.size, 0, none⟩) 1 1] 25)) (by simp))
  have hs2 : ((w.alloc (.cells #[.int .i64 1, .int .i64 7, .int .i64 0, .string ⟨#[120]⟩, .int .i64 0, .slice none 0 0, .string ⟨#[]⟩] 28)).alloc (.cells #[.string ⟨#[98, 49]⟩, .int .i64 5, .int .i64 2, .int .i64 7, .slice none 0 0, .slice (some ⟨w.heap.size, 0, none⟩) 1 1] 25)).heap.size = w.heap.size + 2 := by simp
  clear hbl1 hbl2 hs1 ht hal
  go_enter Tryz.func22, Tryz.ntmps22
  go_upto_region 2 with fail
  generalize (World.alloc (World.alloc w _) _) = w1 at HB1 HP1 HM1 hs2 ⊢
  obtain ⟨b0, b1', b2, b3, b4, b5, _⟩ := six_at HP1.out
  have KL1 := losses_ok (k := 1) (.inl rfl) (B := w.heap.size + 2) (b := bx) (wcp := 0) (mcp := 1) (HT.out.below HB1.out (Nat.le_refl _)) (RowAt.nil _ _ _ _ none) (MsgsAt.more HM1.out (by omega)) (by omega) (Nat.le_refl _) (Nat.le_refl _) bx_may
  rw [show ls (fmI 1) bx = _ from ls_1] at KL1
  have K1 := Lib.hid (show Calls Tryz.prog 25 #[.int .i64 1, .agg #[.string ⟨#[98, 49]⟩, .int .i64 5, .int .i64 2, .int .i64 7, .slice none 0 0, .slice (some ⟨w.heap.size, 0, none⟩) 1 1]] w1 (LosOut _ 0 w1) from KL1)
  clear KL1
  go_upto_region 3 with (go_at_call 25; go_loud (
     refine K1.out.mono ?_
     rintro e w2 ⟨A, n, c, rfl, hnc, hz, hb2⟩
     have HL2 := Lib.hid (Lk.mk hnc hz)
     have HB2 := Lib.hid (HB1.out.trans (hb2.mono (by omega)))
     have hs3 := hb2.size
     have HP2 := Lib.hid ((hb2.block (w.heap.size + 1) (by omega)).trans HP1.out)
     have HM2 := Lib.hid (MsgsAt.below HM1.out hb2 (by omega))
     clear hnc hz hb2 b0 b1' b2 b3 b4 b5))
  clear HB1 HP1 HM1 K1
  obtain ⟨b0, b1', b2, b3, b4, b5, _⟩ := six_at HP2.out
  have KL3 := losses_ok (k := 3) (.inr (.inr rfl)) (B := w.heap.size + 2) (b := bx) (wcp := 0) (mcp := 1) (HT.out.below HB2.out (Nat.le_refl _)) (RowAt.nil _ _ _ _ none) (MsgsAt.more HM2.out (by omega)) (by omega) (Nat.le_refl _) (Nat.le_refl _) bx_may
  rw [show ls (fmI 3) bx = _ from ls_3] at KL3
  have K3 := Lib.hid (show Calls Tryz.prog 25 #[.int .i64 3, .agg #[.string ⟨#[98, 49]⟩, .int .i64 5, .int .i64 2, .int .i64 7, .slice none 0 0, .slice (some ⟨w.heap.size, 0, none⟩) 1 1]] w2 (LosOut _ 0 w2) from KL3)
  clear KL3
  go_upto_region 4 with (go_at_call 25; go_loud (
     refine K3.out.mono ?_
     rintro e w3 ⟨A3, n3, c3, rfl, _, hz, hb3⟩
     have HL3 := Lib.hid (HL2.out.go hb3)
     have hn3 : 0 = n3 := hz.len
     have HB3 := Lib.hid (HB2.out.trans (hb3.mono HB2.out.size))
     clear hz hb3 b0 b1' b2 b3 b4 b5))
  clear HB2 HP2 HM2 K3 HL2
  subst hn3
  have hn : 3 = n := HL3.out.len
  subst hn
  have K0 := Lib.hid (fun (wr : World) (hb : Below w3.heap.size w3 wr) (t : ByteArray) (e : textL ⟨7, 0, ⟨#[55]⟩⟩ = t) => text_call (x := ⟨7, 0, ⟨#[55]⟩⟩) (HT.out.below (HB3.out.trans (hb.mono HB3.out.size)) (Nat.le_refl _)) ⟨by show (0 : Int) ≤ 0; decide, by show (0 : Int) ≤ 999999; decide⟩ (by show 1 ≤ 1600; decide) e)
  have K5 := Lib.hid (fun (wr : World) (hb : Below w3.heap.size w3 wr) (t : ByteArray) (e : textL ⟨5, 1, ⟨#[120]⟩⟩ = t) => text_call (x := ⟨5, 1, ⟨#[120]⟩⟩) (HT.out.below (HB3.out.trans (hb.mono HB3.out.size)) (Nat.le_refl _)) ⟨by show (0 : Int) ≤ 1; decide, by show (1 : Int) ≤ 999999; decide⟩ (by show 1 ≤ 1600; decide) e)
  have K6 := Lib.hid (fun (wr : World) (hb : Below w3.heap.size w3 wr) (t : ByteArray) (e : textL ⟨6, 1, ⟨#[55]⟩⟩ = t) => text_call (x := ⟨6, 1, ⟨#[55]⟩⟩) (HT.out.below (HB3.out.trans (hb.mono HB3.out.size)) (Nat.le_refl _)) ⟨by show (0 : Int) ≤ 1; decide, by show (1 : Int) ≤ 999999; decide⟩ (by show 1 ≤ 1600; decide) e)
  dsimp only at K0 K5 K6
  obtain ⟨ad, kd, u, tx, rfl, hab, e1, c0, c1, c2⟩ := LosAt.sp HL3.out.at_ (Below.refl w3.heap.size w3) (Nat.le_refl _) (show 0 < 3 by decide)
  obtain ⟨ad', kd1, u1, tx1, had, _, e2, d0, d1, d2⟩ := LosAt.sp HL3.out.at_ (Below.refl w3.heap.size w3) (Nat.le_refl _) (show 1 < 3 by decide)
  obtain rfl := Option.some.inj had
  obtain ⟨ad'', kd2, u2, tx2, had, _, e3, f0, f1, f2⟩ := LosAt.sp HL3.out.at_ (Below.refl w3.heap.size w3) (Nat.le_refl _) (show 2 < 3 by decide)
  obtain rfl := Option.some.inj had
  obtain ⟨rfl, rfl, rfl⟩ := Los.same.2 (Option.some.inj e1)
  obtain ⟨rfl, rfl, rfl⟩ := Los.same.2 (Option.some.inj e2)
  obtain ⟨rfl, rfl, rfl⟩ := Los.same.2 (Option.some.inj e3)
  dsimp only at c0 c1 c2 d0 d1 d2 f0 f1 f2
  have x1 : ad.add (1 * 3) = { block := ad.block, off := ad.off + 3 } := rfl
  have x2 : ad.add (2 * 3) = { block := ad.block, off := ad.off + 6 } := rfl
  rw [x1] at d0 d1 d2
  rw [x2] at f0 f1 f2
  clear x1 x2
  have e0 : ad.add (0 * 3) = ad := by rw [Nat.zero_mul]; exact Addr.add_zero' ad
  rw [e0] at c0 c1 c2
  clear e1 e2 e3 e0 had
  have q7 : ((⟨#[104, 105, 103, 104, 32, 55]⟩ : ByteArray).toList == (⟨#[104, 105, 103, 104, 32, 55]⟩ : ByteArray).toList) = true := beq_self_eq_true _
  have q5 : ((⟨#[110, 97, 109, 101, 32, 49, 32, 120]⟩ : ByteArray).toList == (⟨#[110, 97, 109, 101, 32, 49, 32, 120]⟩ : ByteArray).toList) = true := beq_self_eq_true _
  have q6 : ((⟨#[109, 111, 100, 32, 49, 32, 55]⟩ : ByteArray).toList == (⟨#[109, 111, 100, 32, 49, 32, 55]⟩ : ByteArray).toList) = true := beq_self_eq_true _
  dsimp only at d1 d2 f1 f2
  go_wp2_with (first
    | (go_at_call 29; go_loud (
       refine (K0.out w3 (Below.refl _ _) _ tx_7).mono ?_
       rintro e w4 ⟨rfl, hb4⟩
       have H4 := Lib.hid hb4
       have d0 := (hb4.cell (p := { block := ad.block, off := ad.off + 3 }) hab).trans d0
       have d1 := (hb4.cell (p := { block := ad.block, off := ad.off + 3 + 1 }) hab).trans d1
       have d2 := (hb4.cell (p := { block := ad.block, off := ad.off + 3 + 2 }) hab).trans d2
       clear K0 c0 c1 c2 hb4))
    | (go_at_call 29; go_loud (
       refine (K5.out w4 H4.out _ tx_5).mono ?_
       rintro e w5 ⟨rfl, hb5⟩
       have hb5 := H4.out.trans (hb5.mono H4.out.size)
       have H5 := Lib.hid hb5
       have f0 := (hb5.cell (p := { block := ad.block, off := ad.off + 6 }) hab).trans f0
       have f1 := (hb5.cell (p := { block := ad.block, off := ad.off + 6 + 1 }) hab).trans f1
       have f2 := (hb5.cell (p := { block := ad.block, off := ad.off + 6 + 2 }) hab).trans f2
       clear K5 d0 d1 d2 hb5))
    | (go_at_call 29; go_loud (
       refine (K6.out w5 H5.out _ tx_6).mono ?_
       rintro e w6 ⟨rfl, hb6⟩
       have H6 := Lib.hid (H5.out.trans (hb6.mono H5.out.size))
       clear K6 f0 f1 f2 hb6)))
  go_ret
  exact ⟨rfl, HB3.out.trans (H6.out.mono HB3.out.size)⟩
end Go.Proofs.YtchlbbndfhibgaaGreatDoor.LwAw
