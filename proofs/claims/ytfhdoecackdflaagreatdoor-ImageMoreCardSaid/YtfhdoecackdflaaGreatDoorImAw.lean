/-
  An image that every program must know to make: awake of layer 11 answers true.
-/
import Derived.Test.YtfhdoecackdflaaGreatDoorK6
import Derived.Test.YtfhdoecackdflaaGreatDoorK7
set_option linter.unusedVariables false
set_option linter.unusedSimpArgs false
namespace Go.Proofs.YtfhdoecackdflaaGreatDoor.ImAw
open Go.RowKit Go.Proofs.YtfhdoecackdflaaGreatDoor.BxD Go.Proofs.YtfhdoecackdflaaGreatDoor.BxKit Go.Proofs.YtfhdoecackdflaaGreatDoor.BxR Go.Proofs.YtfhdoecackdflaaGreatDoor.BxS Go.Proofs.YtfhdoecackdflaaGreatDoor.BxX Go.Proofs.YtfhdoecackdflaaGreatDoor.OlD Go.Proofs.YtfhdoecackdflaaGreatDoor.PtK Go.Proofs.YtfhdoecackdflaaGreatDoor.RwD Go.Proofs.YtfhdoecackdflaaGreatDoor.RwKit Go.Proofs.YtfhdoecackdflaaGreatDoor.ImD Go.Proofs.YtfhdoecackdflaaGreatDoor.ImA Go.Proofs.YtfhdoecackdflaaGreatDoor.ImB Go.Proofs.YtfhdoecackdflaaGreatDoor.ImP Go.Proofs.YtfhdoecackdflaaGreatDoor.ImN Go.Proofs.YtfhdoecackdflaaGreatDoor.ImL
open Go.Proofs.YtfhdoecackdflaaGreatDoor.PkKit (BytesAt)

def m1 : Msg := ⟨1, 7, 0, ⟨#[120]⟩, 0, [], ⟨#[]⟩⟩
def b1 : ByteArray := ⟨#[98, 49]⟩
def bx : Box := ⟨b1, 5, 2, 7, [], [m1]⟩
theorem bx_may : mbE bx = 0 := by decide +kernel
theorem bx_rows : ∃ r1 r2, re fm1 bx = [r7 7, r1, r2] := ⟨r5 m1, r6 m1, by decide +kernel⟩
/-- What the document's Same tells of a box and itself. -/
theorem eqX_self (b : Box) : eqX b b = true := eqX_eq rfl
theorem msgs_one (w : World) : MsgsAt (w.alloc (.cells #[.int .i64 1, .int .i64 7, .int .i64 0, .string ⟨#[120]⟩, .int .i64 0, .slice none 0 0, .string ⟨#[]⟩] 44)) (w.heap.size + 1) (some ⟨w.heap.size, 0, none⟩) 1 [m1] := by
  refine ⟨rfl, by decide, fun _ => ⟨_, rfl, Nat.lt_succ_self _, fun j x hj => ?_⟩⟩
  match j, hj with
  | 0, hj =>
    have hx : m1 = x := by simpa using hj
    subst hx
    have c : ∀ o, (w.alloc (.cells #[.int .i64 1, .int .i64 7, .int .i64 0, .string ⟨#[120]⟩, .int .i64 0, .slice none 0 0, .string ⟨#[]⟩] 44)).cell? ⟨w.heap.size, o, none⟩ = (#[.int .i64 1, .int .i64 7, .int .i64 0, .string ⟨#[120]⟩, .int .i64 0, .slice none 0 0, .string ⟨#[]⟩] : Array Value)[o]? := fun o => cell_of_row _ w.heap.size o _ _ _ (heap_alloc_new w _)
    refine ⟨(c 0).trans rfl, (c 1).trans rfl, (c 2).trans rfl, (c 3).trans rfl, (c 4).trans rfl, ⟨none, 0, (c 5).trans rfl, Nat.le_refl _, RowAt.nil _ _ _ _ _⟩, (c 6).trans rfl, by decide, by decide⟩
  | j + 1, hj => simp at hj
set_option maxHeartbeats 4000000 in
set_option maxRecDepth 100000 in
theorem awake {w : World} (ht : BxO.Tab w) : Calls Tryz.prog 9 #[] w fun e w' => e = .returned (.bool true) ∧ Below w.heap.size w w' := by
  have hbl1 := (Below.refl w.heap.size w).alloc (Nat.le_refl _) (.cells #[.int .i64 1, .int .i64 7, .int .i64 0, .string ⟨#[120]⟩, .int .i64 0, .slice none 0 0, .string ⟨#[]⟩] 44)
  have hs1 : (w.alloc (.cells #[.int .i64 1, .int .i64 7, .int .i64 0, .string ⟨#[120]⟩, .int .i64 0, .slice none 0 0, .string ⟨#[]⟩] 44)).heap.size = w.heap.size + 1 := by simp
  have hbl2 := hbl1.alloc (by omega) (.cells #[.string ⟨#[98, 49]⟩, .int .i64 5, .int .i64 2, .int .i64 7, .slice none 0 0, .slice (some ⟨w.heap.size, 0, none⟩) 1 1] 25)
  have HB1 := Lib.hid hbl2
  have HT1 := Lib.hid (ht.below hbl2 (Nat.le_refl _))
  have hal := heap_alloc_new (w.alloc (.cells #[.int .i64 1, .int .i64 7, .int .i64 0, .string ⟨#[120]⟩, .int .i64 0, .slice none 0 0, .string ⟨#[]⟩] 44)) (.cells #[.string ⟨#[98, 49]⟩, .int .i64 5, .int .i64 2, .int .i64 7, .slice none 0 0, .slice (some ⟨w.heap.size, 0, none⟩) 1 1] 25)
  rw [hs1] at hal
  have HP1 := Lib.hid hal
  have HM1 := Lib.hid (MsgsAt.below (msgs_one w) ((Below.refl _ _).alloc (Nat.le_refl (w.alloc (.cells #[.int .i64 1, .int .i64 7, .int .i64 0, .string ⟨#[120]⟩, .int .i64 0, .slice none 0 0, .string ⟨#[]⟩] 44)).heap.size) (.cells #[.string ⟨#[98, 49]⟩, .int .i64 5, .int .i64 2, .int .i64 7, .slice none 0 0, .slice (some ⟨w.heap.size, 0, none⟩) 1 1] 25)) (by simp))
  have hs2 : ((w.alloc (.cells #[.int .i64 1, .int .i64 7, .int .i64 0, .string ⟨#[120]⟩, .int .i64 0, .slice none 0 0, .string ⟨#[]⟩] 44)).alloc (.cells #[.string ⟨#[98, 49]⟩, .int .i64 5, .int .i64 2, .int .i64 7, .slice none 0 0, .slice (some ⟨w.heap.size, 0, none⟩) 1 1] 25)).heap.size = w.heap.size + 2 := by simp
  clear hbl1 hbl2 hs1 ht hal
  go_enter Tryz.func9, Tryz.ntmps9
  go_upto_region 2 with fail
  generalize (World.alloc (World.alloc w _) _) = w1 at HB1 HT1 HP1 HM1 hs2 ⊢
  obtain ⟨b0, b1', b2, b3, b4, b5, _⟩ := six_at HP1.out
  have KM := Lib.hid (show Calls Tryz.prog 10 #[.int .i64 1, .agg #[.string ⟨#[98, 49]⟩, .int .i64 5, .int .i64 2, .int .i64 7, .slice none 0 0, .slice (some ⟨w.heap.size, 0, none⟩) 1 1]] w1 (MakeOut (rawI 1 bx) (re fm1 bx) w1) from make_any (k := 1) (.inl rfl) (B := w.heap.size + 2) (b := bx) HT1.out (RowAt.nil _ _ _ _ _) (MsgsAt.more HM1.out (by omega)) (by omega) (Nat.le_refl _) (Nat.le_refl _) bx_may)
  go_upto_region 3 with (go_at_call 10; go_loud (
     refine KM.out.mono ?_
     rintro e w2 ⟨A, n, c, A2, n2, c2, rfl, hnc, hnc2, hn2, hz, hr, hb2⟩
     have hs3 := hb2.size
     have HZ := Lib.hid hz
     have HR := Lib.hid hr
     have HB2 := Lib.hid (HB1.out.trans (hb2.mono (by omega)))
     have HP2 := Lib.hid ((hb2.block (w.heap.size + 1) (by omega)).trans HP1.out)
     have HM2 := Lib.hid (MsgsAt.below HM1.out hb2 (by omega))
     have HT2 := Lib.hid (HT1.out.below hb2 (Nat.le_refl _))
     clear hz hr hb2 b0 b1' b2 b3 b4 b5))
  clear HB1 HT1 HP1 HM1 KM
  have kw := whole_made (k := 1) (.inl rfl) (b := bx) (cp := c) (c2 := c2) HT2.out bx_may HZ.out (Nat.le_refl _) hnc HR.out hnc2 (fun r hr => by have := re_keys bx_may r hr; omega)
  rw [show allG (pj (fmI 1) bx) (re fm1 bx) = (bx, 0) from whole_re (f := fm1) (.inl rfl) bx_may] at kw
  have KW := Lib.hid (show Calls Tryz.prog 11 #[.slice A n c, .string ⟨#[98, 49]⟩, .slice A2 n2 c2] w2 (BoxOut bx 0 w2) from kw)
  have hn3 : n2 = 3 := by
    obtain ⟨r1, r2, h⟩ := bx_rows
    have := HR.out.len
    rw [h] at this
    simpa using this.symm
  subst hn3
  clear kw
  go_upto_region 4 with (go_at_call 11; go_loud (
     refine KW.out.mono ?_
     rintro e w3 ⟨WA, wn, wc, MA, mn, mc, rfl, hwc, hmc, hl3, hb3⟩
     have hs4 := hb3.size
     have HB3 := Lib.hid ((HB2.out.trans (hb3.mono (by omega))).alloc (by omega) (.cells #[.string bx.id, .int .i64 bx.valid, .int .i64 bx.next, .int .i64 bx.high, .slice WA wn wc, .slice MA mn mc] 25))
     have hbx := hb3.alloc hb3.size (.cells #[.string bx.id, .int .i64 bx.valid, .int .i64 bx.next, .int .i64 bx.high, .slice WA wn wc, .slice MA mn mc] 25)
     have HP3 := Lib.hid ((hbx.block (w.heap.size + 1) (by omega)).trans HP2.out)
     have HM3 := Lib.hid (MsgsAt.below HM2.out hbx (by omega))
     have HZ3 := Lib.hid (HZ.out.below hbx (Nat.le_refl _))
     have HR3 := Lib.hid (RowsAt.below HR.out hbx (Nat.le_refl _))
     have HQ3 := Lib.hid (heap_alloc_new w3 (.cells #[.string bx.id, .int .i64 bx.valid, .int .i64 bx.next, .int .i64 bx.high, .slice WA wn wc, .slice MA mn mc] 25))
     have HL3 := Lib.hid (hl3 (w3.alloc (.cells #[.string bx.id, .int .i64 bx.valid, .int .i64 bx.next, .int .i64 bx.high, .slice WA wn wc, .slice MA mn mc] 25)) (by simp) (fun k _ h2 => heap_alloc_old w3 _ h2))
     clear hl3 hb3 hbx))
  clear HB2 HP2 HM2 HT2 KW HZ HR
  obtain ⟨Q, hQ⟩ : ∃ Q, Q = w3.heap.size := ⟨_, rfl⟩
  rw [← hQ] at HQ3 HL3 ⊢
  have hsQ : (w3.alloc (.cells #[.string bx.id, .int .i64 bx.valid, .int .i64 bx.next, .int .i64 bx.high, .slice WA wn wc, .slice MA mn mc] 25)).heap.size = Q + 1 := by simp [hQ]
  have hQ2 : w2.heap.size ≤ Q := by omega
  clear hQ
  generalize (World.alloc w3 _) = w4 at HB3 HP3 HM3 HZ3 HR3 HQ3 HL3 hsQ ⊢
  have kv := version_any (cp := c) HZ3.out (show w2.heap.size ≤ w4.heap.size by omega) hnc (by have h1 := HZ3.out.1; have h2 := raw_len (k := 1) bx_may; omega)
  rw [raw_ver (.inl rfl)] at kv
  have KV := Lib.hid kv
  clear kv
  obtain ⟨ad, kd, ru, rm, u, md, d, id, fl, ks, tx, t, K, kn, kc, rfl, hab, e1, c0, _⟩ := RowsAt.sp HR3.out (Below.refl w2.heap.size w4) (Nat.le_refl _) (show 0 < 3 by decide)
  have hkd : kd = 7 := by
    obtain ⟨r1, r2, h⟩ := bx_rows
    rw [h] at e1
    have := Option.some.inj e1
    exact (congrArg Row.kind this).symm
  subst hkd
  have e0 : ad.add (0 * 11) = ad := by rw [Nat.zero_mul]; exact Addr.add_zero' ad
  rw [e0] at c0
  clear e1 e0
  obtain ⟨b0, b1', b2, b3, b4, b5, _⟩ := six_at HP3.out
  obtain ⟨q0, q1, q2, q3, q4, q5, _⟩ := six_at HQ3.out
  go_wp2_with (first
    | (go_at_call 13; go_loud (
       refine KV.out.mono ?_
       rintro e w5 ⟨rfl, hb5⟩
       have hs5 := hb5.size
       have HB5 := Lib.hid (HB3.out.trans (hb5.mono (by omega)))
       have hr5 := RowsAt.below HR3.out hb5 (show w2.heap.size ≤ w4.heap.size by omega)
       have hp5 := (hb5.block (w.heap.size + 1) (by omega)).trans HP3.out
       have hq5 := (hb5.block Q (by omega)).trans HQ3.out
       have hc5 := (hb5.cell (p := ad) (by omega)).trans c0
       clear c0 b0 b1' b2 b3 b4 b5 q0 q1 q2 q3 q4 q5
       obtain ⟨b0, b1', b2, b3, b4, b5, _⟩ := six_at hp5
       obtain ⟨q0, q1, q2, q3, q4, q5, _⟩ := six_at hq5
       have HS5 := Lib.hid (refSame_any (bid := ⟨#[98, 49]⟩) (bv := 5) (bn := 2) (bh := 7) (wc := 0) (mc := 1) (bid' := bx.id) (bv' := bx.valid) (bn' := bx.next) (bh' := bx.high) (wc' := wc) (mc' := mc) (w := w5) (show StrsAt w5 0 none 0 [] from RowAt.nil _ _ _ _ _) (MsgsAt.below HM3.out hb5 (by omega)) (StrsAt.below HL3.out.1 hb5 (by omega)) (MsgsAt.below HL3.out.2 hb5 (by omega)) (Nat.zero_le _) (by omega) (by omega) (by omega))
       clear hb5 hr5 hp5 hq5))
    | (go_at_call 12; go_loud (
       refine HS5.out.mono ?_
       rintro e w6 ⟨rfl, hb6⟩
       have HB6 := Lib.hid (HB5.out.trans (hb6.mono (by omega)))
       clear hb6)))
  go_ret
  exact ⟨by rw [show eqX ⟨⟨#[98, 49]⟩, 5, 2, 7, [], [m1]⟩ ⟨bx.id, bx.valid, bx.next, bx.high, bx.words, bx.msgs⟩ = true from eqX_self bx]; rfl, HB6.out⟩
end Go.Proofs.YtfhdoecackdflaaGreatDoor.ImAw
