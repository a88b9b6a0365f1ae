/-
  The rows that every program must know: awake answers true.
-/
import Derived.Test.YtnicijeeocknaaaDoorRwW15
import Derived.Test.YtnicijeeocknaaaDoorL8
set_option linter.unusedVariables false
set_option linter.unusedSimpArgs false
namespace Go.Proofs.YtnicijeeocknaaaDoor.RwAw
open Go.RowKit Go.Proofs.YtnicijeeocknaaaDoor.BxD Go.Proofs.YtnicijeeocknaaaDoor.BxKit Go.Proofs.YtnicijeeocknaaaDoor.BxA Go.Proofs.YtnicijeeocknaaaDoor.BxO Go.Proofs.YtnicijeeocknaaaDoor.BxR Go.Proofs.YtnicijeeocknaaaDoor.RwD Go.Proofs.YtnicijeeocknaaaDoor.RwM Go.Proofs.YtnicijeeocknaaaDoor.RwKit Go.Proofs.YtnicijeeocknaaaDoor.RwW10 Go.Proofs.YtnicijeeocknaaaDoor.RwW15

def b1 : ByteArray := ⟨#[98, 49]⟩
def tw : ByteArray := ⟨#[119]⟩
def tt : ByteArray := ⟨#[116]⟩
def e1 : ByteArray := ⟨#[101, 49, 45, 98, 49]⟩
def bx : Box := ⟨b1, 5, 1, 1, [], []⟩
def m1 : Msg := ⟨1, 2, 9, e1, 8, [0], tt⟩
def rows : List Row := [wRow tw, ⟨1, 0, 0, m1, emT⟩]
def bz : Box := ⟨b1, 5, 2, 2, [tw], [m1]⟩
theorem own1 : ownT b1 1 = e1 := by
  unfold ownT
  rw [show Lib.itoa (max 1 0) = [49] by
    rw [show (max 1 0 : Int) = 1 by decide]
    unfold Lib.itoa
    rw [if_neg (by decide)]
    exact Lib.decDigits_one (by decide)]
  rfl
theorem m_one : addM bx 9 ⟨#[]⟩ 8 [tw] tt = m1 := by
  unfold addM
  rw [if_pos (show (⟨#[]⟩ : ByteArray).size = 0 from rfl)]
  show (⟨1, 1 + 1, 9, ownT b1 1, 8, kW (allW [] [tw]) [tw], tt⟩ : Msg) = m1
  rw [own1, show kW (allW [] [tw]) [tw] = [0] by decide +kernel]
  rfl
theorem add_E : addE bx 9 ⟨#[]⟩ 8 [tw] tt = 0 := by
  unfold addE
  rw [m_one]
  decide +kernel
theorem add_P : addP bx 9 ⟨#[]⟩ 8 [tw] tt = rows := by
  unfold addP
  rw [if_pos add_E]
  unfold addL
  rw [m_one]
  decide +kernel
theorem all_P : allP bx rows = (bz, 0) := by
  have h : (allP bx rows).1 = bz ∧ (allP bx rows).2 = 0 := by
    constructor
    · decide +kernel
    · decide +kernel
  exact Prod.ext h.1 h.2
set_option maxHeartbeats 4000000 in
set_option maxRecDepth 100000 in
theorem awake {w : World} (ht : RwW15.Tab w) : Calls Tryd.prog 6 #[] w fun e w' => e = .returned (.bool true) ∧ Below w.heap.size w w' := by
  have hb1 : Below w.heap.size w (w.alloc (.cells #[.string b1, .int .i64 5, .int .i64 1, .int .i64 1, .slice none 0 0, .slice none 0 0] 25)) := (Below.refl _ _).alloc (Nat.le_refl _) _
  have k1 := heap_alloc_new w (.cells #[.string b1, .int .i64 5, .int .i64 1, .int .i64 1, .slice none 0 0, .slice none 0 0] 25)
  have HB1 := Lib.hid hb1
  have K1 := Lib.hid k1
  have HT := Lib.hid ht
  have hl1 : w.heap.size + 1 ≤ (w.alloc (.cells #[.string b1, .int .i64 5, .int .i64 1, .int .i64 1, .slice none 0 0, .slice none 0 0] 25)).heap.size := by simp
  clear hb1 k1 ht
  go_enter Tryd.func6, Tryd.ntmps6
  go_upto_region 2 with fail
  rw [show (⟨#[98, 49]⟩ : ByteArray) = b1 from rfl]
  generalize (World.alloc w _) = w1 at HB1 K1 hl1 ⊢
  have hbA := (Below.refl w1.heap.size w1).alloc (Nat.le_refl _) (.cells #[.string tw] 9)
  have hsz : (w1.alloc (.cells #[.string tw] 9)).heap.size = w1.heap.size + 1 := by simp
  have hw : StrsAt (w1.alloc (.cells #[.string tw] 9)) (w1.heap.size + 1) (some ⟨w1.heap.size, 0, none⟩) 1 [tw] := by
    refine ⟨rfl, by decide, fun _ => ⟨_, rfl, by show w1.heap.size < w1.heap.size + 1; omega, fun j x hj => ?_⟩⟩
    match j, hj with
    | 0, hj =>
      obtain rfl : tw = x := by simpa using hj
      exact ⟨by rw [add_new]; simp, by decide⟩
  have ka := add_any (b := bx) (date := 9) (flags := 8) (id := ⟨#[]⟩) (text := tt) (words := [tw]) (WA := none) (MA := none) (wn := 0) (wc := 0) (mn := 0) (mcp := 0) (cp := 1) (HT.out.below (HB1.out.trans (hbA.mono (by omega))) (Nat.le_refl _)) (RowAt.nil _ _ _ (w1.heap.size + 1) _) (RowAt.nil _ _ _ (w1.heap.size + 1) _) (Nat.le_refl _) (Nat.le_refl _) (by omega) hw (Nat.le_refl _) (by decide) (.inl (by decide)) (by decide) (by decide)
  rw [add_P, add_E] at ka
  have KA := Lib.hid ka
  have HA := Lib.hid hbA
  clear ka hw hbA hsz
  obtain ⟨c0, c1, c2, c3, c4, c5, _⟩ := six_at K1.out
  go_upto_region 3 with (go_at_call 7; go_loud (
     refine KA.out.mono ?_
     rintro e w3 ⟨A3, n3, c3', rfl, hn3, hr3, hb3⟩
     have hb13 := HA.out.trans (hb3.mono (by simp))
     have hln := hr3.len
     have HB3 := Lib.hid (HB1.out.trans (hb13.mono (by omega)))
     have K3 := Lib.hid ((hb13.block w.heap.size (by omega)).trans K1.out)
     have HR3 := Lib.hid hr3
     have hs13 := hb13.size
     clear hb3 hb13 hr3 c0 c1 c2 c3 c4 c5))
  obtain rfl : 2 = n3 := hln
  have ko := all_any (b := bx) (l := rows) (WA := none) (MA := none) (wn := 0) (wc := 0) (mn := 0) (mcp := 0) (A := A3) (n := 2) (cp := c3') (B := w3.heap.size) (RowAt.nil _ _ _ _ _) (RowAt.nil _ _ _ _ _) (Nat.le_refl _) (Nat.le_refl _) (Nat.le_refl _) HR3.out hn3 (by decide)
  rw [all_P] at ko
  have KO := Lib.hid ko
  clear ko KA HR3
  obtain ⟨c0, c1, c2, c3, c4, c5, _⟩ := six_at K3.out
  go_upto_region 4 with (go_at_call 14; go_loud (
     refine KO.out.mono ?_
     rintro e w4 ⟨WA4, wn4, wc4, MA4, mn4, mc4, rfl, h1, h2, hlie, hb4⟩
     have HB4 := Lib.hid (HB3.out.trans (hb4.mono (by omega)))
     have HL4 := Lib.hid hlie
     have hs34 := hb4.size
     clear hb4 hlie c0 c1 c2 c3 c4 c5))
  have x5 := heap_alloc_new w4 (.cells #[.string bz.id, .int .i64 bz.valid, .int .i64 bz.next, .int .i64 bz.high, .slice WA4 wn4 wc4, .slice MA4 mn4 mc4] 25)
  obtain ⟨d0, d1, d2, d3, d4, d5, _⟩ := six_at x5
  have hm := (HL4.out (w4.alloc (.cells #[.string bz.id, .int .i64 bz.valid, .int .i64 bz.next, .int .i64 bz.high, .slice WA4 wn4 wc4, .slice MA4 mn4 mc4] 25)) (by simp) (fun k _ hk => heap_alloc_old _ _ hk)).2
  obtain rfl : 1 = mn4 := hm.len
  obtain ⟨ad, u, md, d, id, fl, ks, tx, K, kn, kc, rfl, hab, g1, m0, m1', m2, m3, m4, m5, m6, _⟩ := MsgsAt.sp hm (Below.refl _ _) (Nat.le_refl _) (j := 0) (by decide)
  have hid : id = e1 := by
    have : m1 = ⟨u, md, d, id, fl, ks, tx⟩ := Option.some.inj g1
    have := congrArg Msg.id this
    exact this.symm
  subst hid
  have ez : ad.add (0 * 7) = ad := by simp [Addr.add]
  rw [ez] at m3
  have HB5 := Lib.hid (HB4.out.alloc HB4.out.size (.cells #[.string bz.id, .int .i64 bz.valid, .int .i64 bz.next, .int .i64 bz.high, .slice WA4 wn4 wc4, .slice (some ad) 1 mc4] 25))
  clear hm x5 g1 m0 m1' m2 m4 m5 m6 ez
  unfold e1 at m3
  have hq1 : (bz.high == 2) = true := rfl
  have hq2 : (bz.next == 2) = true := rfl
  go_wp2_with fail
  go_ret
  exact ⟨rfl, HB5.out⟩
end Go.Proofs.YtnicijeeocknaaaDoor.RwAw
