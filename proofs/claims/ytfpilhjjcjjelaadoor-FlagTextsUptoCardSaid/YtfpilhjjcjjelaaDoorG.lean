/-
  The flags that every program must know: awake answers true.
-/
import Derived.Test.YtfpilhjjcjjelaaDoorF
namespace Go.Proofs.YtfpilhjjcjjelaaDoor.G
open Go.RowKit Go.Proofs.YtfpilhjjcjjelaaDoor.Kit Go.Proofs.YtfpilhjjcjjelaaDoor.Arg Go.Proofs.YtfpilhjjcjjelaaDoor.A Go.Proofs.YtfpilhjjcjjelaaDoor.B Go.Proofs.YtfpilhjjcjjelaaDoor.C Go.Proofs.YtfpilhjjcjjelaaDoor.D Go.Proofs.YtfpilhjjcjjelaaDoor.E Go.Proofs.YtfpilhjjcjjelaaDoor.F Go.Proofs.YtfpilhjjcjjelaaDoor.M

def sSEEN : ByteArray := ⟨#[92, 83, 69, 69, 78]⟩
def sWork : ByteArray := ⟨#[119, 111, 114, 107]⟩
def sDraft : ByteArray := ⟨#[92, 100, 114, 97, 102, 116]⟩
def three : List ByteArray := [sSEEN, sWork, sWork]
theorem bSeen : bitOf sSEEN = 8 := by decide +kernel
theorem bWork : bitOf sWork = 0 := by decide +kernel
theorem aWork : atB sWork = true := by decide +kernel
theorem bDraft : bitOf sDraft = 16 := by decide +kernel
theorem fl3 : fl three three.length = 8 := by decide +kernel
theorem wd3 : wd three three.length = [sWork] := by
  have h1 : wd three 1 = [] := by
    rw [wd_flag (k := 0) (x := sSEEN) rfl (by rw [bSeen]; decide)]; rfl
  have h2 : wd three 2 = [sWork] := by
    rw [wd_new (k := 1) (x := sWork) rfl bWork (by rw [h1]; simp), h1]; rfl
  show wd three 3 = _
  rw [wd_old (k := 2) (x := sWork) rfl (by rw [h2]; simp), h2]
theorem tx8 : tx (nm 8 5 ++ [sWork]) = ⟨#[40, 92, 83, 101, 101, 110, 32, 119, 111, 114, 107, 41]⟩ := by kernel_rfl
theorem name4 : nameOf 4 = ⟨#[92, 68, 101, 108, 101, 116, 101, 100]⟩ := rfl

theorem strsAt_three (w : World) (x y z : ByteArray) {b : Nat} (hb : b = w.heap.size) : StrsAt (w.alloc (.cells #[.string x, .string y, .string z] 9)) (some ⟨b, 0, none⟩) 3 [x, y, z] := by
  subst hb
  refine ⟨rfl, fun _ => ⟨_, rfl, by simp, fun j u hu => ?_⟩⟩
  match j, hu with
  | 0, hu => simp at hu; subst hu; simp [Addr.add]
  | 1, hu => simp at hu; subst hu; simp [Addr.add]
  | 2, hu => simp at hu; subst hu; simp [Addr.add]
  | j + 3, hu => simp at hu

set_option maxHeartbeats 2000000 in
set_option maxRecDepth 100000 in
theorem awake (w : World) (hn : Names w) : Calls Tryd.prog 8 #[] w fun e w' => e = .returned (.bool true) ∧ Below w.heap.size w w' := by
  have HN := Lib.hid hn
  clear hn
  obtain ⟨w1, hw1⟩ : ∃ w1, w1 = w.alloc (.cells #[.string sSEEN, .string sWork, .string sWork] 9) := ⟨_, rfl⟩
  have hb1 : Below w.heap.size w w1 := by rw [hw1]; exact (Below.refl _ _).alloc (Nat.le_refl _) _
  have K1 := split_any (some ⟨w.heap.size, 0, none⟩) 3 3 three w1 (HN.out.below hb1 HN.out.size) (by rw [hw1]; exact strsAt_three _ _ _ _ rfl)
    (by intro z hz; simp [three] at hz; rcases hz with rfl | rfl <;> decide) (by decide)
    (by intro z hz; simp [three] at hz; rcases hz with rfl | rfl; exact .inl (by rw [bSeen]; decide); exact .inr aWork)
  unfold SpPost at K1
  rw [fl3, wd3] at K1
  subst hw1
  have H1 := Lib.hid K1
  have HB1 := Lib.hid hb1
  have hT := tx8
  have hN := name4
  have hk1 : ((⟨#[40, 92, 83, 101, 101, 110, 32, 119, 111, 114, 107, 41]⟩ : ByteArray).toList == (⟨#[40, 92, 83, 101, 101, 110, 32, 119, 111, 114, 107, 41]⟩ : ByteArray).toList) = true := by simp
  have hk2 : ((⟨#[92, 68, 101, 108, 101, 116, 101, 100]⟩ : ByteArray).toList == (⟨#[92, 68, 101, 108, 101, 116, 101, 100]⟩ : ByteArray).toList) = true := by simp
  have HT := Lib.hid hT
  have HNM := Lib.hid hN
  clear K1 hb1 hT hN
  go_enter Tryd.func8, Tryd.ntmps8
  go_wp2_with fail
  refine H1.out.mono ?_
  rintro e w2 ⟨v, rfl, hown, hb2⟩
  obtain ⟨A, cp, rfl, _⟩ := own_slice hown
  have hb12 := HB1.out.trans (hb2.mono (by simp))
  have HB2 := Lib.hid hb12
  have n2 : Names w2 := HN.out.below hb12 HN.out.size
  have hb3 : Below w2.heap.size w2 (w2.alloc (.cells #[.string sWork] 9)) := (Below.refl _ _).alloc (Nat.le_refl _) _
  have T := text_any 8 (some ⟨w2.heap.size, 0, none⟩) 1 1 [sWork] (w2.alloc (.cells #[.string sWork] 9)) (n2.below hb3 n2.size) (by decide) (strsAt_new _ _ rfl) (by decide)
  rw [HT.out] at T
  have T1 := Lib.hid T
  have N2 := Lib.hid n2
  have HB3 := Lib.hid hb3
  clear hown hb2 hb12 n2 hb3 T
  go_wp2_with fail
  refine T1.out.mono ?_
  rintro e w3 ⟨rfl, hb4⟩
  have hb5 := HB3.out.trans (hb4.mono (by simp))
  have n3 : Names w3 := N2.out.below hb5 N2.out.size
  have hb6 := HB2.out.trans (hb5.mono HB2.out.size)
  have HB6 := Lib.hid hb6
  have B := bit_any sDraft w3 n3 (by decide)
  rw [bDraft] at B
  have B1 := Lib.hid B
  have N3 := Lib.hid n3
  clear hb4 hb5 hb6 n3 B
  go_wp2_with fail
  refine B1.out.mono ?_
  rintro e w4 ⟨rfl, hb7⟩
  have n4 : Names w4 := N3.out.below hb7 N3.out.size
  have hb8 := HB6.out.trans (hb7.mono HB6.out.size)
  have B := name_any 4 w4 n4
  rw [HNM.out] at B
  have B2 := Lib.hid B
  have HB8 := Lib.hid hb8
  clear hb7 n4 hb8 B
  go_wp2_with fail
  refine B2.out.mono ?_
  rintro e w5 ⟨rfl, hb9⟩
  have hb10 := HB8.out.trans (hb9.mono HB8.out.size)
  have HB10 := Lib.hid hb10
  clear hb9 hb10
  go_wp2_with fail
  go_ret
  exact ⟨rfl, HB10.out⟩
end Go.Proofs.YtfpilhjjcjjelaaDoor.G
