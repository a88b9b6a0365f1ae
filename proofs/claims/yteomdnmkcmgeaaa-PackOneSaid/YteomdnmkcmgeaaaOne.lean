/-
  Each number has one form: of any bytes that are read as one, just these are written (PackOne), for every slice of bytes.
-/
import Derived.Test.YteomdnmkcmgeaaaH
import Derived.Test.YteomdnmkcmgeaaaLaw
import Derived.Deep.CutBlock
import Derived.Deep.RegionHeld3
import Derived.Deep.DeepCutAuto
namespace Go.Proofs.Yteomdnmkcmgeaaa.packOne
open Go.ChangeShapes Go.WideShapes Go.ChangeAt Go.RowKit Go.Proofs.Yteomdnmkcmgeaaa.Kit Go.Proofs.Yteomdnmkcmgeaaa.A Go.Proofs.Yteomdnmkcmgeaaa.B Go.Proofs.Yteomdnmkcmgeaaa.D Go.Proofs.Yteomdnmkcmgeaaa.E Go.Proofs.Yteomdnmkcmgeaaa.F Go.Proofs.Yteomdnmkcmgeaaa.H

set_option maxHeartbeats 4000000 in
set_option maxRecDepth 100000 in
theorem walk (A : Option Addr) (n cp : Nat) (l : List UInt8) (w : World) (hz : BytesAt w w.heap.size A n l) (hn : n ≤ maxLen) (hnc : n ≤ cp) :
    Calls Try.prog 6 #[.slice A n cp] w fun e w' => e = .returned (.bool true) ∧ Below w.heap.size w w' := by
  have HZ := Lib.hid hz
  have HL := Lib.hid hz.1
  clear hz
  unfold maxLen at hn
  by_cases hbig : 20 < n
  · go_enter Try.func6, Try.ntmps6
    go_wp2_with (go_at_call 8; refine (H.awake _).mono ?_; rintro e w' ⟨rfl, hb⟩)
    go_ret
    exact ⟨rfl, hb⟩
  · have hn6 : n ≤ 20 := by omega
    have HN := Lib.hid (new_any (cp := cp) HZ.out (Nat.le_refl _) (by omega))
    clear hn hbig
    go_enter Try.func6, Try.ntmps6
    go_wp2_with fail
    refine HN.out.mono ?_
    rintro e w1 ⟨T, rfl, hT, R1, b1⟩
    have B1 := Lib.hid b1
    have Z1 := Lib.hid (HZ.out.below b1 (Nat.le_refl _))
    have N := num_any R1
    clear HZ HN R1 b1
    by_cases her : (ps l).2.2 = 0
    · obtain ⟨y, r, hl, hp, hy, h6⟩ := ps_ok her
      rw [hp] at N
      have HNN := Lib.hid N
      have hyl : (Lib.uvarint y).length + r.length = n := by
        have := HL.out
        rw [hl, List.length_append] at this
        exact this
      have hrd : l.drop (Lib.uvarint y).length = r := by rw [hl]; exact List.drop_left' rfl
      have hrt : l.take (Lib.uvarint y).length = Lib.uvarint y := by rw [hl]; exact List.take_left' rfl
      have HRD := Lib.hid hrd
      have HRT := Lib.hid hrt
      have HY := Lib.hid hy
      clear N hp hl hrd hrt hy her
      go_wp2_with fail
      refine HNN.out.mono ?_
      rintro e w2 ⟨rfl, R2, g2⟩
      replace R2 : RD w2 T (l.drop (Lib.uvarint y).length) 0 := R2
      rw [HRD.out] at R2
      have B2 := Lib.hid (below_of_grown B1.out g2 B1.out.size hT)
      have Z2 := Lib.hid (Z1.out.grown g2 hT)
      have HE := Lib.hid (err_any R2)
      have R2 := Lib.hid R2
      clear g2 HNN B1 Z1
      go_wp2_with fail
      refine HE.out.mono ?_
      rintro e w' ⟨rfl, rfl⟩
      have NB := number_any (cp := 0) (BytesAt.nil w2 0 none) (Nat.zero_le _) y (by decide)
      rw [cl_nat HY.out, List.nil_append] at NB
      have HNB := Lib.hid NB
      clear NB HE
      go_wp2_with fail
      refine HNB.out.mono ?_
      rintro e w3 ⟨v3, rfl, O3⟩
      obtain ⟨A3, c3, rfl, hc3⟩ := own_slice O3.own
      have R3 := RD.below R2.out O3.bel R2.out.lt
      have B3 := Lib.hid (B2.out.trans (O3.bel.mono B2.out.size))
      have Z3 := Z2.out.below O3.bel B2.out.size
      clear Z2
      have z1 : BytesAt w3.drew w3.drew.heap.size A3 (Lib.uvarint y).length (Lib.uvarint y) := O3.at_
      have t3 := Z3.take (k := (Lib.uvarint y).length) (by omega)
      rw [HRT.out] at t3
      have z2 : BytesAt w3.drew w3.drew.heap.size A (Lib.uvarint y).length (Lib.uvarint y) := BytesAt.more (w := w3.drew) t3 (Nat.le_trans (Nat.le_refl _) B3.out.size)
      have hS0 := And.intro (z1.conv c3) (z2.conv cp)
      have HLE := Lib.hid (left_any (w := w3.drew) R3)
      have HAW := Lib.hid (H.awake w3.drew)
      have B3d := Lib.hid B3.out.drew
      obtain ⟨L, hL⟩ : ∃ L, L = (Lib.uvarint y).length := ⟨_, rfl⟩
      obtain ⟨S, hS⟩ : ∃ S : ByteArray, S = ⟨(Lib.uvarint y).toArray⟩ := ⟨_, rfl⟩
      obtain ⟨rl, hrl⟩ : ∃ rl, rl = r.length := ⟨_, rfl⟩
      rw [← hL, ← hS] at hS0
      rw [← hL] at z1 z2
      have HS := Lib.hid hS
      have Z1 := Lib.hid z1
      have Z2 := Lib.hid z2
      rw [← hL] at hc3 hyl h6
      rw [← hL]
      rw [← hrl] at hyl HLE
      have h6i : (L : Int) ≤ 6 := by omega
      have hLn : (L : Int) ≤ (n : Int) := by omega
      have hsub : (n : Int) - (rl : Int) = (L : Int) := by omega
      have hcn : (L : Int) ≤ (cp : Int) := by omega
      have hwl : IntKind.i64.wrap (L : Int) = (L : Int) := by rw [IntKind.wrap_i64]; omega
      clear O3 R3 Z3 t3 z1 z2 HRD HRT HY R2 HNB hL hS hrl B2
      go_upto_region 8 with fail
      go_region_held3 (fun w' => (convert 22 9 (.slice A3 L c3)).run Try.prog w' = .ok (.string S) w' ∧ (convert 22 9 (.slice A L cp)).run Try.prog w' = .ok (.string S) w') (first | exact hS9 | exact hS0 | go_keep) (first
        | (go_at_call 18; refine HLE.out.mono ?_; rintro e w' ⟨rfl, rfl⟩; dsimp only)
        | (go_at_call 8
           refine HAW.out.mono ?_
           rintro e w9 ⟨rfl, hb9⟩
           have hS9 := And.intro ((Z1.out.below hb9 (Nat.le_refl _)).conv c3) ((Z2.out.below hb9 (Nat.le_refl _)).conv cp)
           rw [← HS.out] at hS9
           dsimp only))
      all_goals
        go_step
        go_step
        go_wp2_with fail
        go_ret
        exact ⟨rfl, B3d.out.trans (hb9.mono B3d.out.size)⟩
    · obtain ⟨er, he, hp⟩ : ∃ er : Nat, er ≠ 0 ∧ ps l = (0, 0, er) := by
        rcases ps_err her with h | h
        · exact ⟨2, by decide, h⟩
        · exact ⟨3, by decide, h⟩
      rw [hp] at N
      have HNN := Lib.hid N
      have hne := ne_int he
      clear N hp her he
      go_wp2_with fail
      refine HNN.out.mono ?_
      rintro e w2 ⟨rfl, R2, g2⟩
      replace R2 : RD w2 T l er := R2
      have B2 := Lib.hid (below_of_grown B1.out g2 B1.out.size hT)
      have HE := Lib.hid (err_any R2)
      have HLE := left_any R2
      rw [HL.out] at HLE
      have HLE := Lib.hid HLE
      clear g2 HNN B1 Z1 R2
      go_wp2_with fail
      refine HE.out.mono ?_
      rintro e w' ⟨rfl, rfl⟩
      go_wp2_with fail
      refine HLE.out.mono ?_
      rintro e w' ⟨rfl, rfl⟩
      go_wp2_with (go_at_call 8; refine (H.awake _).mono ?_; rintro e w' ⟨rfl, hb⟩)
      go_ret
      exact ⟨rfl, B2.out.trans (hb.mono B2.out.size)⟩

set_option maxRecDepth 100000 in
theorem lifted (os : Os) (started : os.Started) (H : Type) (enc : TypeId × Value → H) :
    ReturnsInHanded {} Try.checked os 6 .any (Rows.packOneSpec.pre6 enc Try.prog Try.f6 Rows.packOneRow.domain false) (Rows.packOneSpec.post enc Try.prog Try.f6 false true false false) := by
  refine returnsInHanded_of_change (C := Try.checked) Law.own started (by kernel_rfl) Try.func6
    (ChangeSpec.witness6 (enc := enc) (C := Try.checked) false ⟨#[], #[.slice none 0 0], []⟩ 8 (by kernel_rfl) (by kernel_rfl) (by kernel_rfl) (by kernel_rfl)) ?_
  intro W base args ds gs before hval hW hcnd _
  have hW' := hW
  obtain ⟨p, q, hA, hV, rfl, hfz, hnd⟩ := hW
  rw [Try.params6] at hA hval
  obtain ⟨v0, d0, rfl, rfl, h0⟩ := trodAll_one hA
  obtain ⟨rfl, rfl⟩ := trodVars_none hV
  obtain ⟨ad, len, cap, rfl⟩ := okWide_slice Try.underlying22 (hval 0 22 v0 rfl rfl)
  obtain ⟨zs, hzs, hlen, hlc⟩ := Law.open_bytes_at h0
  refine (walk ad len cap zs W hzs hlen hlc).mono fun e W' ⟨he, hb⟩ => ?_
  subst he
  exact ⟨_, rfl, Law.law_post (by kernel_rfl) (by kernel_rfl) rfl hW' rfl rfl rfl hb⟩

theorem packOne_holds : Rows.PackOneSaid :=
  OpenClaim.holds_of_wide 6 Try.f6 rfl rfl rfl rfl rfl rfl rfl ⟨rfl, rfl, rfl, rfl, rfl⟩ rfl rfl rfl rfl rfl (by kernel_rfl) Try.func6 (by kernel_rfl)
    (of_decide_eq_true (by kernel_rfl)) (by unfold Func.isWrapper; first | (rw [if_pos (by decide +kernel)]; kernel_rfl) | (rw [if_neg (by decide +kernel)]; exact ⟨rfl, rfl⟩))
    (fun os started H enc _ => lifted os started H enc)
#print axioms packOne_holds
end Go.Proofs.Yteomdnmkcmgeaaa.packOne
