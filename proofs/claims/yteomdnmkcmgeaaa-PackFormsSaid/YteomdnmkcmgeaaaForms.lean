/-
  Any bytes ahead, any number, any text: what is written is what the document's own answer writes (PackForms), for every slice of bytes, every int and every text.
-/
import Derived.Test.YteomdnmkcmgeaaaRg1
import Derived.Test.YteomdnmkcmgeaaaRg2
import Derived.Test.YteomdnmkcmgeaaaRg3
import Derived.Test.YteomdnmkcmgeaaaLaw
import Derived.Deep.CutBlock
import Derived.Deep.DeepCutAuto
namespace Go.Proofs.Yteomdnmkcmgeaaa.packForms
open Go.ChangeShapes Go.WideShapes Go.ChangeAt Go.ChangeMaps Go.WideMaps Go.WideElems Go.RowKit Go.Proofs.Yteomdnmkcmgeaaa.Kit Go.Proofs.Yteomdnmkcmgeaaa.A Go.Proofs.Yteomdnmkcmgeaaa.B Go.Proofs.Yteomdnmkcmgeaaa.C Go.Proofs.Yteomdnmkcmgeaaa.R Go.Proofs.Yteomdnmkcmgeaaa.Rg

theorem fx_len (m : Nat) : (fx m).length = 4 := rfl
set_option maxHeartbeats 4000000 in
theorem region {a : Act} {Q : Exit → Act → World → Prop} {A : Option Addr} {n cp : Nat} {b : List UInt8} {x : Int} {s : ByteArray} {w : World} (hQ : ∀ c (b : Act) (d : Nat) v w, Q (.panic c) (b.put (some d) v) w → Q (.panic c) b w)
    (HA : SA (.slice A n cp) (.int .i64 x) (.string s) a) (hz : BytesAt w w.heap.size A n b) (hn : n ≤ 500) (hs : s.size ≤ 500)
    (hK : ∀ (a' : Act) w', a'.tmps.size = 56 → a'.defers = [] → a'.eval (.tmp 6) = .bool true → Below w.heap.size w w' → Q .normal a' w') : code3.wp Try.prog Q a w := by
  have hbl := hz.1
  have e1 : ∃ ops, code3 = .region 3 ops true := ⟨_, by unfold code3; conv => lhs; whnf⟩
  obtain ⟨ops, hops⟩ := e1
  have hsz : ops.size = 41 ∧ Array.replicate ops.size false = #[false, false, false, false, false, false, false, false, false, false, false, false, false, false, false, false, false, false, false, false, false, false, false, false, false, false, false, false, false, false, false, false, false, false, false, false, false, false, false, false, false] := by
    have hops' := hops
    unfold code3 at hops'
    conv at hops' => lhs; whnf
    injection hops' with _ hops'
    subst hops'
    exact ⟨by kernel_rfl, by kernel_rfl⟩
  rw [hops]
  refine wp_region_any (by kernel_rfl) ?_
  rw [hsz.2, hsz.1]
  show wpAny _ _ _ _ 41 _ _ w.drew
  have hW : WB w w.drew A n b := ⟨(Below.refl _ w).drew, hz⟩
  have hsl : s.data.toList.length = s.size := by rw [Array.length_toList]; rfl
  have p1 := Lib.uvarint_pos (cl x)
  have p2 := Lib.uvarint_pos s.size
  refine part1 (L := b ++ Lib.uvarint (cl x)) (S := _) (w := w) (b := b) hops hQ (by rw [List.length_append]; omega) rfl rfl HA trivial hW (by omega) (fun wx h => ?_) (fun wx v h => ?_) ?_
  · exact (number_any h.z h.bel.size x (by omega)).mono fun e w' he => ppost he
  · exact putN_puts h x (by omega)
  intro a2 w2 HA2 HG2 hW2
  refine part2 (L := b ++ tx s) (S := _) (w := w) (b := b) hops hQ (by rw [List.length_append]; unfold tx; rw [List.length_append]; omega) rfl rfl HA2 HG2 hW2 (by omega) (fun wx h => ?_) (fun wx v h => ?_) ?_
  · exact (text_any h.z h.bel.size s (by omega) (by omega)).mono fun e w' he => ppost he
  · exact putText_G h s (by omega) (by omega)
  intro a3 w3 HA3 HG3 hW3
  refine part3 (L := b ++ fx (mx x)) (S := _) (w := w) (b := b) hops hQ (by rw [List.length_append, fx_len]; omega) rfl rfl HA3 HG3 hW3 (by omega) (fun wx h => ?_) (fun wx v h => ?_) ?_
  · exact (fixed_any h.z h.bel.size x (by omega)).mono fun e w' he => ppost he
  · exact putFixed_G h x (by omega)
  intro a4 w4 HA4 HG4 hW4
  exact part4 hops hQ rfl HA4 HG4 hW4 hK

set_option maxHeartbeats 4000000 in
set_option maxRecDepth 100000 in
theorem walk (A : Option Addr) (n cp : Nat) (l : List UInt8) (x : Int) (s : ByteArray) (w : World) (hz : BytesAt w w.heap.size A n l) (hn : n ≤ maxLen) (hsm : s.size ≤ maxLen) :
    Calls Try.prog 3 #[.slice A n cp, .int .i64 x, .string s] w fun e w' => e = .returned (.bool true) ∧ Below w.heap.size w w' := by
  have HZ := Lib.hid hz
  clear hz
  unfold maxLen at hn hsm
  by_cases hbig : 500 < n
  · go_enter Try.func3, Try.ntmps3
    go_wp2_with (go_at_call 8; refine (H.awake _).mono ?_; rintro e w' ⟨rfl, hb⟩)
    go_ret
    exact ⟨rfl, hb⟩
  · by_cases hbig2 : 500 < s.size
    · go_enter Try.func3, Try.ntmps3
      go_wp2_with (go_at_call 8; refine (H.awake _).mono ?_; rintro e w' ⟨rfl, hb⟩)
      go_ret
      exact ⟨rfl, hb⟩
    · have h5 : n ≤ 500 := by omega
      have h6 : s.size ≤ 500 := by omega
      clear hbig hbig2
      go_enter Try.func3, Try.ntmps3
      go_upto_region 3 with fail
      change code3.wp Try.prog _ _ _
      refine region (fun _ _ _ _ _ h => h) ⟨rfl, rfl, rfl, rfl, rfl⟩ HZ.out h5 h6 ?_
      intro a' w' hs hd h6 hb
      go_wp2_with fail
      refine bodyPost_ret (v := .bool true) ?_ hd ⟨rfl, hb⟩
      rw [results_tmp (t := 6) rfl]
      congr 1

set_option maxRecDepth 100000 in
theorem lifted (os : Os) (started : os.Started) (H : Type) (enc : TypeId × Value → H) :
    ReturnsInHanded {} Try.checked os 3 .any (Rows.packFormsSpec.pre6 enc Try.prog Try.f3 Rows.packFormsRow.domain false) (Rows.packFormsSpec.post enc Try.prog Try.f3 false true false false) := by
  refine returnsInHanded_of_change (C := Try.checked) Law.own started (by kernel_rfl) Try.func3
    (ChangeSpec.witness6 (enc := enc) (C := Try.checked) false ⟨#[], #[.slice none 0 0, .int .i64 0, .string ⟨#[]⟩], []⟩ 8 (by kernel_rfl) (by kernel_rfl) (by kernel_rfl) (by kernel_rfl)) ?_
  intro W base args ds gs before hval hW hcnd _
  have hW' := hW
  obtain ⟨p, q, hA, hV, rfl, hfz, hnd⟩ := hW
  rw [Try.params3] at hA hval
  obtain ⟨v0, v1, v2, d0, d1, d2, p0, p1, p2, rfl, rfl, rfl, h0, h1, h2⟩ := trodAll_three hA
  obtain ⟨rfl, rfl⟩ := trodVars_none hV
  obtain ⟨ad, len, cap, rfl⟩ := okWide_slice Try.underlying22 (hval 0 22 v0 rfl rfl)
  obtain ⟨zs, hzs, hlen, hlc⟩ := Law.open_bytes_at h0
  obtain ⟨a1, rfl, rfl, rfl, w1⟩ := open_int Try.underlying3 (hval 1 3 v1 rfl rfl) h1
  obtain ⟨s, rfl, rfl, rfl, ws⟩ := open_string Try.underlying9 (hval 2 9 v2 rfl rfl) h2
  refine (walk ad len cap zs a1 s W hzs hlen ws).mono fun e W' ⟨he, hb⟩ => ?_
  subst he
  exact ⟨_, rfl, Law.law_post (by kernel_rfl) (by kernel_rfl) rfl hW' rfl rfl rfl hb⟩

theorem packForms_holds : Rows.PackFormsSaid :=
  OpenClaim.holds_of_wide 3 Try.f3 rfl rfl rfl rfl rfl rfl rfl ⟨rfl, rfl, rfl, rfl, rfl⟩ rfl rfl rfl rfl rfl (by kernel_rfl) Try.func3 (by kernel_rfl)
    (of_decide_eq_true (by kernel_rfl)) (by unfold Func.isWrapper; first | (rw [if_pos (by decide +kernel)]; kernel_rfl) | (rw [if_neg (by decide +kernel)]; exact ⟨rfl, rfl⟩))
    (fun os started H enc _ => lifted os started H enc)
#print axioms packForms_holds
end Go.Proofs.Yteomdnmkcmgeaaa.packForms
