/-
  RowMakes: of all boxes, messages, words, numbers: the rows that the program makes are those that the document asks (the tied card).
-/
import Derived.Test.YtnicijeeocknaaaDoorRmW
import Derived.Test.YtnicijeeocknaaaDoorRwTab
import Derived.Test.YtnicijeeocknaaaDoorBxLaw
set_option linter.unusedVariables false
set_option linter.unusedSimpArgs false
namespace Go.Proofs.YtnicijeeocknaaaDoor.rowMakes
open Go.ChangeShapes Go.WideShapes Go.ChangeAt Go.ChangeMaps Go.WideMaps Go.WideElems Go.RowKit Go.Proofs.YtnicijeeocknaaaDoor.BxD Go.Proofs.YtnicijeeocknaaaDoor.BxKit Go.Proofs.YtnicijeeocknaaaDoor.RwTab
open Go.Proofs.YtnicijeeocknaaaDoor.BxLaw hiding door_met
theorem trod6 {H : Type} {enc : TypeId × Value → H} {P : Program} {w : World} {base : _} {spare : _} {held : _} {t0 t1 t2 t3 t4 t5 : TypeId} {args : Array Value} {ds : List (DataW H)} {ps : List MemPlace} (h : DataW.TrodAll enc P w base spare held [t0, t1, t2, t3, t4, t5] args.toList ds ps) :
    ∃ v0 v1 v2 v3 v4 v5 d0 d1 d2 d3 d4 d5 p0 p1 p2 p3 p4 p5, args = #[v0, v1, v2, v3, v4, v5] ∧ ds = [d0, d1, d2, d3, d4, d5] ∧ ps = p0 ++ p1 ++ p2 ++ p3 ++ p4 ++ p5 ∧ DataW.Trod enc P w base spare held t0 v0 d0 p0 ∧ DataW.Trod enc P w base spare held t1 v1 d1 p1 ∧ DataW.Trod enc P w base spare held t2 v2 d2 p2 ∧ DataW.Trod enc P w base spare held t3 v3 d3 p3 ∧ DataW.Trod enc P w base spare held t4 v4 d4 p4 ∧ DataW.Trod enc P w base spare held t5 v5 d5 p5 := by
  obtain ⟨v0, vs0, d0, ds0, p0, q0, ha, rfl, rfl, h0, r0⟩ := trodAll_cons h
  obtain ⟨v1, vs1, d1, ds1, p1, q1, rfl, rfl, rfl, h1, r1⟩ := trodAll_cons r0
  obtain ⟨v2, vs2, d2, ds2, p2, q2, rfl, rfl, rfl, h2, r2⟩ := trodAll_cons r1
  obtain ⟨v3, vs3, d3, ds3, p3, q3, rfl, rfl, rfl, h3, r3⟩ := trodAll_cons r2
  obtain ⟨v4, vs4, d4, ds4, p4, q4, rfl, rfl, rfl, h4, r4⟩ := trodAll_cons r3
  obtain ⟨v5, vs5, d5, ds5, p5, q5, rfl, rfl, rfl, h5, r5⟩ := trodAll_cons r4
  obtain ⟨rfl, rfl, rfl⟩ := trodAll_nil r5
  exact ⟨v0, v1, v2, v3, v4, v5, d0, d1, d2, d3, d4, d5, p0, p1, p2, p3, p4, p5, by cases args; simp_all, rfl, by simp, h0, h1, h2, h3, h4, h5⟩
section
open Go.Deep
variable {H : Type} {enc : TypeId × Value → H} {W : World}
set_option maxRecDepth 100000 in
theorem strs_few {n : Nat} {K : Option Addr} {kn kc : Nat} {y : DataW H × List MemPlace} (h : Rd enc W n 22 [.slice K kn kc] y) (hs : Small 22 y.1) : kn ≤ 8796093022208 := by
  have ht := Tryd.underlying22
  have h8 : Tryd.prog.bytesOf 9 = 16 := by kernel_rfl
  rcases open_slice ht h with ⟨e, _⟩ | ⟨a, len, cap, m, n, D, Pl, e, _, hl, hm, hmm, rfl, hi⟩
  · simp only [List.cons.injEq, Value.slice.injEq, and_true] at e
    omega
  · simp only [List.cons.injEq, Value.slice.injEq, and_true] at e
    simp only [if_true] at hmm
    have := hs ((((List.range len).map D).length + ((List.range (m - len)).map fun j => D (len + j)).length) * Tryd.prog.bytesOf 9) (by simp only [DataW.weights, ht, List.mem_cons, true_or])
    simp only [List.length_map, List.length_range, h8] at this
    omega
set_option maxRecDepth 100000 in
theorem open_strsl {r : Reach} {b0 : Nat} {v : Value} {d : DataW H} {p : List MemPlace} (hv : Value.okWide Tryd.prog W r b0 22 v) (h : DataW.Trod enc Tryd.prog W 0 (fun _ => true) true 22 v d p) (hs : Small 22 d) :
    ∃ A n c l, v = .slice A n c ∧ n ≤ c ∧ StrsAt W W.heap.size A n l ∧ n ≤ 8796093022208 := by
  obtain ⟨a, n, c, rfl⟩ := okWide_slice Tryd.underlying22 hv
  obtain ⟨fuel, hf⟩ := h
  obtain ⟨A, m, c', l, e, h1, h2⟩ := rd_strs (v := .slice a n c) hf hs
  have h3 := strs_few hf hs
  injection e with e1 e2 e3
  subst e2
  exact ⟨A, n, c', l, by rw [e1, e3], h1, h2, h3⟩
end
set_option maxRecDepth 100000 in
theorem lifted (os : Os) (started : os.Started) (H : Type) (enc : TypeId × Value → H) :
    ReturnsInHanded {} Tryd.checked os 3 .any (fun w args => (Rows.rowMakesSpec.pre enc Tryd.prog Tryd.f3 [] false w args ∧ laidMetH Tryd.prog laid w) ∧ sizedMet enc Tryd.prog Tryd.f3 (OpenSpec.ofChange Rows.rowMakesSpec) false w args)
      (Rows.rowMakesSpec.post enc Tryd.prog Tryd.f3 false true false false) := by
  refine returnsInHanded_of_change_and (C := Tryd.checked) (X := fun w _ => laidMetH Tryd.prog laid w) (fun _ _ _ hh h => h.of_heap hh) BxLaw.own started (by kernel_rfl) Tryd.func3
    (ChangeSpec.witness_shaped (enc := enc) (C := Tryd.checked) (os := os) (X := fun w _ => laidMetH Tryd.prog laid w) false (World.doorLaid Tryd.prog 400 os) #[.agg #[.string ⟨#[]⟩, .int .i64 0, .int .i64 0, .int .i64 0, .slice none 0 0, .slice none 0 0], .agg #[.int .i64 0, .int .i64 0, .int .i64 0, .string ⟨#[]⟩, .int .i64 0, .slice none 0 0, .string ⟨#[]⟩], .slice none 0 0, .int .i64 0, .int .i64 0, .slice none 0 0] 8 rfl (World.shaped_of_RefB (by kernel_rfl) (by kernel_rfl)) (by kernel_rfl) (by kernel_rfl) (by kernel_rfl) (door_met os _)) ?_
  intro W base args ds gs before hval0 hW _ hsize hL _
  have hval : ∀ (j : Nat) t v, Tryd.f3.params[j]? = some t → args[j]? = some v → Value.okWide Tryd.prog W .any base t v := hval0
  have hW' := hW
  obtain ⟨p, q, hA0, hV, rfl, hfz, hnd⟩ := hW
  have hA : DataW.TrodAll enc Tryd.prog W 0 (fun _ => true) true Tryd.f3.params.toList args.toList ds p := hA0
  rw [Tryd.params3] at hA hval hsize
  obtain ⟨v0, v1, v2, v3, v4, v5, d0, d1, d2, d3, d4, d5, p0, p1, p2, p3, p4, p5, rfl, rfl, rfl, h0, h1, h2, h3, h4, h5⟩ := trod6 hA
  obtain ⟨rfl, rfl⟩ := trodVars_none hV
  obtain ⟨id0, bv0, bn0, bh0, WA0, wn0, wc0, MA0, mn0, mc0, ws0, ms0, rfl, hws0, hms0, hwc0, hmc0, hid0⟩ := open_box (hval 0 25 v0 rfl rfl) h0 (small_of hsize (j := 0) rfl rfl)
  obtain ⟨u1, md1, dt1, fl1, id1, tx1, K1, kn1, kc1, ks1, rfl, hkc1, hks1, hid1, htx1⟩ := open_msg (hval 1 28 v1 rfl rfl) h1 (small_of hsize (j := 1) rfl rfl)
  obtain ⟨A2, n2, c2, l2, rfl, hc2, hl2, hb2⟩ := open_strsl (hval 2 22 v2 rfl rfl) h2 (small_of hsize (j := 2) rfl rfl)
  obtain ⟨x3, rfl, rfl, rfl, w3⟩ := open_int Tryd.underlying3 (hval 3 3 v3 rfl rfl) h3
  obtain ⟨x4, rfl, rfl, rfl, w4⟩ := open_int Tryd.underlying3 (hval 4 3 v4 rfl rfl) h4
  obtain ⟨A5, n5, c5, l5, rfl, hc5, hl5⟩ := open_intsl (hval 5 26 v5 rfl rfl) h5 (small_of hsize (j := 5) rfl rfl)
  refine (RmW.walk (b := ⟨id0, bv0, bn0, bh0, ws0, ms0⟩) (k := x3) (how := x4) (ks := ks1) (words := l2) (us := l5) (tab_of_laid hL) hws0 hms0 hks1 hl2 hl5 hwc0 hmc0 hkc1 hc2 hc5 hb2 hid0 hid1 htx1).mono fun e W' ⟨he, hb⟩ => ?_
  subst he
  exact ⟨_, rfl, law_post (by kernel_rfl) (by kernel_rfl) rfl hW' rfl rfl rfl hb⟩

set_option maxRecDepth 100000 in
theorem row_holds : Rows.RowMakesSaid :=
  OpenClaim.holds_of_wide 3 Tryd.f3 rfl rfl rfl rfl rfl rfl rfl ⟨rfl, rfl, rfl, rfl, rfl⟩ rfl rfl rfl rfl rfl (by kernel_rfl) Tryd.func3 (by kernel_rfl)
    (of_decide_eq_true (by kernel_rfl)) (by unfold Func.isWrapper; first | (rw [if_pos (by decide +kernel)]; kernel_rfl) | (rw [if_neg (by decide +kernel)]; exact ⟨rfl, rfl⟩))
    (fun os started H enc _ => lifted os started H enc)
set_option maxRecDepth 100000 in
theorem rowMakes_holds : Rows.RowMakesCardSaid :=
  Claim7.holds_tied_plain_at .later [] [.data, .data, .data, .data] true (true, "4907fffd20e0c856664be66313c6b1d286a8b586a1d895130af0db4b6c83b8ec") false
    row_holds (fun _ h => by cases h) (by kernel_rfl) (fun _ h => by cases h) rowMakes_row_tie rfl ⟨rfl, rfl⟩ (by kernel_rfl) rfl
    (fun f fn hf hfn => by
      obtain rfl : f = 3 := Option.some.inj ((show Tryd.prog.funcNamed "mailsack/mailsacklaw7.RowMakes" = some 3 by kernel_rfl).symm.trans hf) |>.symm
      obtain rfl : fn = Tryd.f3 := (Option.some.inj (Tryd.func3.symm.trans hfn)).symm
      exact ⟨by kernel_rfl, fun j t ht => by
        rw [Tryd.params3] at ht
        have hm : t ∈ [25, 28, 22, 3, 3, 26] := by simpa using Array.mem_of_getElem? ht
        have hall : ([25, 28, 22, 3, 3, 26].all fun u => !Tryd.prog.wantsStandIn u) = true := by kernel_rfl
        exact (show Tryd.prog.wantsStandIn t = false by simpa using List.all_eq_true.1 hall t hm)⟩)
    (by kernel_rfl)
#print axioms rowMakes_holds
end Go.Proofs.YtnicijeeocknaaaDoor.rowMakes
