/-
  Rows that came in: none has more keys than an argument may hold.
-/
import Derived.Test.YtfhdoecackdflaaGreatDoorRwLaw
set_option linter.unusedVariables false
set_option linter.unusedSimpArgs false
namespace Go.Proofs.YtfhdoecackdflaaGreatDoor.ImRl
open Go.ChangeShapes Go.WideShapes Go.ChangeAt Go.WideMaps Go.WideElems Go.RowKit Go.Deep Go.Proofs.YtfhdoecackdflaaGreatDoor.BxD Go.Proofs.YtfhdoecackdflaaGreatDoor.BxKit Go.Proofs.YtfhdoecackdflaaGreatDoor.BxO Go.Proofs.YtfhdoecackdflaaGreatDoor.RwD Go.Proofs.YtfhdoecackdflaaGreatDoor.RwKit Go.Proofs.YtfhdoecackdflaaGreatDoor.RwLaw
open Go.Proofs.YtfhdoecackdflaaGreatDoor.BxLaw hiding door_met
section
variable {H : Type} {enc : TypeId × Value → H} {W : World}
set_option maxRecDepth 100000 in
theorem ints_few {n : Nat} {K : Option Addr} {kn kc : Nat} {y : DataW H × List MemPlace} (h : Rd enc W n 42 [.slice K kn kc] y) (hs : Small 42 y.1) : kn ≤ 17592186044416 := by
  have ht := Tryz.underlying42
  have h8 : Tryz.prog.bytesOf 3 = 8 := by kernel_rfl
  rcases open_slice ht h with ⟨e, _⟩ | ⟨a, len, cap, m, n, D, Pl, e, _, hl, hm, hmm, rfl, hi⟩
  · simp only [List.cons.injEq, Value.slice.injEq, and_true] at e
    omega
  · simp only [List.cons.injEq, Value.slice.injEq, and_true] at e
    simp only [if_true] at hmm
    have := hs ((((List.range len).map D).length + ((List.range (m - len)).map fun j => D (len + j)).length) * Tryz.prog.bytesOf 3) (by simp only [DataW.weights, ht, List.mem_cons, true_or])
    simp only [List.length_map, List.length_range, h8] at this
    omega
set_option maxRecDepth 100000 in
theorem row_few {n : Nat} {cs : List Value} {x : DataW H × List MemPlace} (h : Rd enc W n 46 cs x) (hs : Small 46 x.1) {K : Option Addr} {kn kc : Nat} (hK : cs[8]? = some (.slice K kn kc)) : kn ≤ 17592186044416 := by
  obtain ⟨hl, n', hf⟩ := parts_of Tryz.underlying46 h hs
  have c7 : Tryz.prog.cellsOf 44 = 7 := by kernel_rfl
  obtain ⟨y3, r3, s3⟩ := hf 3 _ rfl
  replace r3 : Rd enc W n' 44 ((cs.drop 3).take (Tryz.prog.cellsOf 44)) y3 := r3
  rw [c7] at r3
  replace s3 : Small 44 y3.1 := s3
  obtain ⟨_, hg⟩ := fields_of Tryz.underlying44 (by kernel_rfl) (by kernel_rfl) r3 s3
  obtain ⟨n5, v5, y5, e5, r5, s5⟩ := hg 5 _ rfl
  replace r5 : Rd enc W n5 42 [v5] y5 := r5
  replace s5 : Small 42 y5.1 := s5
  rw [List.getElem?_take_of_lt (by decide), List.getElem?_drop, show 3 + 5 = 8 from rfl, hK] at e5
  obtain rfl := Option.some.inj e5
  exact ints_few r5 s5
/-- A row that came in, with few keys. -/
def rowF (w : World) (B : Nat) (p : Addr) (r : Row) : Prop := rowC w B p r ∧ r.msg.keys.length ≤ 17592186044416
set_option maxRecDepth 100000 in
theorem open_few {r : Reach} {b0 : Nat} {v : Value} {d : DataW H} {p : List MemPlace} (hv : Value.okWide Tryz.prog W r b0 32 v) (h : DataW.Trod enc Tryz.prog W 0 (fun _ => true) true 32 v d p) (hs : Small 32 d) :
    ∃ A n c l, v = .slice A n c ∧ n ≤ c ∧ RowsAt W W.heap.size A n l ∧ ∀ r ∈ l, r.msg.keys.length ≤ 17592186044416 := by
  obtain ⟨a, n, c, rfl⟩ := okWide_slice Tryz.underlying32 hv
  obtain ⟨fuel, hf⟩ := h
  obtain ⟨A, m, c, l, e, h1, h2⟩ := BxLaw.open_row (C := rowF) (sz := 11) Tryz.underlying32 (by kernel_rfl) (by decide) (by rw [show Tryz.prog.bytesOf 46 = 128 by kernel_rfl]; decide)
    (fun n cs x p hl hc hr hs => by
      have hfew := fun K kn kc hK => row_few (K := K) (kn := kn) (kc := kc) hr hs hK
      obtain ⟨kd, ru, rm, u, md, d, fl, id, tx, t, K, kn, kc, ks, rfl, hkc, hks, hid, htx, ht⟩ := rd_row hr hs
      refine ⟨⟨kd, ru, rm, ⟨u, md, d, id, fl, ks, tx⟩, t⟩, ⟨?_, ?_, ?_, ?_, ?_, ?_, ?_, ?_, ⟨K, kc, ?_, ?_, ?_⟩, ?_, ?_, hid, htx, ht⟩, ?_⟩
      · have := hc 0 (by decide); exact this
      · have := hc 1 (by decide); exact this
      · have := hc 2 (by decide); exact this
      · have := hc 3 (by decide); exact this
      · have := hc 4 (by decide); exact this
      · have := hc 5 (by decide); exact this
      · have := hc 6 (by decide); exact this
      · have := hc 7 (by decide); exact this
      · have := hc 8 (by decide); rw [hks.len]; exact this
      · rw [hks.len]; exact hkc
      · rw [hks.len]; exact hks
      · have := hc 9 (by decide); exact this
      · have := hc 10 (by decide); exact this
      · show ks.length ≤ _
        rw [hks.len]
        exact hfew K kn kc rfl) hf hs
  refine ⟨A, m, c, l, (List.cons.inj e).1, h1, ⟨h2.1, h2.2.1, fun hn => ?_⟩, fun r hr => ?_⟩
  · obtain ⟨ad, e2, hlt, hc⟩ := h2.2.2 hn
    exact ⟨ad, e2, hlt, fun j x hx => (hc j x hx).1⟩
  · obtain ⟨j, hj⟩ := List.mem_iff_getElem?.1 hr
    have hjl := (List.getElem?_eq_some_iff.1 hj).1
    obtain ⟨ad, e2, hlt, hc⟩ := h2.2.2 (by have := h2.1; omega)
    exact (hc j r hj).2
end
end Go.Proofs.YtfhdoecackdflaaGreatDoor.ImRl
