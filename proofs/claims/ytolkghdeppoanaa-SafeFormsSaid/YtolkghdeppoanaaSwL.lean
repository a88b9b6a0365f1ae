/-
  A law's changes opened; changes that can be gone through.
-/
import Derived.Test.YtolkghdeppoanaaOlLb
import Derived.Test.YtolkghdeppoanaaSfE
set_option linter.unusedVariables false
set_option linter.unusedSimpArgs false
namespace Go.Proofs.Ytolkghdeppoanaa.SwL
open Go.ChangeShapes Go.WideShapes Go.ChangeAt Go.ChangeMaps Go.WideMaps Go.WideElems Go.RowKit Go.Proofs.Ytolkghdeppoanaa.BxD Go.Proofs.Ytolkghdeppoanaa.BxKit Go.Proofs.Ytolkghdeppoanaa.BxLaw Go.Proofs.Ytolkghdeppoanaa.OlLb Go.Proofs.Ytolkghdeppoanaa.RkD Go.Proofs.Ytolkghdeppoanaa.SfB Go.Proofs.Ytolkghdeppoanaa.SfC Go.Proofs.Ytolkghdeppoanaa.SfE
open Go.Proofs.Ytolkghdeppoanaa.PkKit (BytesAt)

instance ch_inh : Inhabited Ch := ⟨⟨⟨#[]⟩, false, []⟩⟩
def chC (w : World) (B : Nat) (p : Addr) (c : Ch) : Prop := chP w B 0 0 p c ∧ c.name.size ≤ 140737488355328 ∧ c.data.length ≤ 140737488355328
abbrev ChsAt := RowAt chC 3
section
variable {H : Type} {enc : TypeId × Value → H} {W : World}
set_option maxRecDepth 100000 in
theorem rd_bool {n : Nat} {v : Value} {y : DataW H × List MemPlace} (h : Rd enc W n 4 [v] y) : ∃ b, v = .bool b := by
  obtain ⟨b, e, _⟩ := DataW.trod_bool Try.underlying4 h
  exact ⟨b, by simpa using e⟩
set_option maxRecDepth 100000 in
theorem rd_by {n : Nat} {v : Value} {y : DataW H × List MemPlace} (h : Rd enc W n 23 [v] y) (hs : Small 23 y.1) : ∃ D c d, v = .slice D d.length c ∧ d.length ≤ c ∧ BytesAt W W.heap.size D d.length d ∧ d.length ≤ 140737488355328 := by
  obtain ⟨A, m, c', l, e, h1, h2⟩ := rd_bytes h hs
  obtain rfl := h2.len
  refine ⟨A, c', l, e, h1, ⟨rfl, fun h0 => ?_⟩, h2.max⟩
  obtain ⟨ad, e2, h3, h4⟩ := h2.2.2 h0
  refine ⟨ad, e2, h3, fun j x hj => ?_⟩
  have := h4 j x hj
  rw [Nat.mul_one] at this
  exact this
set_option maxRecDepth 100000 in
theorem rd_chg {n : Nat} {cs : List Value} {x : DataW H × List MemPlace} (h : Rd enc W n 42 cs x) (hs : Small 42 x.1) :
    ∃ nm ct D dc ds, cs = [.string nm, .bool ct, .slice D (List.length ds) dc] ∧ ds.length ≤ dc ∧ BytesAt W W.heap.size D ds.length ds ∧ ds.length ≤ 140737488355328 ∧ nm.size ≤ 140737488355328 := by
  obtain ⟨hl, hf⟩ := fields_of Try.underlying42 (by kernel_rfl) (by kernel_rfl) h hs
  obtain ⟨_, v0, _, e0, r0, s0⟩ := hf 0 _ rfl
  obtain ⟨_, v1, _, e1, r1, s1⟩ := hf 1 _ rfl
  obtain ⟨_, v2, _, e2, r2, s2⟩ := hf 2 _ rfl
  obtain ⟨nm, rfl, hnm⟩ := rd_str r0 s0
  obtain ⟨ct, rfl⟩ := rd_bool r1
  obtain ⟨D, dc, ds, rfl, hd1, hd2, hd3⟩ := rd_by r2 s2
  refine ⟨nm, ct, D, dc, ds, ?_, hd1, hd2, hd3, hnm⟩
  match cs, hl with
  | [a0, a1, a2], _ =>
    simp only [List.getElem?_cons_zero, List.getElem?_cons_succ, Option.some.injEq] at e0 e1 e2
    subst e0 e1 e2
    rfl
set_option maxRecDepth 100000 in
theorem rd_chgs {n : Nat} {v : Value} {y : DataW H × List MemPlace} (h : Rd enc W n 22 [v] y) (hs : Small 22 y.1) : ∃ A m c l, v = .slice A m c ∧ m ≤ c ∧ ChsAt W W.heap.size A m l := by
  obtain ⟨A, m, c', l, e, h1, h2⟩ := BxLaw.open_row (C := chC) (sz := 3) Try.underlying22 (by kernel_rfl) (by decide) (by rw [show Try.prog.bytesOf 42 = 48 by kernel_rfl]; decide)
    (fun n cs x p hl hc hr hs => by
      obtain ⟨nm, ct, D, dc, ds, rfl, hd1, hd2, hd3, hnm⟩ := rd_chg hr hs
      refine ⟨⟨nm, ct, ds⟩, ⟨?_, ?_, D, dc, ?_, hd1, .of hd2 (Nat.le_refl _)⟩, hnm, hd3⟩
      · have := hc 0 (by decide); exact this
      · have := hc 1 (by decide); exact this
      · have := hc 2 (by decide); exact this) h hs
  exact ⟨A, m, c', l, by simpa using e, h1, h2⟩
set_option maxRecDepth 100000 in
theorem open_chgs {r : Reach} {b0 : Nat} {v : Value} {d : DataW H} {p : List MemPlace} (hv : Value.okWide Try.prog W r b0 22 v) (h : DataW.Trod enc Try.prog W 0 (fun _ => true) true 22 v d p) (hs : Small 22 d) :
    ∃ A n c l, v = .slice A n c ∧ n ≤ c ∧ ChsAt W W.heap.size A n l := by
  obtain ⟨a, n, c, rfl⟩ := okWide_slice Try.underlying22 hv
  obtain ⟨fuel, hf⟩ := h
  exact rd_chgs (v := .slice a n c) hf hs
def chsC (w : World) (B : Nat) (p : Addr) (l : List Ch) : Prop := ∃ A n c, w.cell? p = some (.slice A n c) ∧ n ≤ c ∧ ChsAt w B A n l
set_option maxRecDepth 100000 in
theorem open_chgss {r : Reach} {b0 : Nat} {v : Value} {d : DataW H} {p : List MemPlace} (hv : Value.okWide Try.prog W r b0 55 v) (h : DataW.Trod enc Try.prog W 0 (fun _ => true) true 55 v d p) (hs : Small 55 d) :
    ∃ A n c l, v = .slice A n c ∧ n ≤ c ∧ RowAt chsC 1 W W.heap.size A n l := by
  obtain ⟨a, n, c, rfl⟩ := okWide_slice Try.underlying55 hv
  obtain ⟨fuel, hf⟩ := h
  obtain ⟨A, m, c', l, e, h1, h2⟩ := BxLaw.open_row (C := chsC) (sz := 1) Try.underlying55 (by kernel_rfl) (by decide) (by rw [show Try.prog.bytesOf 22 = 24 by kernel_rfl]; decide)
    (fun n cs x p hl hc hr hs => by
      match cs, hl with
      | [v], _ =>
        obtain ⟨A, m, c, l, rfl, h1, h2⟩ := rd_chgs hr hs
        exact ⟨l, A, m, c, by have := hc 0 (by decide); exact this, h1, h2⟩) hf hs
  have e' : [Value.slice a n c] = [Value.slice A m c'] := e
  exact ⟨A, m, c', l, by simpa using e', h1, h2⟩
end
/-- A law's changes: in blocks below base. -/
structure Arg (w : World) (base : Nat) (A : Option Addr) (n : Nat) (l : List Ch) : Prop where
  chs : ChsP w base 0 0 A n l
  mx : n ≤ 140737488355328
  sz : ∀ c ∈ l, c.name.size ≤ 140737488355328 ∧ c.data.length ≤ 140737488355328
section
variable {w w' : World} {base n : Nat} {A : Option Addr} {l : List Ch}
theorem Arg.of (h : ChsAt w base A n l) : Arg w base A n l := by
  refine ⟨⟨h.len, fun hn => ?_⟩, h.max, fun c hc => ?_⟩
  · obtain ⟨ad, e, hb, hx⟩ := h.2.2 hn
    exact ⟨ad, e, .inl hb, fun j c hj => (hx j c hj).1⟩
  · obtain ⟨j, hj⟩ := List.mem_iff_getElem?.1 hc
    have hl := (List.getElem?_eq_some_iff.1 hj).1
    rw [h.len] at hl
    obtain ⟨_, x, _, _, hx, hc⟩ := h.get hl
    rw [hj] at hx
    rw [Option.some.inj hx]; exact hc.2
theorem Arg.keep (h : Arg w base A n l) (hb : Below base w w') : Arg w' base A n l := ⟨h.chs.keep (Kb.below hb (Nat.le_refl _) (Nat.zero_le _)), h.mx, h.sz⟩
theorem pb_more {base lo hi k : Nat} (h : Pb base 0 0 k) : Pb base lo hi k := by unfold Pb at h ⊢; omega
theorem pb_up {base b2 lo hi k : Nat} (hb : base ≤ b2) (h : Pb base lo hi k) : Pb b2 lo hi k := by unfold Pb at h ⊢; omega
/-- What stays, stays where more stays. -/
theorem chs_mono {b2 lo hi lo2 hi2 : Nat} (hp : ∀ k, Pb base lo hi k → Pb b2 lo2 hi2 k) (h : ChsP w base lo hi A n l) : ChsP w b2 lo2 hi2 A n l := by
  refine ⟨h.1, fun hn => ?_⟩
  obtain ⟨ad, e, hb, hx⟩ := h.2 hn
  refine ⟨ad, e, hp _ hb, fun j c hj => ?_⟩
  obtain ⟨h0, h1, D, dc, h2, h3, h4, h5⟩ := hx j c hj
  refine ⟨h0, h1, D, dc, h2, h3, h4, fun hd => ?_⟩
  obtain ⟨ad2, e2, hb2, hc2⟩ := h5 hd
  exact ⟨ad2, e2, hp _ hb2, hc2⟩
end
def wgt (c : Ch) : Nat := c.name.size + c.data.length
def tot (l : List Ch) : Nat := (l.map wgt).sum
theorem tot_take {l : List Ch} {k : Nat} {x : Ch} (h : l[k]? = some x) : tot (l.take (k + 1)) = tot (l.take k) + wgt x := by
  obtain ⟨hl, rfl⟩ := List.getElem?_eq_some_iff.1 h
  unfold tot; rw [List.take_succ_eq_append_getElem hl, List.map_append, List.sum_append]; simp only [List.map_cons, List.map_nil, List.sum_cons, List.sum_nil, Nat.add_zero]
theorem wgt_le {l : List Ch} {x : Ch} (h : x ∈ l) : wgt x ≤ tot l := by
  unfold tot
  induction l with
  | nil => simp at h
  | cons a r ih =>
    rw [List.map_cons, List.sum_cons]
    rcases List.mem_cons.1 h with rfl | h
    · omega
    · have := ih h; omega
/-- Changes that can be gone through. -/
def Lt (l : List Ch) : Prop := l.length ≤ 60 ∧ tot l ≤ 500000
theorem Lt.szC {l : List Ch} (h : Lt l) : szC l := fun c hc => by
  have h1 := wgt_le hc
  have h2 := h.2
  unfold wgt at h1
  omega
/-- Heavy: 0 of changes that can be gone through. -/
def HvPost (l : List Ch) (w : World) (e : Ending) (w' : World) : Prop := ∃ h : Int, e = .returned (.int .i64 h) ∧ 0 ≤ h ∧ h ≤ 61 ∧ (h = 0 → Lt l) ∧ Below w.heap.size w w'
set_option maxHeartbeats 2000000 in
set_option maxRecDepth 100000 in
theorem heavy_any {w : World} {base : Nat} {A : Option Addr} {n c : Nat} {l : List Ch} (h : Arg w base A n l) (hbs : base ≤ w.heap.size) : Calls Try.prog 9 #[.slice A n c] w (HvPost l w) := by
  have HC := Lib.hid h.chs
  have hmx := h.mx
  have HL := Lib.hid h.chs.1
  have HZ := Lib.hid h.sz
  clear h
  go_enter Try.func9, Try.ntmps9
  go_wp2_with fail
  go_loopw [8, 3] (fun s8 s3 wr => ∃ k q : Nat, k ≤ n ∧ k ≤ 60 ∧ s8 = .int .i64 k ∧ s3 = .int .i64 q ∧ q ≤ 500000 ∧ Hid (q = tot (l.take k)) ∧ Hid (Below w.heap.size w wr)) (fun s8 _ _ => n - (intOf s8).toNat)
  case atStart => exact ⟨0, 0, Nat.zero_le _, Nat.zero_le _, rfl, rfl, Nat.zero_le _, by simp [tot, Hid], Below.refl _ _⟩
  case round =>
    obtain ⟨k, q, hk, hk1, rfl, rfl, hq, HQ, HB⟩ := hrel
    have hsz := HB.out.size
    by_cases hlt : k < n
    · obtain ⟨ad, x, b, K, kd, kc, rfl, hx, c0, c1, c2, hle, hby, hpb⟩ := HC.out.sp (Kb.below HB.out hbs (Nat.zero_le _)) hlt
      have hzx := HZ.out _ (List.mem_of_getElem? hx)
      have hz1 : x.size ≤ 140737488355328 := hzx.1
      have hz2 : kd.length ≤ 140737488355328 := hzx.2
      have htk := tot_take hx
      have hwg : wgt ⟨x, b, kd⟩ = x.size + kd.length := rfl
      rw [hwg, ← HQ.out] at htk
      obtain ⟨dl, hdl⟩ : ∃ dl, dl = kd.length := ⟨_, rfl⟩
      rw [← hdl] at htk c2 hz2
      have HTK := Lib.hid htk
      have HB1 := Lib.hid (HB.out.alloc hsz (.cells #[.string x, .bool b, .slice K dl kc] 42))
      clear hx htk hwg hby hdl hzx hpb hle
      by_cases h100 : 60 ≤ k
      · have hki : (60 : Int) ≤ (k : Int) := by omega
        go_wp2_with fail
        go_ret
        exact ⟨(k : Int) + 1, rfl, by omega, by omega, by omega, HB1.out⟩
      · have hki : ¬ (60 : Int) ≤ (k : Int) := by omega
        by_cases hgt : 500000 < q + (x.size + dl)
        · have hqi : (500000 : Int) < (q : Int) + ((x.size : Int) + (dl : Int)) := by omega
          go_wp2_with fail
          go_ret
          exact ⟨(k : Int) + 1, rfl, by omega, by omega, by omega, HB1.out⟩
        · have hqi : ¬ (500000 : Int) < (q : Int) + ((x.size : Int) + (dl : Int)) := by omega
          go_wp2_with fail
          go_roundw
          case measure => simp [intOf]; omega
          case rel => exact ⟨k + 1, q + (x.size + dl), by omega, by omega, by go_num, by go_num, by omega, by rw [HTK.out]; rfl, HB1⟩
    · obtain rfl : k = n := by omega
      have HT := Lib.hid (show Lt l by
        have h1 := HQ.out
        rw [List.take_of_length_le (by rw [HL.out]; exact Nat.le_refl _)] at h1
        exact ⟨by rw [HL.out]; exact hk1, by omega⟩)
      go_wp2_with fail
      go_ret
      exact ⟨0, rfl, by omega, by omega, fun _ => HT.out, HB.out⟩
end Go.Proofs.Ytolkghdeppoanaa.SwL
