/-
  A law's arguments opened: texts, calls.
-/
import Derived.Test.YtefgcckdlebfaaaOlLb
namespace Go.Proofs.Ytefgcckdlebfaaa.RkL
open Go.ChangeShapes Go.WideShapes Go.ChangeAt Go.ChangeMaps Go.WideMaps Go.WideElems Go.RowKit Go.Proofs.Ytefgcckdlebfaaa.BxD Go.Proofs.Ytefgcckdlebfaaa.BxKit Go.Proofs.Ytefgcckdlebfaaa.BxLaw Go.Proofs.Ytefgcckdlebfaaa.OlLb
open Go.Proofs.Ytefgcckdlebfaaa.PkKit (BytesAt)

/-- A call. -/
structure Cl where
  do_ : Int
  n : Int
  name : ByteArray
  data : List UInt8
  picks : List UInt8
instance cl_inh : Inhabited Cl := ⟨⟨0, 0, ⟨#[]⟩, [], []⟩⟩
def byC (w : World) (B : Nat) (p : Addr) (d : List UInt8) : Prop := ∃ D c, w.cell? p = some (.slice D d.length c) ∧ d.length ≤ c ∧ BytesAt w B D d.length d ∧ d.length ≤ 140737488355328
def callC (w : World) (B : Nat) (p : Addr) (c : Cl) : Prop :=
  w.cell? p = some (.int .i64 c.do_) ∧ w.cell? (fld p 1) = some (.int .i64 c.n) ∧ w.cell? (fld p 2) = some (.string c.name) ∧ byC w B (fld p 3) c.data ∧ byC w B (fld p 4) c.picks ∧ c.n ≤ 9223372036854775807 ∧ c.name.size ≤ 140737488355328
abbrev CallsAt := RowAt callC 5
theorem byC.keep {w w' : World} {B : Nat} {p : Addr} {d : List UInt8} (h : byC w B p d) (hp : p.block < B) (hb : Below B w w') : byC w' B p d := by
  obtain ⟨D, c, h1, h2, h3, h4⟩ := h
  exact ⟨D, c, (hb.cell hp).trans h1, h2, h3.below hb (Nat.le_refl _), h4⟩
theorem callC.keep {w w' : World} {B : Nat} {p : Addr} {c : Cl} (h : callC w B p c) (hp : p.block < B) (hb : Below B w w') : callC w' B p c := by
  obtain ⟨h0, h1, h2, h3, h4, h5⟩ := h
  exact ⟨(hb.cell hp).trans h0, (hb.cell (p := fld p 1) hp).trans h1, (hb.cell (p := fld p 2) hp).trans h2, h3.keep hp hb, h4.keep hp hb, h5⟩
/-- As the walk spells it: the five cells of a call. -/
theorem CallsAt.sp {w wr : World} {A : Option Addr} {n : Nat} {l : List Cl} (h : CallsAt w w.heap.size A n l) (hb : Below w.heap.size w wr) {j : Nat} (hj : j < n) :
    ∃ ad dd nn nm D dl dc ds P pl pc ps, A = some ad ∧ l[j]? = some ⟨dd, nn, nm, ds, ps⟩ ∧ wr.cell? (ad.add (j * 5)) = some (.int .i64 dd) ∧ wr.cell? { block := (ad.add (j * 5)).block, off := (ad.add (j * 5)).off + 1 } = some (.int .i64 nn) ∧
      wr.cell? { block := (ad.add (j * 5)).block, off := (ad.add (j * 5)).off + 2 } = some (.string nm) ∧ wr.cell? { block := (ad.add (j * 5)).block, off := (ad.add (j * 5)).off + 3 } = some (.slice D dl dc) ∧
      wr.cell? { block := (ad.add (j * 5)).block, off := (ad.add (j * 5)).off + 4 } = some (.slice P pl pc) ∧ BytesAt wr w.heap.size D dl ds ∧ BytesAt wr w.heap.size P pl ps ∧ nn ≤ 9223372036854775807 ∧ nm.size ≤ 140737488355328 ∧ dl ≤ 140737488355328 ∧ pl ≤ 140737488355328 ∧ (ad.add (j * 5)).block < w.heap.size := by
  obtain ⟨ad, ⟨dd, nn, nm, ds, ps⟩, e, hlt, hx, hc⟩ := h.get hj
  have hp : (ad.add (j * 5)).block < w.heap.size := by rw [BxKit.add_block]; exact hlt
  obtain ⟨h0, h1, h2, ⟨D, dc, h3, _, h4, h5⟩, ⟨P, pc, h6, _, h7, h8⟩, h9, h10⟩ := hc.keep hp hb
  exact ⟨ad, dd, nn, nm, D, _, dc, ds, P, _, pc, ps, e, hx, h0, h1, h2, h3, h6, h4, h7, h9, h10, h5, h8, hp⟩
section
variable {H : Type} {enc : TypeId × Value → H} {W : World}
theorem rd_intb {n : Nat} {v : Value} {y : DataW H × List MemPlace} (h : Rd enc W n 3 [v] y) : ∃ z, v = .int .i64 z ∧ z ≤ 9223372036854775807 := by
  obtain ⟨z, e, _, hw⟩ := DataW.trod_int Try.underlying3 h
  have hwr : IntKind.i64.min ≤ z ∧ z ≤ IntKind.i64.max := by simpa [Lit.wf] using hw
  exact ⟨z, by simpa using e, hwr.2⟩
theorem rd_by {n : Nat} {v : Value} {y : DataW H × List MemPlace} (h : Rd enc W n 29 [v] y) (hs : Small 29 y.1) : ∃ D c d, v = .slice D d.length c ∧ d.length ≤ c ∧ BytesAt W W.heap.size D d.length d ∧ d.length ≤ 140737488355328 := by
  obtain ⟨A, m, c', l, e, h1, h2⟩ := rd_bytes h hs
  obtain rfl := h2.len
  refine ⟨A, c', l, e, h1, ⟨rfl, fun h0 => ?_⟩, h2.max⟩
  obtain ⟨ad, e2, h3, h4⟩ := h2.2.2 h0
  refine ⟨ad, e2, h3, fun j x hj => ?_⟩
  have := h4 j x hj
  rw [Nat.mul_one] at this
  exact this
theorem rd_call {n : Nat} {cs : List Value} {x : DataW H × List MemPlace} (h : Rd enc W n 31 cs x) (hs : Small 31 x.1) :
    ∃ dd nn nm D dc ds P pc ps, cs = [.int .i64 dd, .int .i64 nn, .string nm, .slice D (List.length ds) dc, .slice P (List.length ps) pc] ∧ ds.length ≤ dc ∧ BytesAt W W.heap.size D ds.length ds ∧ ds.length ≤ 140737488355328 ∧ ps.length ≤ pc ∧ BytesAt W W.heap.size P ps.length ps ∧ ps.length ≤ 140737488355328 ∧ nn ≤ 9223372036854775807 ∧ nm.size ≤ 140737488355328 := by
  obtain ⟨hl, hf⟩ := fields_of Try.underlying31 (by kernel_rfl) (by kernel_rfl) h hs
  obtain ⟨_, v0, _, e0, r0, s0⟩ := hf 0 _ rfl
  obtain ⟨_, v1, _, e1, r1, s1⟩ := hf 1 _ rfl
  obtain ⟨_, v2, _, e2, r2, s2⟩ := hf 2 _ rfl
  obtain ⟨_, v3, _, e3, r3, s3⟩ := hf 3 _ rfl
  obtain ⟨_, v4, _, e4, r4, s4⟩ := hf 4 _ rfl
  obtain ⟨dd, rfl⟩ := rd_int r0
  obtain ⟨nn, rfl, hn⟩ := rd_intb r1
  obtain ⟨nm, rfl, hnm⟩ := rd_str r2 s2
  obtain ⟨D, dc, ds, rfl, hd1, hd2, hd3⟩ := rd_by r3 s3
  obtain ⟨P, pc, ps, rfl, hp1, hp2, hp3⟩ := rd_by r4 s4
  refine ⟨dd, nn, nm, D, dc, ds, P, pc, ps, ?_, hd1, hd2, hd3, hp1, hp2, hp3, hn, hnm⟩
  match cs, hl with
  | [a0, a1, a2, a3, a4], _ =>
    simp only [List.getElem?_cons_zero, List.getElem?_cons_succ, Option.some.injEq] at e0 e1 e2 e3 e4
    subst e0 e1 e2 e3 e4
    rfl
theorem open_calls {r : Reach} {b0 : Nat} {v : Value} {d : DataW H} {p : List MemPlace} (hv : Value.okWide Try.prog W r b0 22 v) (h : DataW.Trod enc Try.prog W 0 (fun _ => true) true 22 v d p) (hs : Small 22 d) :
    ∃ A n c l, v = .slice A n c ∧ n ≤ c ∧ CallsAt W W.heap.size A n l := by
  obtain ⟨a, n, c, rfl⟩ := okWide_slice Try.underlying22 hv
  obtain ⟨fuel, hf⟩ := h
  obtain ⟨A, m, c', l, e, h1, h2⟩ := BxLaw.open_row (C := callC) (sz := 5) Try.underlying22 (by kernel_rfl) (by decide) (by rw [show Try.prog.bytesOf 31 = 80 by kernel_rfl]; decide)
    (fun n cs x p hl hc hr hs => by
      obtain ⟨dd, nn, nm, D, dc, ds, P, pc, ps, rfl, hd1, hd2, hd3, hp1, hp2, hp3, hn, hnm⟩ := rd_call hr hs
      refine ⟨⟨dd, nn, nm, ds, ps⟩, ?_, ?_, ?_, ⟨D, dc, ?_, hd1, hd2, hd3⟩, ⟨P, pc, ?_, hp1, hp2, hp3⟩, hn, hnm⟩
      · have := hc 0 (by decide); exact this
      · have := hc 1 (by decide); exact this
      · have := hc 2 (by decide); exact this
      · have := hc 3 (by decide); exact this
      · have := hc 4 (by decide); exact this) hf hs
  have e' : [Value.slice a n c] = [Value.slice A m c'] := e
  exact ⟨A, m, c', l, by simpa using e', h1, h2⟩
theorem open_call {r : Reach} {b0 : Nat} {v : Value} {d : DataW H} {p : List MemPlace} (hv : Value.okWide Try.prog W r b0 31 v) (h : DataW.Trod enc Try.prog W 0 (fun _ => true) true 31 v d p) (hs : Small 31 d) :
    ∃ dd nn nm D dc ds P pc ps, v = .agg #[.int .i64 dd, .int .i64 nn, .string nm, .slice D (List.length ds) dc, .slice P (List.length ps) pc] ∧ BytesAt W W.heap.size D ds.length ds ∧ ds.length ≤ 140737488355328 ∧ BytesAt W W.heap.size P ps.length ps ∧ ps.length ≤ 140737488355328 ∧ nn ≤ 9223372036854775807 ∧ nm.size ≤ 140737488355328 ∧ ds.length ≤ dc ∧ ps.length ≤ pc := by
  obtain ⟨cs, rfl, hsz⟩ := okWide_struct Try.underlying31 hv
  obtain ⟨l⟩ := cs
  obtain ⟨fuel, hf⟩ := h
  have hf' : Rd enc W fuel 31 l (d, p) := hf
  obtain ⟨dd, nn, nm, D, dc, ds, P, pc, ps, rfl, hd1, hd2, hd3, hp1, hp2, hp3, hn, hnm⟩ := rd_call hf' hs
  exact ⟨dd, nn, nm, D, dc, ds, P, pc, ps, rfl, hd2, hd3, hp2, hp3, hn, hnm, hd1, hp1⟩
theorem open_strsl {r : Reach} {b0 : Nat} {v : Value} {d : DataW H} {p : List MemPlace} (hv : Value.okWide Try.prog W r b0 42 v) (h : DataW.Trod enc Try.prog W 0 (fun _ => true) true 42 v d p) (hs : Small 42 d) :
    ∃ A n c l, v = .slice A n c ∧ n ≤ c ∧ StrsAt W W.heap.size A n l := by
  obtain ⟨a, n, c, rfl⟩ := okWide_slice Try.underlying42 hv
  obtain ⟨fuel, hf⟩ := h
  obtain ⟨A, m, c', l, e, h1, h2⟩ := rd_strs (v := .slice a n c) hf hs
  exact ⟨A, m, c', l, e, h1, h2⟩
end
end Go.Proofs.Ytefgcckdlebfaaa.RkL
