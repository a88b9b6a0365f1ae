/-
  The last step of every law here: what was there when the call began has not turned, so the arguments read as they read; the answer is true.
-/
import Derived.Test.YteomdnmkcmgeaaaRows
import Derived.WalkKit
import Derived.ProofKit
import Derived.OpenShut
import Derived.Carry
import Derived.SliceStrings
import Derived.Test.YteomdnmkcmgeaaaKit
namespace Go.Proofs.Yteomdnmkcmgeaaa.Law
open Go.ChangeShapes Go.WideShapes Go.ChangeAt Go.RowKit Go.Proofs.Yteomdnmkcmgeaaa.Kit

theorem own : ownKnob Try.prog.godebug = none := by kernel_rfl
theorem laidOut : laidOutB Try.prog = true := by kernel_rfl

theorem trodAll_kept {H : Type} {enc : TypeId × Value → H} {P : Program} (hl : laidOutB P = true) {W W' : World} (hb : Below W.heap.size W W') : ∀ (ts : List TypeId) (vs : List Value) (ds : List (DataW H)) (ps : List MemPlace),
    ts.all (fun t => P.readableRec t && decide (t < P.types.size)) = true → (∀ p ∈ ps, p.block < W.heap.size) → DataW.TrodAll enc P W 0 (fun _ => true) true ts vs ds ps →
    DataW.TrodAll enc P W' 0 (fun b => decide (b < W.heap.size)) true ts vs ds ps
  | [], [], [], ps, _, _, h => h
  | t :: ts, v :: vs, d :: ds, ps, ht, hlt, h => by
    obtain ⟨p, q, h1, h2, rfl⟩ := h
    simp only [List.all_cons, Bool.and_eq_true, decide_eq_true_eq] at ht
    refine ⟨p, q, Below.trod hl ht.1.1 ht.1.2 h1 hb (fun x hx => hlt x (List.mem_append_left _ hx)), trodAll_kept hl hb ts vs ds q ht.2 (fun x hx => hlt x (List.mem_append_right _ hx)) h2, rfl⟩
  | [], _ :: _, _, _, _, _, h => h.elim
  | [], [], _ :: _, _, _, _, h => h.elim
  | _ :: _, [], _, _, _, _, h => h.elim
  | _ :: _, _ :: _, [], _, _, _, h => h.elim

theorem law_post {H : Type} {enc : TypeId × Value → H} {f : Func} {s : ChangeSpec} {W W' : World} {args : Array Value} {ds gs : List (DataW H)} {before : List MemPlace}
    (hp : f.params.toList.all (fun t => Try.prog.readableRec t && decide (t < Try.prog.types.size)) = true) (hres : f.resultTypes = #[4]) (hvars : s.vars = [])
    (hW : DataW.Whole enc Try.prog f.params.toList s.vars false W args.toList ds gs before)
    (hr : (s.fn H (ds ++ gs)).results = [.lit (.bool true)]) (ha : (s.fn H (ds ++ gs)).args = ds) (hv : (s.fn H (ds ++ gs)).vars = []) (hb : Below W.heap.size W W') :
    s.post enc Try.prog f false true false false W args (.bool true) W' := by
  have hlt : ∀ p ∈ before, p.block < W.heap.size := fun p hp => hW.lt p hp
  have hW' := hW
  obtain ⟨p, q, hA, hV, rfl, hz, hn⟩ := hW
  rw [hvars] at hV
  obtain ⟨rfl, rfl⟩ := trodVars_none hV
  refine ⟨ds, [], p ++ [], [], p, [], hW', ?_, ?_, ?_, ?_, fun h => by cases h⟩
  · rw [hr, hres]
    exact trodAll_cons_mk (shut_bool Try.underlying4 _) trodAll_mk0
  · rw [ha]
    exact trodAll_kept laidOut hb _ _ _ _ hp (fun x hx => hlt x (List.mem_append_left _ hx)) hA
  · rw [hv, hvars]; rfl
  · refine World.keptBut_mono (fun x hx => ?_) (hb.frame (· ∈ p ++ []))
    exact ⟨hx, .inr (.inl (by simpa using hx))⟩

/-- A slice of ints that came in. -/
def IntsAt (w : World) (A : Option Addr) (n : Nat) (zs : List Int) : Prop :=
  zs.length = n ∧ (0 < n → ∃ ad, A = some ad ∧ ad.block < w.heap.size ∧ ∀ j z, zs[j]? = some z → w.cell? (ad.add j) = some (.int .i64 z))
/-- A slice of texts that came in. -/
def StrsAt (w : World) (A : Option Addr) (n : Nat) (zs : List ByteArray) : Prop :=
  zs.length = n ∧ (0 < n → ∃ ad, A = some ad ∧ ad.block < w.heap.size ∧ ∀ j z, zs[j]? = some z → w.cell? (ad.add j) = some (.string z))
theorem IntsAt.at_ {w wr : World} {A : Option Addr} {n B : Nat} {zs : List Int} (h : IntsAt w A n zs) (hb : Below B w wr) (hB : w.heap.size ≤ B) {j : Nat} (hj : j < n) :
    ∃ ad x, A = some ad ∧ zs[j]? = some x ∧ wr.cell? (ad.add j) = some (.int .i64 x) := by
  obtain ⟨hl, hc⟩ := h
  obtain ⟨ad, rfl, hlt, hcell⟩ := hc (by omega)
  refine ⟨ad, zs[j]'(by omega), rfl, List.getElem?_eq_getElem (by omega), ?_⟩
  rw [hb.cell (p := ad.add j) (by rw [add_block]; omega)]
  exact hcell j _ (List.getElem?_eq_getElem (by omega))
theorem StrsAt.at_ {w wr : World} {A : Option Addr} {n B : Nat} {zs : List ByteArray} (h : StrsAt w A n zs) (hb : Below B w wr) (hB : w.heap.size ≤ B) {j : Nat} (hj : j < n) :
    ∃ ad x, A = some ad ∧ zs[j]? = some x ∧ wr.cell? (ad.add j) = some (.string x) := by
  obtain ⟨hl, hc⟩ := h
  obtain ⟨ad, rfl, hlt, hcell⟩ := hc (by omega)
  refine ⟨ad, zs[j]'(by omega), rfl, List.getElem?_eq_getElem (by omega), ?_⟩
  rw [hb.cell (p := ad.add j) (by rw [add_block]; omega)]
  exact hcell j _ (List.getElem?_eq_getElem (by omega))

theorem open_ints_at {H : Type} {enc : TypeId × Value → H} {W : World} {a0 : Option Addr} {len cap : Nat} {d : DataW H} {p : List MemPlace} (h : DataW.Trod enc Try.prog W 0 (fun _ => true) true 27 (.slice a0 len cap) d p) :
    ∃ zs, IntsAt W a0 len zs ∧ len ≤ maxLen := by
  obtain ⟨fuel, hf⟩ := h
  rcases open_ints Try.underlying27 Try.underlying3 (by kernel_rfl) hf with ⟨hcs, hx⟩ | ⟨a, len', cap', zs, hcs, _, hl, hm, hz, hx, hcell, hwz⟩
  · simp [Value.cells] at hcs
    obtain ⟨rfl, rfl, rfl⟩ := hcs
    exact ⟨[], ⟨rfl, fun h => absurd h (Nat.lt_irrefl 0)⟩, Nat.zero_le _⟩
  · simp [Value.cells] at hcs
    obtain ⟨rfl, rfl, rfl⟩ := hcs
    simp only [if_true] at hz
    have hc : ∀ j z, (zs.take len)[j]? = some z → W.cell? (a.add j) = some (.int .i64 z) := by
      intro j z hj
      rw [List.getElem?_take] at hj
      split at hj
      · have hjl := (List.getElem?_eq_some_iff.1 hj).1
        rw [hcell j hjl, List.getD_eq_getElem?_getD, hj]
        rfl
      · cases hj
    refine ⟨zs.take len, ⟨by rw [List.length_take]; omega, fun h0 => ⟨a, rfl, ?_, hc⟩⟩, by omega⟩
    have := World.block_lt_of_cell? W _ (hcell 0 (by omega))
    rwa [add_block] at this

theorem open_strs_at {H : Type} {enc : TypeId × Value → H} {W : World} {a0 : Option Addr} {len cap : Nat} {d : DataW H} {p : List MemPlace} (h : DataW.Trod enc Try.prog W 0 (fun _ => true) true 28 (.slice a0 len cap) d p) :
    ∃ zs, StrsAt W a0 len zs ∧ len ≤ maxLen := by
  obtain ⟨fuel, hf⟩ := h
  rcases open_strings Try.underlying28 Try.underlying9 (by kernel_rfl) hf with ⟨hcs, hx⟩ | ⟨a, len', cap', zs, hcs, _, hl, hm, hz, hx, hcell, hwz⟩
  · simp [Value.cells] at hcs
    obtain ⟨rfl, rfl, rfl⟩ := hcs
    exact ⟨[], ⟨rfl, fun h => absurd h (Nat.lt_irrefl 0)⟩, Nat.zero_le _⟩
  · simp [Value.cells] at hcs
    obtain ⟨rfl, rfl, rfl⟩ := hcs
    simp only [if_true] at hz
    have hc : ∀ j z, (zs.take len)[j]? = some z → W.cell? (a.add j) = some (.string z) := by
      intro j z hj
      rw [List.getElem?_take] at hj
      split at hj
      · have hjl := (List.getElem?_eq_some_iff.1 hj).1
        rw [hcell j hjl, List.getD_eq_getElem?_getD, hj]
        rfl
      · cases hj
    refine ⟨zs.take len, ⟨by rw [List.length_take]; omega, fun h0 => ⟨a, rfl, ?_, hc⟩⟩, by omega⟩
    have := World.block_lt_of_cell? W _ (hcell 0 (by omega))
    rwa [add_block] at this

theorem open_bytes_at {H : Type} {enc : TypeId × Value → H} {W : World} {a0 : Option Addr} {len cap : Nat} {d : DataW H} {p : List MemPlace} (h : DataW.Trod enc Try.prog W 0 (fun _ => true) true 22 (.slice a0 len cap) d p) :
    ∃ l, BytesAt W W.heap.size a0 len l ∧ len ≤ maxLen ∧ len ≤ cap := by
  obtain ⟨fuel, hf⟩ := h
  rcases open_ints Try.underlying22 Try.underlying5 (by kernel_rfl) hf with ⟨hcs, hx⟩ | ⟨a, len', cap', zs, hcs, _, hl, hm, hz, hx, hcell, hwz⟩
  · simp [Value.cells] at hcs
    obtain ⟨rfl, rfl, rfl⟩ := hcs
    exact ⟨[], BytesAt.nil _ _ _, Nat.zero_le _, Nat.le_refl _⟩
  · simp [Value.cells] at hcs
    obtain ⟨rfl, rfl, rfl⟩ := hcs
    simp only [if_true] at hz
    refine ⟨(zs.take len).map fun z => z.toNat.toUInt8, ⟨by rw [List.length_map, List.length_take]; omega, fun h0 => ⟨a, rfl, ?_, fun j c hj => ?_⟩⟩, by omega, hl⟩
    · have := World.block_lt_of_cell? W _ (hcell 0 (by omega))
      rwa [add_block] at this
    · rw [List.getElem?_map, List.getElem?_take] at hj
      split at hj
      · cases hzj : zs[j]? with
        | none => rw [hzj] at hj; cases hj
        | some z =>
          rw [hzj] at hj
          have hjl := (List.getElem?_eq_some_iff.1 hzj).1
          have hw := hwz z (List.mem_of_getElem? hzj)
          rw [hcell j hjl, List.getD_eq_getElem?_getD, hzj]
          have hc : z.toNat.toUInt8 = c := Option.some.inj hj
          rw [← hc]
          have hwr : IntKind.u8.min ≤ z ∧ z ≤ IntKind.u8.max := by simpa [Lit.wf] using hw
          have hwr1 : 0 ≤ z := hwr.1
          have hwr2 : z ≤ 255 := hwr.2
          have e : z.toNat.toUInt8.toNat = z.toNat := by rw [Nat.toUInt8_eq, UInt8.toNat_ofNat', Nat.mod_eq_of_lt (by omega)]
          rw [e]
          show some (Value.int IntKind.u8 z) = _
          congr 2
          omega
      · cases hj
end Go.Proofs.Yteomdnmkcmgeaaa.Law
