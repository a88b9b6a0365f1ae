/-
  The last step of every law here: what was there when the call began has not turned, so the arguments read as they read; the answer is true. Arguments opened: boxes, messages, slices, texts, numbers.
-/
import Derived.WalkKit
import Derived.ProofKit
import Derived.OpenShut
import Derived.Carry
import Derived.Deep.Slices
import Derived.Deep.Fields
import Derived.ChangeSame
import Derived.SizedLaws
import Derived.LaidMore
import Derived.Stop.Joined
import Derived.SevenTiedAt
import Derived.Test.YtolkghdeppoanaaRows
import Derived.Test.YtolkghdeppoanaaBxKit
set_option linter.unusedVariables false
set_option linter.unusedSimpArgs false
namespace Go.Proofs.Ytolkghdeppoanaa.BxLaw
open Go.ChangeShapes Go.WideShapes Go.ChangeAt Go.WideMaps Go.WideElems Go.RowKit Go.Deep Go.Proofs.Ytolkghdeppoanaa.BxD Go.Proofs.Ytolkghdeppoanaa.BxKit

set_option maxRecDepth 100000 in
theorem own : ownKnob Try.prog.godebug = none := by kernel_rfl
set_option maxRecDepth 100000 in
theorem laidOut : laidOutB Try.prog = true := by kernel_rfl

set_option maxRecDepth 100000 in
theorem trodAll_kept {H : Type} {enc : TypeId × Value → H} {P : Program} (hl : laidOutB P = true) {W W' : World} (hb : Below W.heap.size W W') : ∀ (ts : List TypeId) (vs : List Value) (ds : List (DataW H)) (ps : List MemPlace),
    ts.all (fun t => P.readableRec t && decide (t < P.types.size)) = true → (∀ p ∈ ps, p.block < W.heap.size) → DataW.TrodAll enc P W 0 (fun _ => true) true ts vs ds ps →
    DataW.TrodAll enc P W' 0 (fun b => decide (b < W.heap.size)) true ts vs ds ps
  | [], [], [], ps, _, _, h => h
  | t :: ts, v :: vs, d :: ds, ps, ht, hlt, h => by
    obtain ⟨p, q, h1, h2, rfl⟩ := h
    simp only [List.all_cons, Bool.and_eq_true, decide_eq_true_eq] at ht
    refine ⟨p, q, Below.trod hl ht.1.1 ht.1.2 h1 hb (fun x hx => hlt x (List.mem_append_left _ hx)), trodAll_kept hl hb ts vs ds q ht.2 (fun x hx => hlt x (List.mem_append_right _ hx)) h2, rfl⟩
  | [], _ :: _, _, _, _, _, h => h.elim
  | [], [], _ :: _, _, _, _, h => h.elim
  | _ :: _, [], _, _, _, _, h => h.elim
  | _ :: _, _ :: _, [], _, _, _, h => h.elim

set_option maxRecDepth 100000 in
theorem law_post {H : Type} {enc : TypeId × Value → H} {f : Func} {s : ChangeSpec} {W W' : World} {args : Array Value} {ds gs : List (DataW H)} {before : List MemPlace}
    (hp : f.params.toList.all (fun t => Try.prog.readableRec t && decide (t < Try.prog.types.size)) = true) (hres : f.resultTypes = #[4]) (hvars : s.vars = [])
    (hW : DataW.Whole enc Try.prog f.params.toList s.vars false W args.toList ds gs before)
    (hr : (s.fn H (ds ++ gs)).results = [.lit (.bool true)]) (ha : (s.fn H (ds ++ gs)).args = ds) (hv : (s.fn H (ds ++ gs)).vars = []) (hb : Below W.heap.size W W') :
    s.post enc Try.prog f false true false false W args (.bool true) W' := by
  have hlt : ∀ p ∈ before, p.block < W.heap.size := fun p hp => hW.lt p hp
  have hW' := hW
  obtain ⟨p, q, hA, hV, rfl, hz, hn⟩ := hW
  rw [hvars] at hV
  obtain ⟨rfl, rfl⟩ := trodVars_none hV
  refine ⟨ds, [], p ++ [], [], p, [], hW', ?_, ?_, ?_, ?_, fun h => by cases h⟩
  · rw [hr, hres]
    exact trodAll_cons_mk (shut_bool Try.underlying4 _) trodAll_mk0
  · rw [ha]
    exact trodAll_kept laidOut hb _ _ _ _ hp (fun x hx => hlt x (List.mem_append_left _ hx)) hA
  · rw [hv, hvars]; rfl
  · refine World.keptBut_mono (fun x hx => ?_) (hb.frame (· ∈ p ++ []))
    exact ⟨hx, .inr (.inl (by simpa using hx))⟩
set_option maxRecDepth 100000 in
theorem reach_le : reachBytes ≤ 140737488355328 := by decide
/-- Nothing that is read takes more bytes than there may be. -/
def Small {H : Type} (t : TypeId) (d : DataW H) : Prop := ∀ k ∈ d.weights Try.prog t, k ≤ 140737488355328
set_option maxRecDepth 100000 in
theorem small_of {H : Type} {ts : List TypeId} {ds : List (DataW H)} (h : (DataW.weightsEach Try.prog ts ds).all (· ≤ reachBytes) = true) {j : Nat} {t : TypeId} {d : DataW H} (ht : ts[j]? = some t) (hd : ds[j]? = some d) : Small t d := by
  intro k hk
  have := List.all_eq_true.1 h _ (DataW.weights_mem_each ht hd k hk)
  exact Nat.le_trans (by simpa using this) reach_le
set_option maxRecDepth 100000 in
theorem weights_mem_all {H : Type} {e : TypeId} {d : DataW H} {k : Nat} (hk : k ∈ d.weights Try.prog e) : ∀ {l : List (DataW H)}, d ∈ l → k ∈ DataW.weightsAll Try.prog e l
  | x :: l, h => by
    simp only [DataW.weightsAll, List.mem_append]
    rcases List.mem_cons.1 h with rfl | h
    · exact .inl hk
    · exact .inr (weights_mem_all hk h)
section
variable {H : Type} {enc : TypeId × Value → H} {W : World}
abbrev Rd (enc : TypeId × Value → H) (W : World) (n : Nat) (t : TypeId) (cs : List Value) (x : DataW H × List MemPlace) : Prop := DataW.trod enc Try.prog W 0 (fun _ => true) true n t cs = some x

set_option maxRecDepth 100000 in
theorem fields_of {t : TypeId} {fs : Array Field} {fuel : Nat} {cs : List Value} {x : DataW H × List MemPlace} (ht : Try.prog.underlying t = some (.struct fs)) (hone : oneCellFields Try.prog fs = true) (hC : Try.prog.cellsOf t = fs.size) (h : Rd enc W fuel t cs x) (hs : Small t x.1) :
    cs.length = fs.size ∧ ∀ (j : Nat) (f : Field), fs[j]? = some f → ∃ (n : Nat) (v : Value) (y : DataW H × List MemPlace), cs[j]? = some v ∧ Rd enc W n f.type [v] y ∧ Small f.type y.1 := by
  obtain ⟨ys, n', _, hy, hlen, hyl, hf⟩ := DataW.trod_struct ht h
  refine ⟨hlen.trans hC, fun j f hj => ?_⟩
  obtain ⟨ho, hk⟩ := hone_of hone j f hj
  have hjl : j < fs.size := (Array.getElem?_eq_some_iff.1 hj).1
  have hv : cs[j]? = some (cs[j]'(by omega)) := List.getElem?_eq_getElem (by omega)
  have h1 := hf j f hj
  rw [ho, hk] at h1
  have hone' : (cs.drop j).take 1 = [cs[j]'(by omega)] := by
    rw [List.drop_eq_getElem_cons (by omega)]
    rfl
  rw [hone'] at h1
  have hys : ys[j]? = some (ys[j]'(by omega)) := List.getElem?_eq_getElem (by omega)
  refine ⟨n', _, _, hv, h1.trans hys, fun k hk => ?_⟩
  refine hs k ?_
  rw [hy]
  show k ∈ DataW.weights Try.prog t (.agg _)
  unfold DataW.weights
  rw [ht]
  refine DataW.weights_mem_each (j := j) (by rw [List.getElem?_map, Array.getElem?_toList, hj]; rfl) (by rw [List.getElem?_map, hys]; rfl) k hk

instance msg_inh : Inhabited Msg := ⟨⟨0, 0, 0, ⟨#[]⟩, 0, [], ⟨#[]⟩⟩⟩
set_option maxRecDepth 100000 in
/-- A slice that came in. -/
theorem open_row {α : Type} [Inhabited α] {C : World → Nat → Addr → α → Prop} {t e : TypeId} {sz : Nat} (ht : Try.prog.underlying t = some (.slice e)) (hC : Try.prog.cellsOf e = sz) (hsz : 0 < sz) (hby : 1 ≤ Try.prog.bytesOf e)
    (elem : ∀ (n : Nat) (cs : List Value) (x : DataW H × List MemPlace) (p : Addr), cs.length = sz → (∀ i, i < sz → W.cell? (p.add i) = cs[i]?) → Rd enc W n e cs x → Small e x.1 → ∃ y, C W W.heap.size p y)
    {fuel : Nat} {cs : List Value} {x : DataW H × List MemPlace} (h : Rd enc W fuel t cs x) (hs : Small t x.1) : ∃ A n c l, cs = [.slice A n c] ∧ n ≤ c ∧ RowAt C sz W W.heap.size A n l := by
  rcases open_slice ht h with ⟨rfl, rfl⟩ | ⟨a, len, cap, m, n, D, Pl, rfl, _, hl, hm, hmm, rfl, hi⟩
  · exact ⟨none, 0, 0, [], rfl, Nat.le_refl _, RowAt.nil _ _ _ _ _⟩
  · simp only [if_true] at hmm
    have hlen : len ≤ 140737488355328 := by
      have := hs ((((List.range len).map D).length + ((List.range (m - len)).map fun j => D (len + j)).length) * Try.prog.bytesOf e) (by simp only [DataW.weights, ht, List.mem_cons, true_or])
      simp only [List.length_map, List.length_range] at this
      have h2 : len * 1 ≤ (len + (m - len)) * Try.prog.bytesOf e := Nat.mul_le_mul (by omega) hby
      omega
    have he : ∀ i, i < len → ∃ y, C W W.heap.size (a.add (i * sz)) y := by
      intro i hil
      obtain ⟨cs', hc, hr⟩ := hi i (by omega)
      rw [hC] at hc
      obtain ⟨_, hcl, hat⟩ := World.cells?_some hc
      refine elem n cs' (D i, Pl i) _ hcl hat hr (fun k hk => hs k ?_)
      simp only [DataW.weights, ht, List.mem_cons, List.mem_append]
      exact .inr (.inl (weights_mem_all hk (List.mem_map.2 ⟨i, List.mem_range.2 hil, rfl⟩)))
    obtain ⟨Y, hY⟩ := Deep.choose_lt he
    refine ⟨some a, len, cap, (List.range len).map Y, rfl, hl, by simp, hlen, fun h0 => ⟨a, rfl, ?_, fun j z hz => ?_⟩⟩
    · obtain ⟨cs', hc, _⟩ := hi 0 (by omega)
      rw [hC] at hc
      obtain ⟨_, hcl, hat⟩ := World.cells?_some hc
      have h1 := hat 0 hsz
      rw [List.getElem?_eq_getElem (by omega)] at h1
      have := World.block_lt_of_cell? W _ h1
      rwa [add_block, add_block] at this
    · rw [List.getElem?_map] at hz
      have hj : j < len := by
        rcases Nat.lt_or_ge j len with h | h
        · exact h
        · rw [List.getElem?_eq_none (by simpa using h)] at hz; cases hz
      rw [List.getElem?_range hj] at hz
      cases hz
      exact hY j hj

set_option maxRecDepth 100000 in
theorem rd_int {n : Nat} {v : Value} {y : DataW H × List MemPlace} (h : Rd enc W n 3 [v] y) : ∃ z, v = .int .i64 z := by
  obtain ⟨z, e, _, _⟩ := DataW.trod_int Try.underlying3 h
  exact ⟨z, by simpa using e⟩
set_option maxRecDepth 100000 in
theorem rd_str {n : Nat} {v : Value} {y : DataW H × List MemPlace} (h : Rd enc W n 9 [v] y) (hs : Small 9 y.1) : ∃ s, v = .string s ∧ s.size ≤ 140737488355328 := by
  obtain ⟨s, e, hx, _⟩ := DataW.trod_string Try.underlying9 h
  refine ⟨s, by simpa using e, ?_⟩
  subst hx
  have := hs s.data.toList.length (by simp [DataW.weights])
  simpa using this
set_option maxRecDepth 100000 in
theorem rd_ints {n : Nat} {v : Value} {y : DataW H × List MemPlace} (h : Rd enc W n 110 [v] y) (hs : Small 110 y.1) : ∃ A m c l, v = .slice A m c ∧ m ≤ c ∧ IntsAt W W.heap.size A m l := by
  obtain ⟨A, m, c, l, e, h1, h2⟩ := open_row (C := intC) (sz := 1) Try.underlying110 (by kernel_rfl) (by decide) (by rw [show Try.prog.bytesOf 3 = 8 by kernel_rfl]; decide)
    (fun n cs x p hl hc hr _ => by
      obtain ⟨z, e, _, _⟩ := DataW.trod_int Try.underlying3 hr
      subst e
      have := hc 0 (by decide)
      exact ⟨z, this⟩) h hs
  exact ⟨A, m, c, l, by simpa using e, h1, h2⟩
set_option maxRecDepth 100000 in
theorem rd_strs {n : Nat} {v : Value} {y : DataW H × List MemPlace} (h : Rd enc W n 51 [v] y) (hs : Small 51 y.1) : ∃ A m c l, v = .slice A m c ∧ m ≤ c ∧ StrsAt W W.heap.size A m l := by
  obtain ⟨A, m, c, l, e, h1, h2⟩ := open_row (C := strC) (sz := 1) Try.underlying51 (by kernel_rfl) (by decide) (by rw [show Try.prog.bytesOf 9 = 16 by kernel_rfl]; decide)
    (fun n cs x p hl hc hr hs => by
      obtain ⟨s, e, hx, _⟩ := DataW.trod_string Try.underlying9 hr
      subst e hx
      have := hc 0 (by decide)
      refine ⟨s, this, ?_⟩
      have := hs s.data.toList.length (by simp [DataW.weights])
      simpa using this) h hs
  exact ⟨A, m, c, l, by simpa using e, h1, h2⟩
set_option maxRecDepth 100000 in
theorem open_intsl {r : Reach} {b0 : Nat} {v : Value} {d : DataW H} {p : List MemPlace} (hv : Value.okWide Try.prog W r b0 110 v) (h : DataW.Trod enc Try.prog W 0 (fun _ => true) true 110 v d p) (hs : Small 110 d) :
    ∃ A n c l, v = .slice A n c ∧ n ≤ c ∧ IntsAt W W.heap.size A n l := by
  obtain ⟨a, n, c, rfl⟩ := okWide_slice Try.underlying110 hv
  obtain ⟨fuel, hf⟩ := h
  obtain ⟨A, m, c', l, e, h1, h2⟩ := rd_ints (v := .slice a n c) hf hs
  exact ⟨A, m, c', l, e, h1, h2⟩
set_option maxRecDepth 100000 in
theorem open_text {r : Reach} {b0 : Nat} {v : Value} {d : DataW H} {p : List MemPlace} (hv : Value.okWide Try.prog W r b0 9 v) (h : DataW.Trod enc Try.prog W 0 (fun _ => true) true 9 v d p) (hs : Small 9 d) :
    ∃ s, v = .string s ∧ s.size ≤ 140737488355328 := by
  obtain ⟨fuel, hf⟩ := h
  obtain ⟨s, rfl, _⟩ := Go.ChangeMaps.open_string Try.underlying9 hv ⟨fuel, hf⟩
  exact rd_str (v := .string s) hf hs
end
end Go.Proofs.Ytolkghdeppoanaa.BxLaw
