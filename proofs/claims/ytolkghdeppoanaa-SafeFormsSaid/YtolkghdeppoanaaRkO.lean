/-
  Plain lemmas: a row of names in order (the place of a name, what is put, what is cut), and blocks of memory that are known whole. Nothing here speaks of the program.
-/
import Derived.Below
import Derived.Laws.OwnMore
import Derived.Laws.CopyRow
import Derived.Laws.Rows
import Derived.Deep.Draws
import Derived.Lib.Hide
import Derived.RegionTactic
set_option linter.unusedVariables false
set_option linter.unusedSimpArgs false
namespace Go.Proofs.Ytolkghdeppoanaa.RkO
open Go.RowKit

/-! ## Names in order -/
section
variable {κ υ : Type} (cm : κ → κ → Int)

structure Ord : Prop where
  eq0 : ∀ a b, cm a b = 0 ↔ a = b
  anti : ∀ a b, cm a b < 0 ↔ 0 < cm b a
  trans : ∀ a b c, cm a b < 0 → cm b c < 0 → cm a c < 0

/-- how many names at the head lie below k -/
def lo (k : κ) : List (κ × υ) → Nat
  | [] => 0
  | p :: r => if cm p.1 k < 0 then lo k r + 1 else 0

def hit (k : κ) (ps : List (κ × υ)) : Bool := match ps[lo cm k ps]? with
  | some p => decide (cm p.1 k = 0)
  | none => false

def Srt (ps : List (κ × υ)) : Prop := ps.Pairwise (fun p q => cm p.1 q.1 < 0)

def ins (k : κ) (v : υ) (ps : List (κ × υ)) : List (κ × υ) := ps.take (lo cm k ps) ++ (k, v) :: ps.drop (lo cm k ps)
def upd (k : κ) (v : υ) (ps : List (κ × υ)) : List (κ × υ) := ps.set (lo cm k ps) (k, v)
def put (k : κ) (v : υ) (ps : List (κ × υ)) : List (κ × υ) := if hit cm k ps then upd cm k v ps else ins cm k v ps
def cut (k : κ) (ps : List (κ × υ)) : List (κ × υ) := if hit cm k ps then ps.take (lo cm k ps) ++ ps.drop (lo cm k ps + 1) else ps

set_option maxRecDepth 100000 in
theorem lo_le (k : κ) : ∀ ps : List (κ × υ), lo cm k ps ≤ ps.length
  | [] => Nat.le_refl _
  | p :: r => by
    unfold lo
    have := lo_le k r
    split <;> simp <;> omega

set_option maxRecDepth 100000 in
theorem lo_below (k : κ) : ∀ (ps : List (κ × υ)) (i : Nat) (p : κ × υ), i < lo cm k ps → ps[i]? = some p → cm p.1 k < 0
  | [], i, p, h, _ => by simp [lo] at h
  | q :: r, i, p, h, hp => by
    unfold lo at h
    split at h
    · rename_i hq
      cases i with
      | zero => simp at hp; subst hp; exact hq
      | succ i => exact lo_below k r i p (by omega) (by simpa using hp)
    · omega

set_option maxRecDepth 100000 in
theorem lo_at (k : κ) : ∀ (ps : List (κ × υ)) (p : κ × υ), ps[lo cm k ps]? = some p → ¬ cm p.1 k < 0
  | [], p, h => by simp [lo] at h
  | q :: r, p, h => by
    unfold lo at h
    split at h
    · exact lo_at k r p (by simpa using h)
    · simp at h; subst h; assumption

set_option maxRecDepth 100000 in
theorem lo_eq (k : κ) : ∀ (ps : List (κ × υ)) (i : Nat), i ≤ ps.length → (∀ j p, j < i → ps[j]? = some p → cm p.1 k < 0) → (∀ p, ps[i]? = some p → ¬ cm p.1 k < 0) → lo cm k ps = i
  | [], i, hi, _, _ => by simp at hi; simp [lo, hi]
  | q :: r, 0, _, _, h2 => by
    have := h2 q rfl
    simp [lo, this]
  | q :: r, i + 1, hi, h1, h2 => by
    have hq := h1 0 q (by omega) rfl
    have := lo_eq k r i (by simpa using hi) (fun j p hj hp => h1 (j + 1) p (by omega) (by simpa using hp)) (fun p hp => h2 p (by simpa using hp))
    simp [lo, hq, this]

variable {cm}
variable (O : Ord cm)
include O

set_option maxRecDepth 100000 in
theorem Ord.refl (a : κ) : cm a a = 0 := (O.eq0 a a).2 rfl

set_option maxRecDepth 100000 in
theorem hit_iff {k : κ} {ps : List (κ × υ)} : hit cm k ps = true ↔ ∃ v, ps[lo cm k ps]? = some (k, v) := by
  unfold hit
  cases h : ps[lo cm k ps]? with
  | none => simp
  | some p =>
    obtain ⟨a, v⟩ := p
    simp [O.eq0]

set_option maxRecDepth 100000 in
/-- behind the place of k nothing lies below k; but for a hit, nothing is k -/
theorem above {k : κ} {ps : List (κ × υ)} (hs : Srt cm ps) {i : Nat} {p : κ × υ} (hi : lo cm k ps ≤ i) (hp : ps[i]? = some p) : ¬ cm p.1 k < 0 := by
  have hlt : i < ps.length := (List.getElem?_eq_some_iff.1 hp).1
  rcases Nat.lt_or_eq_of_le hi with h | h
  · have hq : ps[lo cm k ps]? = some (ps[lo cm k ps]'(by omega)) := List.getElem?_eq_getElem (by omega)
    have h1 := lo_at cm k ps _ hq
    have h2 := List.pairwise_iff_getElem.1 hs (lo cm k ps) i (by omega) hlt h
    rw [(List.getElem?_eq_some_iff.1 hp).2] at h2
    intro h3
    exact h1 (O.trans _ _ _ h2 h3)
  · subst h; exact lo_at cm k ps _ hp

set_option maxRecDepth 100000 in
theorem srt_ins {k : κ} {v : υ} {ps : List (κ × υ)} (hs : Srt cm ps) (hh : hit cm k ps = false) : Srt cm (ins cm k v ps) := by
  unfold ins Srt
  have hs' := hs
  unfold Srt at hs'
  rw [← List.take_append_drop (lo cm k ps) ps] at hs'
  obtain ⟨h1, h2, h3⟩ := List.pairwise_append.1 hs'
  have hlow : ∀ p ∈ ps.take (lo cm k ps), cm p.1 k < 0 := by
    intro p hp
    obtain ⟨i, hi, rfl⟩ := List.getElem_of_mem hp
    rw [List.length_take] at hi
    rw [List.getElem_take]
    exact lo_below cm k ps i _ (by omega) (List.getElem?_eq_getElem (by omega))
  have hup : ∀ p ∈ ps.drop (lo cm k ps), cm k p.1 < 0 := by
    intro p hp
    obtain ⟨i, hi, rfl⟩ := List.getElem_of_mem hp
    rw [List.length_drop] at hi
    rw [List.getElem_drop]
    have hg : ps[lo cm k ps + i]? = some (ps[lo cm k ps + i]'(by omega)) := List.getElem?_eq_getElem (by omega)
    have ha := above O (k := k) (i := lo cm k ps + i) hs (Nat.le_add_right _ _) hg
    have hne : cm (ps[lo cm k ps + i]'(by omega)).1 k ≠ 0 := by
      intro h0
      rcases Nat.eq_zero_or_pos i with hz | hz
      · subst hz
        have := (hit_iff O (k := k) (ps := ps)).2 ⟨(ps[lo cm k ps]'(by omega)).2, by
          have e := (O.eq0 _ _).1 h0
          rw [List.getElem?_eq_getElem (by omega)]
          congr 1
          exact Prod.ext e rfl⟩
        rw [this] at hh; cases hh
      · have hq : ps[lo cm k ps]? = some (ps[lo cm k ps]'(by omega)) := List.getElem?_eq_getElem (by omega)
        have h1 := lo_at cm k ps _ hq
        have h2 := List.pairwise_iff_getElem.1 hs (lo cm k ps) (lo cm k ps + i) (by omega) (by omega) (by omega)
        rw [(O.eq0 _ _).1 h0] at h2
        exact h1 h2
    have := (O.anti k (ps[lo cm k ps + i]'(by omega)).1).2 (by omega)
    exact this
  refine List.pairwise_append.2 ⟨h1, List.pairwise_cons.2 ⟨hup, h2⟩, ?_⟩
  intro a ha b hb
  rcases List.mem_cons.1 hb with rfl | hb
  · exact hlow a ha
  · exact h3 a ha b hb

set_option maxRecDepth 100000 in
theorem map_upd {k : κ} {v : υ} {ps : List (κ × υ)} (hh : hit cm k ps = true) : (upd cm k v ps).map (·.1) = ps.map (·.1) := by
  obtain ⟨u, hu⟩ := (hit_iff O).1 hh
  unfold upd
  apply List.ext_getElem?
  intro i
  simp only [List.getElem?_map, List.getElem?_set]
  split
  · rename_i h; subst h
    have := (List.getElem?_eq_some_iff.1 hu).1
    rw [if_pos this, hu]; rfl
  · rfl

omit O in
set_option maxRecDepth 100000 in
theorem srt_map {ps qs : List (κ × υ)} (h : ps.map (·.1) = qs.map (·.1)) (hs : Srt cm qs) : Srt cm ps := by
  unfold Srt at *
  have h1 : (qs.map (·.1)).Pairwise (fun a b => cm a b < 0) := List.pairwise_map.2 hs
  rw [← h] at h1
  exact List.pairwise_map.1 h1

set_option maxRecDepth 100000 in
theorem srt_put {k : κ} {v : υ} {ps : List (κ × υ)} (hs : Srt cm ps) : Srt cm (put cm k v ps) := by
  unfold put
  cases hh : hit cm k ps with
  | true => exact srt_map (map_upd O hh) hs
  | false => exact srt_ins O hs hh

omit O in
set_option maxRecDepth 100000 in
theorem srt_cut {k : κ} {ps : List (κ × υ)} (hs : Srt cm ps) : Srt cm (cut cm k ps) := by
  unfold cut
  split
  · refine List.Pairwise.sublist ?_ hs
    have h1 : (ps.drop (lo cm k ps + 1)).Sublist (ps.drop (lo cm k ps)) := by
      rw [← List.drop_drop]
      exact List.drop_sublist _ _
    have := List.Sublist.append (List.Sublist.refl (ps.take (lo cm k ps))) h1
    rwa [List.take_append_drop] at this
  · exact hs

omit O in
set_option maxRecDepth 100000 in
theorem hit_lt {k : κ} {ps : List (κ × υ)} (h : hit cm k ps = true) : lo cm k ps < ps.length := by
  unfold hit at h
  split at h
  · rename_i p hp; exact (List.getElem?_eq_some_iff.1 hp).1
  · cases h

omit O in
set_option maxRecDepth 100000 in
theorem length_put {k : κ} {v : υ} {ps : List (κ × υ)} : (put cm k v ps).length = if hit cm k ps then ps.length else ps.length + 1 := by
  have := lo_le cm k ps
  unfold put
  split <;> simp [upd, ins] <;> omega

omit O in
set_option maxRecDepth 100000 in
theorem length_cut {k : κ} {ps : List (κ × υ)} : (cut cm k ps).length = if hit cm k ps then ps.length - 1 else ps.length := by
  unfold cut
  split
  · rename_i h
    have := hit_lt h
    simp; omega
  · rfl
end

/-! ## Blocks of memory that are known whole -/
def Row (w : World) (g : Nat) (t : TypeId) (l : List Value) : Prop := w.heap[g]? = some (.cells l.toArray t (0, 0))

section
variable {w w' : World} {g : Nat} {t : TypeId} {l : List Value}
set_option maxRecDepth 100000 in
theorem Row.lt (h : Row w g t l) : g < w.heap.size := (Array.getElem?_eq_some_iff.1 h).1
set_option maxRecDepth 100000 in
theorem Row.cell (h : Row w g t l) (i : Nat) : w.cell? ⟨g, i, none⟩ = l[i]? := by
  rw [cell_of_row w g i _ t (0, 0) h]; simp
set_option maxRecDepth 100000 in
theorem Row.frozen (h : Row w g t l) (i : Nat) : w.frozen? ⟨g, i, none⟩ = false := by
  unfold Row at h; simp [World.frozen?, h]
set_option maxRecDepth 100000 in
theorem Row.same (h : Row w g t l) (hb : w'.heap[g]? = w.heap[g]?) : Row w' g t l := hb.trans h
set_option maxRecDepth 100000 in
theorem Row.alloc (h : Row w g t l) (o : Obj) : Row (w.alloc o) g t l := h.same (Below.heap_alloc w o g h.lt)
set_option maxRecDepth 100000 in
theorem Row.below (h : Row w g t l) {B : Nat} (hb : Below B w w') (hg : g < B) : Row w' g t l := h.same (hb.block g hg)
set_option maxRecDepth 100000 in
theorem Row.stored (h : Row w g t l) (i : Nat) (u : Value) : Row (w.setCell ⟨g, i, none⟩ u) g t (l.set i u) := by
  unfold Row at *
  simp [World.setCell, Array.getElem?_modify, h]
set_option maxRecDepth 100000 in
theorem Row.far (h : Row w g t l) {p : Addr} (hp : g ≠ p.block) (u : Value) : Row (w.setCell p u) g t l := h.same (Below.heap_setCell w p u g hp)
set_option maxRecDepth 100000 in
theorem Row.laid (h : Row w g t l) (l' : List Value) : Row (w.setRow g l'.toArray) g t l' := setRow_heap w g _ _ t (0, 0) h
set_option maxRecDepth 100000 in
theorem Row.ne_ {g' : Nat} {t' : TypeId} {l' : List Value} (h : Row w g t l) (h' : Row w g' t' l') (hne : t ≠ t') : g ≠ g' := by
  rintro rfl
  unfold Row at h h'
  rw [h] at h'
  injection h' with h'
  injection h' with _ ht
  exact hne ht

set_option maxRecDepth 100000 in
/-- What the call owns, as a block: nil, or a row that begins with the cells. -/
theorem owns_cases {base : Nat} {e : TypeId} {s : Nat} {v : Value} {n : Nat} {xs : List Value} (h : w.ownsRow base e s v n xs) :
    (v = .slice none 0 0 ∧ n = 0 ∧ xs = []) ∨ ∃ g cap rest, v = .slice (some ⟨g, 0, none⟩) n cap ∧ base ≤ g ∧ Row w g e (xs ++ rest) ∧ n ≤ cap ∧ cap ≤ maxLen ∧ xs.length = n * s ∧ (xs ++ rest).length = cap * s := by
  obtain ⟨hl, hv⟩ := h
  rcases hv with ⟨rfl, rfl⟩ | ⟨g, cap, cur, rfl, hb, hg, hn, hm, hs, ht⟩
  · exact .inl ⟨rfl, rfl, List.eq_nil_of_length_eq_zero (by simpa using hl)⟩
  · refine .inr ⟨g, cap, cur.toList.drop (n * s), rfl, hb, ?_, hn, hm, hl, ?_⟩
    · unfold Row
      rw [← ht, List.take_append_drop, Array.toArray_toList]
      exact hg
    · rw [← ht, List.take_append_drop, Array.length_toList, hs]

set_option maxRecDepth 100000 in
theorem owns_mk {base : Nat} {e : TypeId} {s : Nat} {n cap : Nat} {xs rest : List Value} (hb : base ≤ g) (h : Row w g e (xs ++ rest)) (hn : n ≤ cap) (hm : cap ≤ maxLen) (hl : xs.length = n * s) (hs : (xs ++ rest).length = cap * s) :
    w.ownsRow base e s (.slice (some ⟨g, 0, none⟩) n cap) n xs :=
  ⟨hl, .inr ⟨g, cap, _, rfl, hb, h, hn, hm, by simpa using hs, by rw [← hl]; simp⟩⟩

set_option maxRecDepth 100000 in
theorem setRow_grown (w : World) (g : Nat) (cs : Array Value) : w.grownBy (w.setRow g cs) (some g) :=
  ⟨rfl, rfl, rfl, by simp [World.setRow], fun k _ hne => setRow_other w g k cs (fun e => hne (by rw [e]))⟩
set_option maxRecDepth 100000 in
theorem setCell_grown (w : World) (a : Addr) (u : Value) : w.grownBy (w.setCell a u) (some a.block) :=
  ⟨rfl, rfl, rfl, by simp [World.setCell], fun k _ hne => Below.heap_setCell w a u k (fun e => hne (by rw [e]))⟩
set_option maxRecDepth 100000 in
theorem grown_trans {a b c : World} {row : Option Nat} (h : a.grownBy b row) (k : b.grownBy c row) : a.grownBy c row :=
  ⟨k.os.trans h.os, k.tape.trans h.tape, k.output.trans h.output, Nat.le_trans h.size k.size, fun i hi hne => (k.block i (Nat.lt_of_lt_of_le hi h.size) hne).trans (h.block i hi hne)⟩
set_option maxRecDepth 100000 in
theorem grown_drew {a b : World} {row : Option Nat} (h : a.grownBy b row) : a.grownBy b.drew row := ⟨h.os, h.tape, h.output, h.size, h.block⟩
set_option maxRecDepth 100000 in
theorem grown_of_drew {a b : World} {row : Option Nat} (h : a.drew.grownBy b row) : a.grownBy b row := ⟨h.os, h.tape, h.output, h.size, h.block⟩
set_option maxRecDepth 100000 in
theorem grown_drewN {a b : World} {row : Option Nat} (h : a.grownBy b row) (n : Nat) : a.grownBy (b.drewN n) row := ⟨h.os, h.tape, h.output, h.size, h.block⟩
set_option maxRecDepth 100000 in
/-- a new block may turn: it was not there -/
theorem grown_new {a b c : World} {row : Option Nat} {g : Nat} (h : a.grownBy b row) (k : b.grownBy c (some g)) (hg : a.heap.size ≤ g) : a.grownBy c row :=
  ⟨k.os.trans h.os, k.tape.trans h.tape, k.output.trans h.output, Nat.le_trans h.size k.size, fun i hi hne => (k.block i (Nat.lt_of_lt_of_le hi h.size) (fun e => by injection e with e; omega)).trans (h.block i hi hne)⟩
set_option maxRecDepth 100000 in
theorem grown_below {a b : World} {row : Option Nat} (h : Below a.heap.size a b) : a.grownBy b row := ⟨h.os, h.tape, h.output, h.size, fun i hi _ => h.block i hi⟩
set_option maxRecDepth 100000 in
theorem grown_refl (w : World) (row : Option Nat) : w.grownBy w row := ⟨rfl, rfl, rfl, Nat.le_refl _, fun _ _ _ => rfl⟩
end

/-! ## copy and clear over a block that is known whole, elements of any size -/
section
variable {P : Program}

set_option maxRecDepth 100000 in
theorem run_copy_rows (w : World) (dT sT ty e : TypeId) (size g o dLen dCap : Nat) (a : Addr) (sLen sCap : Nat) (l : List Value) (t : TypeId) (cs : List Value)
    (hu : P.underlying dT = some (.slice e)) (hs : (P.info? e).map (·.size) = some size)
    (hg : Row w g t l) (hn : cs.length = Nat.min sLen dLen * size)
    (hsrc : ∀ j v, cs[j]? = some v → w.cell? (a.add j) = some v) (hfit : o + cs.length ≤ l.length) (h1 : ∀ v ∈ cs, v.oneCell' = true) :
    (Builtin.copy_ #[dT, sT] ty #[.slice (some ⟨g, o, none⟩) dLen dCap, .slice (some a) sLen sCap]).run P w =
      .ok (goInt (Nat.min sLen dLen)) (w.setRow g (l.take o ++ (cs ++ l.drop (o + cs.length))).toArray) := by
  have hl := run_loadCells_list (P := P) w a cs hsrc
  have hst := run_storeCells_at P g o t cs 0 l.toArray w hg (by simpa using hfit) h1
  rw [hn] at hl
  cases hq : P.info? e with
  | none => simp [hq] at hs
  | some i =>
    have hi : i.size = size := by simpa [hq] using hs
    simp only [Nat.add_zero, List.append_assoc] at hst
    simp [Builtin.copy_, run_underlying hu, Builtin.lenOf, Builtin.firstCells, sizeOf, typeInfo, hq, hi, hl, hst]

set_option maxRecDepth 100000 in
theorem wpList_copy_eq (w : World) {ops : Array Oper} {rest : List Oper} {o : Oper} {a : Act} {Q : Exit → Act → World → Prop} (hgd : o.guard = none) (d s : Operand) (t t' : TypeId)
    (ho : o.op = .call { callee := .builtin .copy, args := #[d, s], argTypes := #[t, t'] }) (v u : Value) (hd : a.eval d = v) (hs : a.eval s = u) {v' : Value} {w' : World}
    (hr : (Builtin.copy_ #[t, t'] o.type #[v, u]).run P w = .ok v' w') (h : wpList P ops Q rest (a.put o.dst v') w') : wpList P ops Q (o :: rest) a w := by
  refine wpList_plain hgd fun K hK => ?_
  unfold Oper.wp
  simp [execOp, ho, resolve, invoke, builtin, hd, hs, hr, Result.andThen]
  exact hK _ _ h

set_option maxRecDepth 100000 in
theorem step_copy_eq {ops : Array Oper} {o : Oper} {a : Act} {w : World} {K : Act → World → Prop} {Q : Exit → Act → World → Prop} {E : Prop}
    (hg : o.guard = none) (d x : Operand) (dT sT : TypeId) (hop : o.op = Op.call { callee := Callee.builtin Builtin.copy, args := #[d, x], argTypes := #[dT, sT] })
    (v u : Value) (hd : a.eval d = v) (hx : a.eval x = u) {v' : Value} {w' : World} (hr : (Builtin.copy_ #[dT, sT] o.type #[v, u]).run P w = .ok v' w') (hK : K (a.put o.dst v') w') :
    if Region.wanted o (yielded ops a.tmps) = true then Oper.wp P o a w K Q else E := by
  have hw : Region.wanted o (yielded ops a.tmps) = true := by simp [Region.wanted, hg]
  rw [if_pos hw]
  unfold Oper.wp
  simp [execOp, hop, resolve, invoke, builtin, hd, hx, hr, Result.andThen]
  exact hK

set_option maxRecDepth 100000 in
theorem step_append_eq {ops : Array Oper} {o : Oper} {a : Act} {w : World} {K : Act → World → Prop} {Q : Exit → Act → World → Prop} {E : Prop}
    (hg : o.guard = none) (d x : Operand) (dT sT : TypeId) (hop : o.op = Op.call { callee := Callee.builtin Builtin.append, args := #[d, x], argTypes := #[dT, sT] })
    (v u : Value) (hd : a.eval d = v) (hx : a.eval x = u) {v' : Value} {w' : World} (hr : (Builtin.append_ #[dT, sT] o.type #[v, u]).run P w = .ok v' w') (hK : K (a.put o.dst v') w') :
    if Region.wanted o (yielded ops a.tmps) = true then Oper.wp P o a w K Q else E := by
  have hw : Region.wanted o (yielded ops a.tmps) = true := by simp [Region.wanted, hg]
  rw [if_pos hw]
  unfold Oper.wp
  simp [execOp, hop, resolve, invoke, builtin, hd, hx, hr, Result.andThen]
  exact hK

set_option maxRecDepth 100000 in
theorem run_clear_row (w : World) (t e ty : TypeId) (z : Value) (zs : List Value) (ht : P.underlying t = some (.slice e)) (hv : ∀ w, (zeroValue e).run P w = .ok z w) (hz : z.cells = zs.toArray) (h1 : ∀ v ∈ zs, v.oneCell' = true) (g o c : Nat) (l : List Value) (tt : TypeId)
    (hg : Row w g tt l) (hfit : o + zs.length ≤ l.length) :
    (Builtin.clear_ #[t] ty #[.slice (some ⟨g, o, none⟩) 1 c]).run P w = .ok (.tuple #[]) (w.setRow g (l.take o ++ (zs ++ l.drop (o + zs.length))).toArray) := by
  have hzc : (Builtin.zeroCells z.cells 1).toList = zs := by
    rw [hz]
    simp [Builtin.zeroCells]
    apply List.ext_getElem
    · simp
    · intro i h1 h2
      simp at h1
      simp [Nat.mod_eq_of_lt h1, List.getElem?_eq_getElem h1]
  have hst := run_storeCells_at P g o tt zs 0 l.toArray w hg (by simpa using hfit) h1
  simp only [Nat.add_zero, List.append_assoc] at hst
  simp [Builtin.clear_, run_underlying ht, hv, hzc, hst]
end
end Go.Proofs.Ytolkghdeppoanaa.RkO
