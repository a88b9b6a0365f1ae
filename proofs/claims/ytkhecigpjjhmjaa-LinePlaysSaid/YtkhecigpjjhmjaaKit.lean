/-
  A line in memory: its head, its channel, a block for each thing that waits; what is put and what is taken. Plain lemmas: nothing here speaks of the program.
-/
import Derived.Below
import Derived.Conc.LoneSelect
import Derived.Conc.LoneSelectN
import Derived.Lib.Hide
import Derived.Laws.Rows
import Derived.KernelRfl
namespace Go.Proofs.Ytkhecigpjjhmjaa.Kit
open Go.RowKit Go.Conc

def ptr (b : Nat) : Value := .pointer (some ⟨b, 0, none⟩)

/-- The line at block T: room for so many; its channel at block c; the things' blocks in order; the things in order. -/
structure Ln (w : World) (st et : TypeId) (T c room : Nat) (bs : List Nat) (xs : List Value) : Prop where
  room_le : room ≤ 1000
  len : bs.length = xs.length
  le : xs.length ≤ room
  head : w.heap[T]? = some (Obj.cells #[.int .i64 room, .chan (some c)] st (0, 0))
  chan : ∃ s r, w.heap[c]? = some (Obj.chan room (bs.map ptr).toArray false s r false)
  cell : ∀ (i b : Nat) (x : Value), bs[i]? = some b → xs[i]? = some x → w.heap[b]? = some (Obj.cells #[x] et (0, 0))

theorem grown_refl (w : World) (row : Option Nat) : w.grownBy w row := ⟨rfl, rfl, rfl, Nat.le_refl _, fun _ _ _ => rfl⟩
theorem grown_trans {a b c : World} {row : Option Nat} (h : a.grownBy b row) (k : b.grownBy c row) : a.grownBy c row :=
  ⟨k.os.trans h.os, k.tape.trans h.tape, k.output.trans h.output, Nat.le_trans h.size k.size, fun i hi hne => (k.block i (Nat.lt_of_lt_of_le hi h.size) hne).trans (h.block i hi hne)⟩
theorem grown_below {a b : World} {row : Option Nat} (h : Below a.heap.size a b) : a.grownBy b row := ⟨h.os, h.tape, h.output, h.size, fun i hi _ => h.block i hi⟩
theorem below_of_grown {a b : World} {row : Option Nat} {B : Nat} (h : a.grownBy b row) (hB : B ≤ a.heap.size) (hr : ∀ g, row = some g → B ≤ g) : Below B a b :=
  ⟨h.os, h.tape, h.output, h.size, fun i hi => h.block i (by omega) (fun e => by have := hr i e.symm; omega)⟩
theorem grown_setChan (w : World) (c cap : Nat) (buf : Array Value) (cl : Bool) (s r : Nat) (tm : Bool) : w.grownBy (w.setChan c cap buf cl s r tm) (some c) :=
  ⟨rfl, rfl, rfl, by simp [World.setChan], fun k _ hne => by simp only [World.setChan]; rw [Array.getElem?_setIfInBounds_ne (fun e => hne (by rw [e]))]⟩

section
variable {w w' : World} {st et : TypeId} {T c room : Nat} {bs : List Nat} {xs : List Value}
theorem heap_lt {w : World} {b : Nat} {o : Obj} (h : w.heap[b]? = some o) : b < w.heap.size := (Array.getElem?_eq_some_iff.1 h).1
theorem Ln.T_lt (h : Ln w st et T c room bs xs) : T < w.heap.size := heap_lt h.head
theorem Ln.c_lt (h : Ln w st et T c room bs xs) : c < w.heap.size := by obtain ⟨s, r, hc⟩ := h.chan; exact heap_lt hc
theorem Ln.Tc (h : Ln w st et T c room bs xs) : T ≠ c := by
  rintro rfl
  obtain ⟨s, r, hc⟩ := h.chan
  have := h.head
  rw [hc] at this
  cases this
theorem Ln.mem (h : Ln w st et T c room bs xs) {b : Nat} (hb : b ∈ bs) : ∃ x, w.heap[b]? = some (Obj.cells #[x] et (0, 0)) := by
  obtain ⟨i, hi, rfl⟩ := List.getElem_of_mem hb
  exact ⟨_, h.cell i _ (xs[i]'(by have := h.len; omega)) (List.getElem?_eq_getElem hi) (List.getElem?_eq_getElem _)⟩
theorem Ln.mem_lt (h : Ln w st et T c room bs xs) {b : Nat} (hb : b ∈ bs) : b < w.heap.size := by obtain ⟨x, hx⟩ := h.mem hb; exact heap_lt hx
theorem Ln.mem_ne (h : Ln w st et T c room bs xs) {b : Nat} (hb : b ∈ bs) : b ≠ c := by
  rintro rfl
  obtain ⟨x, hx⟩ := h.mem hb
  obtain ⟨s, r, hc⟩ := h.chan
  rw [hc] at hx
  cases hx

theorem Ln.grown (h : Ln w st et T c room bs xs) {row : Option Nat} (hg : w.grownBy w' row) (hT : some T ≠ row) (hc : some c ≠ row) (hb : ∀ b ∈ bs, some b ≠ row) : Ln w' st et T c room bs xs := by
  obtain ⟨s, r, hch⟩ := h.chan
  refine ⟨h.room_le, h.len, h.le, ?_, ⟨s, r, ?_⟩, fun i b x hi hx => ?_⟩
  · rw [hg.block T h.T_lt hT]; exact h.head
  · rw [hg.block c h.c_lt hc]; exact hch
  · have hm := List.mem_of_getElem? hi
    rw [hg.block b (h.mem_lt hm) (hb b hm)]; exact h.cell i b x hi hx
theorem Ln.below (h : Ln w st et T c room bs xs) (hb : Below w.heap.size w w') : Ln w' st et T c room bs xs :=
  h.grown (row := none) (grown_below hb) (by simp) (by simp) (by simp)

theorem Ln.cellT0 (h : Ln w st et T c room bs xs) : w.cell? ⟨T, 0, none⟩ = some (.int .i64 room) := by rw [cell_of_row w T 0 _ st (0, 0) h.head]; rfl
theorem Ln.cellT1 (h : Ln w st et T c room bs xs) : w.cell? ⟨T, 1, none⟩ = some (.chan (some c)) := by rw [cell_of_row w T 1 _ st (0, 0) h.head]; rfl
theorem Ln.cellB (h : Ln w st et T c room bs xs) {i b : Nat} {x : Value} (hi : bs[i]? = some b) (hx : xs[i]? = some x) : w.cell? ⟨b, 0, none⟩ = some x := by rw [cell_of_row w b 0 _ et (0, 0) (h.cell i b x hi hx)]; rfl

theorem Ln.put (h : Ln w st et T c room bs xs) (x : Value) (hr : xs.length < room) {s r : Nat} :
    Ln ((w.alloc (.cells #[x] et)).setChan c room ((bs.map ptr).toArray.push (ptr w.heap.size)) false s r false) st et T c room (bs ++ [w.heap.size]) (xs ++ [x]) := by
  have hl := h.len
  have hb : Below w.heap.size w (w.alloc (.cells #[x] et)) := (Below.refl _ _).alloc (Nat.le_refl _) _
  have h1 := h.below hb
  have hcl := h1.c_lt
  have hg := grown_setChan (w.alloc (.cells #[x] et)) c room ((bs.map ptr).toArray.push (ptr w.heap.size)) false s r false
  refine ⟨h.room_le, by simp [hl], by simp; omega, ?_, ⟨s, r, ?_⟩, fun i b y hi hy => ?_⟩
  · rw [hg.block T h1.T_lt (fun e => h.Tc (by injection e))]; exact h1.head
  · rw [heap_setChan _ _ _ _ _ _ _ _ hcl]; simp
  · by_cases hlt : i < bs.length
    · rw [List.getElem?_append_left hlt] at hi
      rw [List.getElem?_append_left (by omega)] at hy
      have hm := List.mem_of_getElem? hi
      rw [hg.block b (h1.mem_lt hm) (fun e => h1.mem_ne hm (by injection e))]
      exact h1.cell i b y hi hy
    · rw [List.getElem?_append_right (by omega)] at hi
      rw [List.getElem?_append_right (by omega)] at hy
      obtain rfl : i = bs.length := by
        have := (List.getElem?_eq_some_iff.1 hi).1
        simp at this; omega
      simp [hl] at hi hy
      subst hi hy
      have := h.c_lt
      rw [hg.block _ (by simp) (fun e => by injection e with e; omega)]
      exact heap_alloc_new w _

theorem Ln.take {b : Nat} {x : Value} (h : Ln w st et T c room (b :: bs) (x :: xs)) {s r : Nat} :
    Ln (w.setChan c room (((b :: bs).map ptr).toArray.extract 1 ((b :: bs).map ptr).toArray.size) false s r false) st et T c room bs xs := by
  have hl := h.len
  have hle := h.le
  have hg := grown_setChan w c room (((b :: bs).map ptr).toArray.extract 1 ((b :: bs).map ptr).toArray.size) false s r false
  refine ⟨h.room_le, by simpa using hl, by simp at hle; omega, ?_, ⟨s, r, ?_⟩, fun i b' y hi hy => ?_⟩
  · rw [hg.block T h.T_lt (fun e => h.Tc (by injection e))]; exact h.head
  · rw [heap_setChan _ _ _ _ _ _ _ _ h.c_lt]
    simp [List.take_of_length_le]
  · have hi' : (b :: bs)[i + 1]? = some b' := by simpa using hi
    have hm := List.mem_of_getElem? hi'
    rw [hg.block b' (h.mem_lt hm) (fun e => h.mem_ne hm (by injection e))]
    exact h.cell (i + 1) b' y hi' (by simpa using hy)
end
end Go.Proofs.Ytkhecigpjjhmjaa.Kit
