/-
  A table over texts and ints in memory, and what each of its methods does to it.
-/
import Derived.Test.YtnijiimljpbgpaaInsM
import Derived.Deep.QuietTactic
import Derived.BigQuiet
namespace Go.Proofs.Ytnijiimljpbgpaa.TM
open Go.RowKit Go.Proofs.Ytnijiimljpbgpaa.Kit

/-- The table at block T: its room, its names in order; its row of pairs is its own. -/
structure Tab (w : World) (base T room : Nat) (ps : List PR) : Prop where
  srt : Srt Cmp.cmpS ps
  len : ps.length ≤ room
  room_le : room ≤ 1000
  lay : ∃ V, Row w T 72 [.int .i64 room, V] ∧ base ≤ T ∧ w.ownsRow base 74 2 V ps.length (cells ps)

/-- Of what was there only tables' blocks from base on may have turned. -/
structure Fr (base : Nat) (w w' : World) : Prop where
  os : w'.os = w.os
  tape : w'.tape = w.tape
  output : w'.output = w.output
  size : w.heap.size ≤ w'.heap.size
  block : ∀ i, i < w.heap.size → (i < base ∨ ∀ cs t z, w.heap[i]? = some (.cells cs t z) → t ≠ 72 ∧ t ≠ 74) → w'.heap[i]? = w.heap[i]?

theorem Fr.refl (base : Nat) (w : World) : Fr base w w := ⟨rfl, rfl, rfl, Nat.le_refl _, fun _ _ _ => rfl⟩
theorem Fr.trans {base : Nat} {a b c : World} (h : Fr base a b) (k : Fr base b c) : Fr base a c :=
  ⟨k.os.trans h.os, k.tape.trans h.tape, k.output.trans h.output, Nat.le_trans h.size k.size, fun i hi ho => by
    have h1 := h.block i hi ho
    refine (k.block i (Nat.lt_of_lt_of_le hi h.size) ?_).trans h1
    rw [h1]
    exact ho⟩
theorem Fr.of_below {base : Nat} {w w' : World} (h : Below w.heap.size w w') : Fr base w w' := ⟨h.os, h.tape, h.output, h.size, fun i hi _ => h.block i hi⟩
theorem Fr.of_grown {base : Nat} {w w' : World} {row : Option Nat} (h : w.grownBy w' row) (hr : ∀ g, row = some g → base ≤ g ∧ ∃ l t, (t = 72 ∨ t = 74) ∧ Row w g t l) : Fr base w w' :=
  ⟨h.os, h.tape, h.output, h.size, fun i hi ho => h.block i hi (fun e => by
    obtain ⟨hb, l, t, ht, hrow⟩ := hr i e.symm
    rcases ho with ho | ho
    · omega
    · have := ho _ _ _ hrow
      rcases ht with rfl | rfl
      · exact this.1 rfl
      · exact this.2 rfl)⟩
theorem Fr.below {base : Nat} {w w' : World} (h : Fr base w w') (hb : base ≤ w.heap.size) : Below base w w' := ⟨h.os, h.tape, h.output, h.size, fun k hk => h.block k (by omega) (.inl hk)⟩
theorem Fr.row {base : Nat} {w w' : World} (h : Fr base w w') {g : Nat} {t : TypeId} {l : List Value} (hr : Row w g t l) (h1 : t ≠ 72) (h2 : t ≠ 74) : Row w' g t l :=
  hr.same (h.block g hr.lt (.inr fun cs t' z he => by
    unfold Row at hr
    rw [hr] at he
    injection he with he
    injection he with _ he _
    subst he
    exact ⟨h1, h2⟩))
theorem Fr.owns {base : Nat} {w w' : World} (h : Fr base w w') {b : Nat} {e : TypeId} {s : Nat} {v : Value} {n : Nat} {xs : List Value} (ho : w.ownsRow b e s v n xs) (h1 : e ≠ 72) (h2 : e ≠ 74) : w'.ownsRow b e s v n xs := by
  rcases owns_cases ho with ⟨rfl, rfl, rfl⟩ | ⟨g, cap, rest, rfl, hb, hr, hn, hm, hl, hs⟩
  · exact World.ownsRow_nil _ _ _ _
  · exact owns_mk hb (h.row hr h1 h2) hn hm hl hs

theorem owns_below {w w' : World} (hb : Below w.heap.size w w') {b : Nat} {e : TypeId} {s : Nat} {v : Value} {n : Nat} {xs : List Value} (ho : w.ownsRow b e s v n xs) : w'.ownsRow b e s v n xs := by
  rcases owns_cases ho with ⟨rfl, rfl, rfl⟩ | ⟨g, cap, rest, rfl, hb', hr, hn, hm, hl, hs⟩
  · exact World.ownsRow_nil _ _ _ _
  · exact owns_mk hb' (hr.below hb hr.lt) hn hm hl hs

theorem Tab.below {w w' : World} {base T room : Nat} {ps : List PR} (h : Tab w base T room ps) (hb : Below w.heap.size w w') : Tab w' base T room ps := by
  obtain ⟨h1, h2, h3, V, hT, hB, ho⟩ := h
  exact ⟨h1, h2, h3, V, hT.below hb hT.lt, hB, owns_below hb ho⟩
theorem Tab.drewN {w : World} {base T room : Nat} {ps : List PR} (h : Tab w base T room ps) (n : Nat) : Tab (w.drewN n) base T room ps := h.below ⟨rfl, rfl, rfl, Nat.le_refl _, fun _ _ => rfl⟩
theorem Tab.base_le {w : World} {base T room : Nat} {ps : List PR} (h : Tab w base T room ps) : base ≤ w.heap.size := by
  obtain ⟨V, hT, hB, ho⟩ := h.lay
  have := hT.lt; omega

def rm (most : Int) : Nat := (min (max most 0) 1000).toNat

set_option maxHeartbeats 400000 in
theorem new (most : Int) (w : World) (base : Nat) (hb : base ≤ w.heap.size) :
    Calls Try.prog 24 #[.int .i64 most] w fun e w' => e = .returned (.pointer (some ⟨w.heap.size, 0, none⟩)) ∧ Tab w' base w.heap.size (rm most) [] ∧ Below w.heap.size w w' := by
  have hfin : ∀ a : Int, a = min (max most 0) 1000 → Tab (w.alloc (.cells #[.int .i64 a, .slice none 0 0] 72)) base w.heap.size (rm most) [] := by
    intro a ha
    have h1 : (rm most : Int) = a := by rw [ha]; unfold rm; omega
    refine ⟨List.Pairwise.nil, Nat.zero_le _, by unfold rm; omega, _, ?_, hb, World.ownsRow_nil _ _ _ _⟩
    rw [h1]
    exact heap_alloc_new w _
  have HF := Lib.hid hfin
  clear hfin hb
  go_enter Try.func24, Try.ntmps24
  go_wp2
  all_goals (go_ret; exact ⟨rfl, HF.out _ (by omega), below_alloc _ _⟩)

set_option maxHeartbeats 400000 in
theorem search {w : World} {base T room : Nat} {ps : List PR} (h : Tab w base T room ps) (k : ByteArray) :
    Calls Try.prog 33 #[.pointer (some ⟨T, 0, none⟩), (Value.string (k))] w fun e w' => e = .returned (.tuple #[.int .i64 (lo Cmp.cmpS k ps : Nat), .bool (hit Cmp.cmpS k ps)]) ∧ Below w.heap.size w w' := by
  obtain ⟨hs, hl, hrm, V, hT, hB, ho⟩ := h
  have hc1 : w.cell? ⟨T, 1, none⟩ = some V := hT.cell 1
  rcases owns_cases ho with ⟨rfl, h0, -⟩ | ⟨g, cap, rest, rfl, hb, hr, hnc, hcm, hl1, hl2⟩
  · obtain rfl : ps = [] := List.eq_nil_of_length_eq_zero h0
    have hB := bsf_nil k w
    have HB := Lib.hid hB
    clear hB hs hl hrm hT ho h0
    go_enter Try.func33, Try.ntmps33
    go_wp2_with fail
    refine HB.out.mono ?_
    rintro e w1 ⟨rfl, rfl⟩
    go_wp2
    go_ret2
    exact ⟨rfl, Below.refl _ _⟩
  · have hBB := bsf g cap k w ps rest (by omega) hs hr
    have HB := Lib.hid hBB
    clear hBB hs hl hrm hT ho hnc hcm hl1 hl2 hb hr
    go_enter Try.func33, Try.ntmps33
    go_wp2_with fail
    refine HB.out.mono ?_
    rintro e w1 ⟨rfl, hb1⟩
    have HB1 := Lib.hid hb1
    clear hb1
    go_wp2
    go_ret2
    exact ⟨rfl, HB1.out⟩

set_option maxHeartbeats 400000 in
theorem len_ {w : World} {base T room : Nat} {ps : List PR} (h : Tab w base T room ps) :
    Calls Try.prog 27 #[.pointer (some ⟨T, 0, none⟩)] w fun e w' => e = .returned (.int .i64 (ps.length : Nat)) ∧ w = w' := by
  obtain ⟨hs, hl, hrm, V, hT, hB, ho⟩ := h
  have hc1 : w.cell? ⟨T, 1, none⟩ = some V := hT.cell 1
  rcases owns_cases ho with ⟨rfl, h0, -⟩ | ⟨g, cap, rest, rfl, hb, hr, hnc, hcm, hl1, hl2⟩
  · obtain rfl : ps = [] := List.eq_nil_of_length_eq_zero h0
    clear hs hl hrm hT ho h0
    go_enter Try.func27, Try.ntmps27
    go_wp2
    go_ret
    exact ⟨rfl, rfl⟩
  · clear hs hl hrm hT ho hnc hcm hl1 hl2 hb hr
    go_enter Try.func27, Try.ntmps27
    go_wp2
    go_ret
    exact ⟨rfl, rfl⟩
end Go.Proofs.Ytnijiimljpbgpaa.TM
