/-
  A table over texts and texts in memory, and what each of its methods does to it.
-/
import Derived.Test.YtnijiimljpbgpaaInsS
import Derived.Deep.QuietTactic
import Derived.BigQuiet
namespace Go.Proofs.Ytnijiimljpbgpaa.TS
open Go.RowKit Go.Proofs.Ytnijiimljpbgpaa.Kit

/-- The table at block T: its room, its names in order; its row of pairs is its own. -/
structure Tab (w : World) (base T room : Nat) (ps : List PR) : Prop where
  srt : Srt Cmp.cmpS ps
  len : ps.length ≤ room
  room_le : room ≤ 1000
  lay : ∃ V, Row w T 65 [.int .i64 room, V] ∧ base ≤ w.heap.size ∧ w.ownsRow base 68 2 V ps.length (cells ps)

/-- Of what was there only the table's own block and rows of pairs from base on may have turned. -/
structure Fr (base T : Nat) (w w' : World) : Prop where
  os : w'.os = w.os
  tape : w'.tape = w.tape
  output : w'.output = w.output
  size : w.heap.size ≤ w'.heap.size
  block : ∀ i, i < w.heap.size → ((i < base ∧ i ≠ T) ∨ (i ≠ T ∧ ∀ cs t z, w.heap[i]? = some (.cells cs t z) → t ≠ 68)) → w'.heap[i]? = w.heap[i]?

theorem Fr.refl (base T : Nat) (w : World) : Fr base T w w := ⟨rfl, rfl, rfl, Nat.le_refl _, fun _ _ _ => rfl⟩
theorem Fr.trans {base T : Nat} {a b c : World} (h : Fr base T a b) (k : Fr base T b c) : Fr base T a c :=
  ⟨k.os.trans h.os, k.tape.trans h.tape, k.output.trans h.output, Nat.le_trans h.size k.size, fun i hi ho => by
    have h1 := h.block i hi ho
    refine (k.block i (Nat.lt_of_lt_of_le hi h.size) ?_).trans h1
    rw [h1]
    exact ho⟩
theorem Fr.of_below {base T : Nat} {w w' : World} (h : Below w.heap.size w w') : Fr base T w w' := ⟨h.os, h.tape, h.output, h.size, fun i hi _ => h.block i hi⟩
theorem Fr.of_grown {base T : Nat} {w w' : World} {row : Option Nat} (h : w.grownBy w' row) (hr : ∀ g, row = some g → g = T ∨ (base ≤ g ∧ ∃ l, Row w g 68 l)) : Fr base T w w' :=
  ⟨h.os, h.tape, h.output, h.size, fun i hi ho => h.block i hi (fun e => by
    rcases hr i e.symm with rfl | ⟨hb, l, hrow⟩
    · rcases ho with ho | ho
      · exact ho.2 rfl
      · exact ho.1 rfl
    · rcases ho with ho | ho
      · omega
      · exact ho.2 _ _ _ hrow rfl)⟩
theorem Fr.below {base T : Nat} {w w' : World} (h : Fr base T w w') {B : Nat} (hb : B ≤ base) (hT : B ≤ T) (hs : B ≤ w.heap.size) : Below B w w' := ⟨h.os, h.tape, h.output, h.size, fun k hk => h.block k (by omega) (.inl ⟨by omega, by omega⟩)⟩
theorem Fr.low {base T : Nat} {w w' : World} (h : Fr base T w w') {g : Nat} {t : TypeId} {l : List Value} (hr : Row w g t l) (h1 : g ≠ T) (h2 : g < base) : Row w' g t l := hr.same (h.block g hr.lt (.inl ⟨h2, h1⟩))
theorem Fr.row {base T : Nat} {w w' : World} (h : Fr base T w w') {g : Nat} {t : TypeId} {l : List Value} (hr : Row w g t l) (h1 : g ≠ T) (h2 : t ≠ 68) : Row w' g t l :=
  hr.same (h.block g hr.lt (.inr ⟨h1, fun cs t' z he => by
    unfold Row at hr
    rw [hr] at he
    injection he with he
    injection he with _ he _
    subst he
    exact h2⟩))
theorem Fr.owns {base T : Nat} {w w' : World} (h : Fr base T w w') {lT : List Value} (hT : Row w T 65 lT) {b : Nat} {e : TypeId} {s : Nat} {v : Value} {n : Nat} {xs : List Value} (ho : w.ownsRow b e s v n xs) (h1 : e ≠ 65) (h2 : e ≠ 68) : w'.ownsRow b e s v n xs := by
  rcases owns_cases ho with ⟨rfl, rfl, rfl⟩ | ⟨g, cap, rest, rfl, hb, hr, hn, hm, hl, hs⟩
  · exact World.ownsRow_nil _ _ _ _
  · exact owns_mk hb (h.row hr (hr.ne_ hT h1) h2) hn hm hl hs
theorem Fr.owns_low {base T : Nat} {w w' : World} (h : Fr base T w w') {lT : List Value} (hT : Row w T 65 lT) {b : Nat} {e : TypeId} {s : Nat} {v : Value} {n : Nat} {xs : List Value} (ho : w.ownsRow b e s v n xs) (h1 : e ≠ 65) (h2 : ∀ g, v.ownBlock = some g → g < base) : w'.ownsRow b e s v n xs := by
  rcases owns_cases ho with ⟨rfl, rfl, rfl⟩ | ⟨g, cap, rest, rfl, hb, hr, hn, hm, hl, hs⟩
  · exact World.ownsRow_nil _ _ _ _
  · exact owns_mk hb (h.low hr (hr.ne_ hT h1) (h2 g rfl)) hn hm hl hs

theorem owns_below {w w' : World} (hb : Below w.heap.size w w') {b : Nat} {e : TypeId} {s : Nat} {v : Value} {n : Nat} {xs : List Value} (ho : w.ownsRow b e s v n xs) : w'.ownsRow b e s v n xs := by
  rcases owns_cases ho with ⟨rfl, rfl, rfl⟩ | ⟨g, cap, rest, rfl, hb', hr, hn, hm, hl, hs⟩
  · exact World.ownsRow_nil _ _ _ _
  · exact owns_mk hb' (hr.below hb hr.lt) hn hm hl hs

theorem Tab.below {w w' : World} {base T room : Nat} {ps : List PR} (h : Tab w base T room ps) (hb : Below w.heap.size w w') : Tab w' base T room ps := by
  obtain ⟨h1, h2, h3, V, hT, hB, ho⟩ := h
  exact ⟨h1, h2, h3, V, hT.below hb hT.lt, Nat.le_trans hB hb.size, owns_below hb ho⟩
theorem Tab.drewN {w : World} {base T room : Nat} {ps : List PR} (h : Tab w base T room ps) (n : Nat) : Tab (w.drewN n) base T room ps := h.below ⟨rfl, rfl, rfl, Nat.le_refl _, fun _ _ => rfl⟩
theorem Tab.base_le {w : World} {base T room : Nat} {ps : List PR} (h : Tab w base T room ps) : base ≤ w.heap.size := by
  obtain ⟨V, hT, hB, ho⟩ := h.lay
  exact hB
theorem Tab.head {w : World} {base T room : Nat} {ps : List PR} (h : Tab w base T room ps) : ∃ l, Row w T 65 l := by
  obtain ⟨V, hT, hB, ho⟩ := h.lay
  exact ⟨_, hT⟩
/-- another table's calls leave this one, where its row lies below their base -/
theorem Tab.aside {w w' : World} {base T room base' T' : Nat} {ps : List PR} (h : Tab w base T room ps) (hf : Fr base' T' w w') {lT : List Value} (hT' : Row w T' 65 lT) (hne : T ≠ T') (hlow : w.heap.size ≤ base') : Tab w' base T room ps := by
  obtain ⟨h1, h2, h3, V, hT, hB, ho⟩ := h
  refine ⟨h1, h2, h3, V, hf.low hT hne (by have := hT.lt; omega), Nat.le_trans hB hf.size, hf.owns_low hT' ho (by decide) (fun g hg => ?_)⟩
  have := (ho.lt g hg).2
  omega

def rm (most : Int) : Nat := (min (max most 0) 1000).toNat

set_option maxHeartbeats 400000 in
theorem new (most : Int) (w : World) (base : Nat) (hb : base ≤ w.heap.size) :
    Calls Try.prog 19 #[.int .i64 most] w fun e w' => e = .returned (.pointer (some ⟨w.heap.size, 0, none⟩)) ∧ Tab w' base w.heap.size (rm most) [] ∧ Below w.heap.size w w' := by
  have hfin : ∀ a : Int, a = min (max most 0) 1000 → Tab (w.alloc (.cells #[.int .i64 a, .slice none 0 0] 65)) base w.heap.size (rm most) [] := by
    intro a ha
    have h1 : (rm most : Int) = a := by rw [ha]; unfold rm; omega
    refine ⟨List.Pairwise.nil, Nat.zero_le _, by unfold rm; omega, _, ?_, Nat.le_trans hb (by simp), World.ownsRow_nil _ _ _ _⟩
    rw [h1]
    exact heap_alloc_new w _
  have HF := Lib.hid hfin
  clear hfin hb
  go_enter Try.func19, Try.ntmps19
  go_wp2
  all_goals (go_ret; exact ⟨rfl, HF.out _ (by omega), below_alloc _ _⟩)

set_option maxHeartbeats 400000 in
theorem search {w : World} {base T room : Nat} {ps : List PR} (h : Tab w base T room ps) (k : ByteArray) :
    Calls Try.prog 31 #[.pointer (some ⟨T, 0, none⟩), (Value.string (k))] w fun e w' => e = .returned (.tuple #[.int .i64 (lo Cmp.cmpS k ps : Nat), .bool (hit Cmp.cmpS k ps)]) ∧ Below w.heap.size w w' := by
  obtain ⟨hs, hl, hrm, V, hT, hB, ho⟩ := h
  have hc1 : w.cell? ⟨T, 1, none⟩ = some V := hT.cell 1
  rcases owns_cases ho with ⟨rfl, h0, -⟩ | ⟨g, cap, rest, rfl, hb, hr, hnc, hcm, hl1, hl2⟩
  · obtain rfl : ps = [] := List.eq_nil_of_length_eq_zero h0
    have hB := bsf_nil k w
    have HB := Lib.hid hB
    clear hB hs hl hrm hT ho h0
    go_enter Try.func31, Try.ntmps31
    go_wp2_with fail
    refine HB.out.mono ?_
    rintro e w1 ⟨rfl, rfl⟩
    go_wp2
    go_ret2
    exact ⟨rfl, Below.refl _ _⟩
  · have hBB := bsf g cap k w ps rest (by omega) hs hr
    have HB := Lib.hid hBB
    clear hBB hs hl hrm hT ho hnc hcm hl1 hl2 hb hr
    go_enter Try.func31, Try.ntmps31
    go_wp2_with fail
    refine HB.out.mono ?_
    rintro e w1 ⟨rfl, hb1⟩
    have HB1 := Lib.hid hb1
    clear hb1
    go_wp2
    go_ret2
    exact ⟨rfl, HB1.out⟩

set_option maxHeartbeats 400000 in
theorem len_ {w : World} {base T room : Nat} {ps : List PR} (h : Tab w base T room ps) :
    Calls Try.prog 22 #[.pointer (some ⟨T, 0, none⟩)] w fun e w' => e = .returned (.int .i64 (ps.length : Nat)) ∧ w = w' := by
  obtain ⟨hs, hl, hrm, V, hT, hB, ho⟩ := h
  have hc1 : w.cell? ⟨T, 1, none⟩ = some V := hT.cell 1
  rcases owns_cases ho with ⟨rfl, h0, -⟩ | ⟨g, cap, rest, rfl, hb, hr, hnc, hcm, hl1, hl2⟩
  · obtain rfl : ps = [] := List.eq_nil_of_length_eq_zero h0
    clear hs hl hrm hT ho h0
    go_enter Try.func22, Try.ntmps22
    go_wp2
    go_ret
    exact ⟨rfl, rfl⟩
  · clear hs hl hrm hT ho hnc hcm hl1 hl2 hb hr
    go_enter Try.func22, Try.ntmps22
    go_wp2
    go_ret
    exact ⟨rfl, rfl⟩
end Go.Proofs.Ytnijiimljpbgpaa.TS
