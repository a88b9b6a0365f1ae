/-
  What each kind of call leaves side by side: the table, keys and vals.
-/
import Derived.Test.YtnijiimljpbgpaaCutP
namespace Go.Proofs.Ytnijiimljpbgpaa.PL
open Go.RowKit Go.Proofs.Ytnijiimljpbgpaa.Kit Go.Proofs.Ytnijiimljpbgpaa.Arg

theorem owns_base {w : World} {b b' : Nat} {e : TypeId} {s : Nat} {v : Value} {n : Nat} {xs : List Value} (h : w.ownsRow b e s v n xs) (hb : b' ≤ b) : w.ownsRow b' e s v n xs := by
  rcases owns_cases h with ⟨rfl, rfl, rfl⟩ | ⟨g, cap, rest, rfl, hb1, hr, hn, hm, hl, hs⟩
  · exact World.ownsRow_nil _ _ _ _
  · exact owns_mk (Nat.le_trans hb hb1) hr hn hm hl hs

/-- behind a call of the table's that leaves ps' -/
theorem Rl.frame {w wr wx : World} {T room : Nat} {ps : List TI.PR} {m : Nat} {A7 : Option Addr} {c7 : Nat} {A8 : Option Addr} {c8 : Nat} (h : Rl w wr T room ps m A7 c7 A8 c8) (hf : TI.Fr T wr wx) :
    Below T w wx ∧ wx.ownsRow T 3 1 (.slice A7 m c7) m (ints (ps.map (·.1))) ∧ wx.ownsRow T 3 1 (.slice A8 m c8) m (ints (ps.map (·.2))) :=
  ⟨h.bel.trans (hf.below h.tab.base_le), hf.owns h.o7 (by decide) (by decide), hf.owns h.o8 (by decide) (by decide)⟩

theorem tab_far {w2 : World} {base T room : Nat} {ps : List TI.PR} (h : TI.Tab w2 base T room ps) {g : Nat} {l : List Value} (hr : Row w2 g 3 l) (o : Nat) (u : Value) : TI.Tab (w2.setCell ⟨g, o, none⟩ u) base T room ps := by
  obtain ⟨h1, h2, h3, V, hT, hB, ho⟩ := h
  refine ⟨h1, h2, h3, V, hT.far (p := ⟨g, o, none⟩) (hT.ne_ hr (by decide)) u, hB, ?_⟩
  rcases owns_cases ho with ⟨rfl, h0, h4⟩ | ⟨g', cap, rest, rfl, hb, hr', hnc, hcm, hl1, hl2⟩
  · rw [h0, h4]; exact World.ownsRow_nil _ _ _ _
  · exact owns_mk hb (hr'.far (p := ⟨g, o, none⟩) (hr'.ne_ hr (by decide)) u) hnc hcm hl1 hl2

theorem vals_upd {k v u : Int} {ps : List TI.PR} (hu : ps[lo Cmp.cmpI k ps]? = some (k, u)) : ints ((upd Cmp.cmpI k v ps).map (·.2)) = (ints (ps.map (·.2))).set (lo Cmp.cmpI k ps) (.int .i64 v) := by
  unfold upd ints
  rw [List.map_set, List.map_set]

/-- vals[i] = v behind a put of a name that is there -/
theorem Rl.vput {w wr wx : World} {T room : Nat} {ps : List TI.PR} {m : Nat} {A7 : Option Addr} {c7 : Nat} {A8 : Option Addr} {c8 : Nat} (h : Rl w wr T room ps m A7 c7 A8 c8) {k v : Int} {L : Nat} (hL : lo Cmp.cmpI k ps = L) (hh : hit Cmp.cmpI k ps = true)
    (ht : TI.Tab wx T T room (upd Cmp.cmpI k v ps)) (hf : TI.Fr T wr wx) :
    ∃ g, A8 = some ⟨g, 0, none⟩ ∧ (∃ z, wx.cell? ⟨g, L, none⟩ = some z) ∧ wx.frozen? ⟨g, L, none⟩ = false ∧ Rl w (wx.setCell ⟨g, L, none⟩ (.int .i64 v)) T room (upd Cmp.cmpI k v ps) m A7 c7 A8 c8 := by
  obtain ⟨hb, o7, o8⟩ := h.frame hf
  obtain ⟨u, hu⟩ := (hit_iff Cmp.ordI).1 hh
  have hlt := hit_lt hh
  have hlen := h.len
  have hn1 : (upd Cmp.cmpI k v ps).map (·.1) = ps.map (·.1) := map_upd Cmp.ordI hh
  have hvu := vals_upd (v := v) hu
  rw [hL] at hvu hlt
  rcases owns_cases o8 with ⟨h1, h2, -⟩ | ⟨g, cap, rest, h1, hbg, hr, hnc, hcm, hl1, hl2⟩
  · omega
  · injection h1 with h1 _ h3
    subst h1
    subst h3
    have hil : (ints (ps.map (·.2))).length = m := by rw [ints_length, List.length_map, hlen]
    refine ⟨g, rfl, ?_, hr.frozen _, tab_far ht hr _ _, ?_, by simp [upd, hlen], ?_, ?_, h.ne⟩
    · rw [hr.cell, List.getElem?_append_left (by omega), List.getElem?_eq_getElem (by omega)]
      exact ⟨_, rfl⟩
    · exact hb.setCell (p := ⟨g, L, none⟩) hbg _
    · rw [hn1]
      rcases owns_cases o7 with ⟨h4, h5, h6⟩ | ⟨g7, cap7, rest7, h4, hb7, hr7, hnc7, hcm7, hl7, hs7⟩
      · rw [h4, h5, h6]; exact World.ownsRow_nil _ _ _ _
      · have hg7 : g7 ≠ g := by
          rintro rfl
          exact h.ne g7 (by rw [h4]; rfl) rfl
        rw [h4]
        exact owns_mk hb7 (hr7.far (p := ⟨g, L, none⟩) hg7 _) hnc7 hcm7 hl7 hs7
    · rw [hvu]
      have hr2 := hr.stored L (.int .i64 v)
      rw [List.set_append_left _ _ (by omega)] at hr2
      exact owns_mk hbg hr2 hnc hcm (by rw [List.length_set]; exact hl1) (by rw [List.length_append, List.length_set, ← List.length_append]; exact hl2)

/-- both rows behind two inserts -/
theorem Rl.vins {w wr wx w5 w6 : World} {T room : Nat} {ps : List TI.PR} {m : Nat} {A7 : Option Addr} {c7 : Nat} {A8 : Option Addr} {c8 : Nat} (h : Rl w wr T room ps m A7 c7 A8 c8) {k v : Int} {L : Nat} (hL : lo Cmp.cmpI k ps = L)
    (ht : TI.Tab wx T T room (ins Cmp.cmpI k v ps)) (hf : TI.Fr T wr wx) {A5 : Option Addr} {c5 : Nat} (h5 : w5.ownsRow wx.heap.size 3 1 (.slice A5 (m + 1) c5) (m + 1) (ints ((ps.map (·.1)).take L ++ k :: (ps.map (·.1)).drop L))) (hb5 : Below wx.heap.size wx w5)
    {A6 : Option Addr} {c6 : Nat} (h6 : w6.ownsRow w5.heap.size 3 1 (.slice A6 (m + 1) c6) (m + 1) (ints ((ps.map (·.2)).take L ++ v :: (ps.map (·.2)).drop L))) (hb6 : Below w5.heap.size w5 w6) :
    Rl w w6 T room (ins Cmp.cmpI k v ps) (m + 1) A5 c5 A6 c6 := by
  obtain ⟨hb, o7, o8⟩ := h.frame hf
  have hb56 : Below wx.heap.size wx w6 := hb5.trans (hb6.mono hb5.size)
  have hTx := ht.base_le
  have e1 : (ins Cmp.cmpI k v ps).map (·.1) = (ps.map (·.1)).take L ++ k :: (ps.map (·.1)).drop L := by unfold ins; rw [hL]; simp [List.map_take, List.map_drop]
  have e2 : (ins Cmp.cmpI k v ps).map (·.2) = (ps.map (·.2)).take L ++ v :: (ps.map (·.2)).drop L := by unfold ins; rw [hL]; simp [List.map_take, List.map_drop]
  have hLl := lo_le Cmp.cmpI k ps
  refine ⟨ht.below hb56, hb.trans (hb56.mono hTx), ?_, ?_, ?_, ?_⟩
  · have := h.len; unfold ins; simp; omega
  · rw [e1]; exact owns_base (TI.owns_below hb6 h5) hTx
  · rw [e2]; exact owns_base h6 (Nat.le_trans hTx hb5.size)
  · intro g hg he
    have h1 := (h5.lt g hg).2
    have h2 := (h6.lt g he).1
    omega

/-- both rows behind the cut -/
theorem Rl.vcut {w wr wx Z : World} {T room : Nat} {ps : List TI.PR} {m : Nat} {A7 : Option Addr} {c7 : Nat} {A8 : Option Addr} {c8 : Nat} (h : Rl w wr T room ps m A7 c7 A8 c8) {k : Int} {L : Nat} (hL : lo Cmp.cmpI k ps = L) (hh : hit Cmp.cmpI k ps = true)
    (ht : TI.Tab wx T T room (cut Cmp.cmpI k ps)) (hf : TI.Fr T wr wx) {A5 : Option Addr} {c5 : Nat} {A9 : Option Addr} {c9 : Nat} (hF : Fin wx (ps.map (·.1)) (ps.map (·.2)) L m A5 c5 A9 c9 Z) :
    Rl w Z T room (cut Cmp.cmpI k ps) (m - 1) A5 c5 A9 c9 := by
  obtain ⟨hb, o7, o8⟩ := h.frame hf
  obtain ⟨f7, f8, fn, fb⟩ := hF
  have hTx := ht.base_le
  have e1 : (cut Cmp.cmpI k ps).map (·.1) = (ps.map (·.1)).take L ++ (ps.map (·.1)).drop (L + 1) := by unfold cut; rw [if_pos hh, hL]; simp [List.map_take, List.map_drop]
  have e2 : (cut Cmp.cmpI k ps).map (·.2) = (ps.map (·.2)).take L ++ (ps.map (·.2)).drop (L + 1) := by unfold cut; rw [if_pos hh, hL]; simp [List.map_take, List.map_drop]
  refine ⟨ht.below fb, hb.trans (fb.mono hTx), ?_, ?_, ?_, fn⟩
  · rw [length_cut, if_pos hh, h.len]
  · rw [e1]; exact owns_base f7 hTx
  · rw [e2]; exact owns_base f8 hTx

theorem Rl.caps {w wr : World} {T room : Nat} {ps : List TI.PR} {m : Nat} {A7 : Option Addr} {c7 : Nat} {A8 : Option Addr} {c8 : Nat} (h : Rl w wr T room ps m A7 c7 A8 c8) : m ≤ c7 ∧ c7 ≤ 9223372036854775807 ∧ m ≤ c8 ∧ c8 ≤ 9223372036854775807 := by
  have key : ∀ (A : Option Addr) (c : Nat) (xs : List Value), wr.ownsRow T 3 1 (.slice A m c) m xs → m ≤ c ∧ c ≤ 9223372036854775807 := by
    intro A c xs ho
    rcases owns_cases ho with ⟨h1, h0, _⟩ | ⟨g, cap, rest, h1, hb, hr, hnc, hcm, _⟩
    · injection h1 with _ h2 h3; omega
    · injection h1 with _ _ h3; unfold maxLen at hcm; omega
  obtain ⟨h1, h2⟩ := key _ _ _ h.o7
  obtain ⟨h3, h4⟩ := key _ _ _ h.o8
  exact ⟨h1, h2, h3, h4⟩

/-- what one insert leaves -/
def InsM (w : World) (zs : List Int) (i : Nat) (x : Int) (m : Nat) (e : Ending) (w' : World) : Prop :=
  ∃ A' c', e = .returned (.slice A' (m + 1) c') ∧ w'.ownsRow w.heap.size 3 1 (.slice A' (m + 1) c') (m + 1) (ints (zs.take i ++ x :: zs.drop i)) ∧ Below w.heap.size w w'

theorem insert_m (w : World) (b : Nat) (A : Option Addr) (c i m : Nat) (zs : List Int) (x : Int) (ho : w.ownsRow b 3 1 (.slice A m c) m (ints zs)) (hm : zs.length = m) (hi : i ≤ m) (hn : m ≤ 1000) :
    Calls Try.prog 12 #[.slice A m c, .int .i64 i, .int .i64 x] w (InsM w zs i x m) := by
  subst hm
  exact insert_ w b A c i zs x ho hi hn
theorem below_undrew {B : Nat} {w w' : World} (h : Below B w.drew w') : Below B w w' := ⟨h.os, h.tape, h.output, h.size, h.block⟩
end Go.Proofs.Ytnijiimljpbgpaa.PL
