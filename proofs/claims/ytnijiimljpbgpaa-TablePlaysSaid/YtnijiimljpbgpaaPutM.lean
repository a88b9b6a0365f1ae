/-
  A table over texts and ints: Put.
-/
import Derived.Test.YtnijiimljpbgpaaTabM
namespace Go.Proofs.Ytnijiimljpbgpaa.TM
open Go.RowKit Go.Proofs.Ytnijiimljpbgpaa.Kit

theorem cells_set : ∀ (ps : List PR) (i : Nat) (k : ByteArray) (u v : Int), ps[i]? = some (k, u) → cells (ps.set i (k, v)) = (cells ps).set (i * 2 + 1) (Value.int .i64 (v))
  | q :: r, 0, k, u, v, h => by simp at h; subst h; rfl
  | q :: r, i + 1, k, u, v, h => by
    rw [show (i + 1) * 2 + 1 = (i * 2 + 1) + 1 + 1 by omega]
    simp only [List.set_cons_succ, cells]
    rw [cells_set r i k u v (by simpa using h)]

/-- a store into the row of pairs -/
theorem tab_stored {w : World} {base T room : Nat} {ps : List PR} {g cap : Nat} {rest : List Value} (hs : Srt Cmp.cmpS ps) (hl : ps.length ≤ room) (hrm : room ≤ 1000) (hT : Row w T 72 [.int .i64 room, .slice (some ⟨g, 0, none⟩) ps.length cap]) (hB : base ≤ T)
    (hb : base ≤ g) (hr : Row w g 74 (cells ps ++ rest)) (hnc : ps.length ≤ cap) (hcm : cap ≤ maxLen) (hl2 : (cells ps ++ rest).length = cap * 2) {k : ByteArray} {v u : Int} {i : Nat} (hh : hit Cmp.cmpS k ps = true) (hlo : lo Cmp.cmpS k ps = i) (hu : ps[i]? = some (k, u)) :
    Tab (w.setCell ⟨g, i * 2 + 1, none⟩ (Value.int .i64 (v))) base T room (upd Cmp.cmpS k v ps) ∧ Fr base w (w.setCell ⟨g, i * 2 + 1, none⟩ (Value.int .i64 (v))) := by
  have hne : T ≠ g := hT.ne_ hr (by decide)
  have hcl := cells_length ps
  have hilt := (List.getElem?_eq_some_iff.1 hu).1
  have hul : (upd Cmp.cmpS k v ps).length = ps.length := by simp [upd]
  have hcu : cells (upd Cmp.cmpS k v ps) = (cells ps).set (i * 2 + 1) (Value.int .i64 (v)) := by unfold upd; rw [hlo]; exact cells_set ps i k u v hu
  refine ⟨⟨srt_map (map_upd Cmp.ordS hh) hs, by rw [hul]; exact hl, hrm, _, by rw [← hul] at hT; exact hT.far (p := ⟨g, _, none⟩) hne _, hB, ?_⟩, ?_⟩
  · have hr' := hr.stored (i * 2 + 1) (Value.int .i64 (v))
    rw [List.set_append_left _ _ (by omega), ← hcu] at hr'
    have hcl' : (cells (upd Cmp.cmpS k v ps)).length = ps.length * 2 := by rw [cells_length, hul]
    rw [hul]
    have hl3 : (cells (upd Cmp.cmpS k v ps) ++ rest).length = cap * 2 := by rw [← hl2, hcu]; simp
    exact owns_mk hb hr' hnc hcm hcl' hl3
  · exact Fr.of_grown (setCell_grown w _ _) (fun g' e => by injection e with e; subst e; exact ⟨hb, _, _, .inr rfl, hr⟩)

set_option maxHeartbeats 1000000 in
theorem put_hit {w : World} {base T room : Nat} {ps : List PR} (h : Tab w base T room ps) (k : ByteArray) (v : Int) (hh : hit Cmp.cmpS k ps = true) :
    Calls Try.prog 25 #[.pointer (some ⟨T, 0, none⟩), (Value.string (k)), (Value.int .i64 (v))] w fun e w' => e = .returned (.bool true) ∧ Tab w' base T room (upd Cmp.cmpS k v ps) ∧ Fr base w w' := by
  have hS := Lib.hid (search h k)
  obtain ⟨u, hu⟩ := (hit_iff Cmp.ordS).1 hh
  have hilt : lo Cmp.cmpS k ps < ps.length := hit_lt hh
  have hlen := h.len
  have hrl := h.room_le
  have HH := Lib.hid hh
  rw [hh] at hS
  have Hw := Lib.hid h
  obtain ⟨i, hi⟩ : ∃ i, lo Cmp.cmpS k ps = i := ⟨_, rfl⟩
  rw [hi] at hS hu hilt
  have HI := Lib.hid hi
  have HU := Lib.hid hu
  clear hi hu hh h
  go_enter Try.func25, Try.ntmps25
  go_wp2_with fail
  refine hS.out.mono ?_
  rintro e w1 ⟨rfl, hb1⟩
  obtain ⟨hs, hl, hrm, V, hT, hB, ho⟩ := Hw.out.below hb1
  have HB1 := Lib.hid hb1
  clear hb1
  rcases owns_cases ho with ⟨rfl, h0, -⟩ | ⟨g, cap, rest, rfl, hb, hr, hnc, hcm, hl1, hl2⟩
  · omega
  · have hfin := tab_stored hs hl hrm hT hB hb hr hnc hcm hl2 (v := v) HH.out HI.out HU.out
    have HF := Lib.hid hfin
    have hc1 : w1.cell? ⟨T, 1, none⟩ = some (.slice (some ⟨g, 0, none⟩) ps.length cap) := hT.cell 1
    have hc2 : w1.cell? ⟨g, i * 2 + 1, none⟩ = some (Value.int .i64 (u)) := by
      rw [hr.cell, List.getElem?_append_left (by have := cells_length ps; omega)]
      exact (cells_at ps i _ HU.out).2
    have hf2 : w1.frozen? ⟨g, i * 2 + 1, none⟩ = false := hr.frozen _
    generalize ps.length = n at *
    have hni : (i : Int) < (n : Int) := by omega
    clear hfin hs hl hrm hT hB ho hb hr hnc hcm hl1 hl2
    go_wp2
    go_ret
    exact ⟨rfl, HF.out.1, (Fr.of_below HB1.out).trans HF.out.2⟩

set_option maxHeartbeats 1000000 in
theorem put_full {w : World} {base T room : Nat} {ps : List PR} (h : Tab w base T room ps) (k : ByteArray) (v : Int) (hh : hit Cmp.cmpS k ps = false) (hfull : ps.length = room) :
    Calls Try.prog 25 #[.pointer (some ⟨T, 0, none⟩), (Value.string (k)), (Value.int .i64 (v))] w fun e w' => e = .returned (.bool false) ∧ Tab w' base T room ps ∧ Fr base w w' := by
  have hS := Lib.hid (search h k)
  rw [hh] at hS
  have Hw := Lib.hid h
  have hrl := h.room_le
  obtain ⟨i, hi⟩ : ∃ i, lo Cmp.cmpS k ps = i := ⟨_, rfl⟩
  rw [hi] at hS
  clear hi hh h
  subst hfull
  go_enter Try.func25, Try.ntmps25
  go_wp2_with fail
  refine hS.out.mono ?_
  rintro e w1 ⟨rfl, hb1⟩
  have hTab := Hw.out.below hb1
  have HT := Lib.hid hTab
  obtain ⟨hs, hl, hrm, V, hT, hB, ho⟩ := hTab
  have HB1 := Lib.hid hb1
  clear hb1
  have hc1 : w1.cell? ⟨T, 1, none⟩ = some V := hT.cell 1
  have hc0 : w1.cell? ⟨T, 0, none⟩ = some (.int .i64 (ps.length : Nat)) := hT.cell 0
  rcases owns_cases ho with ⟨rfl, h0, -⟩ | ⟨g, cap, rest, rfl, hb, hr, hnc, hcm, hl1, hl2⟩
  · obtain rfl : ps = [] := List.eq_nil_of_length_eq_zero h0
    clear hs hl hrm hT hB ho h0
    go_wp2
    go_quiet (fail)
    go_wp2
    go_ret
    exact ⟨rfl, HT.out.drewN _, (Fr.of_below HB1.out).trans (Fr.of_below ⟨rfl, rfl, rfl, Nat.le_refl _, fun _ _ => rfl⟩)⟩
  · clear hs hl hrm hT hB ho hb hr hnc hcm hl1 hl2
    go_wp2
    go_quiet (fail)
    go_wp2
    go_ret
    exact ⟨rfl, HT.out.drewN _, (Fr.of_below HB1.out).trans (Fr.of_below ⟨rfl, rfl, rfl, Nat.le_refl _, fun _ _ => rfl⟩)⟩

theorem ins_any (w : World) (base vb i : Nat) (V : Value) (ps : List PR) (k : ByteArray) (v : Int) (hn : ps.length ≤ 1000) (hown : w.ownsRow base 74 2 V ps.length (cells ps)) (hv : Row w vb 74 [(Value.string (k)), (Value.int .i64 (v))]) (hvb : V.ownBlock ≠ some vb) (hbase : base ≤ w.heap.size) (hi : i ≤ ps.length) :
    Calls Try.prog 34 #[V, .int .i64 i, .slice (some ⟨vb, 0, none⟩) 1 1] w (InsPost w base V (ps.take i ++ (k, v) :: ps.drop i)) := by
  by_cases hil : i < ps.length
  · rcases owns_cases hown with ⟨rfl, h0, -⟩ | ⟨g, cap, rest, rfl, hb, hr, hnc, hcm, hl1, hl2⟩
    · omega
    · by_cases hroom : ps.length + 1 ≤ cap
      · exact ins_shift w base g vb cap i ps rest k v hn hb hr hcm hl2 hv (fun e => hvb (by rw [e]; rfl)) hil hroom
      · obtain rfl : cap = ps.length := by omega
        obtain rfl : rest = [] := List.eq_nil_of_length_eq_zero (by rw [List.length_append] at hl2; omega)
        rw [List.append_nil] at hr
        exact ins_grow w base g vb i ps k v hn hbase hr hv hil
  · obtain rfl : i = ps.length := by omega
    rw [List.take_length, List.drop_length]
    exact ins_end w base vb V ps k v hn hown hv hbase

theorem tab_put {w0 w3 : World} {base T room : Nat} {ps qs : List PR} {V V' : Value} (hs : Srt Cmp.cmpS qs) (hl : qs.length ≤ room) (hrm : room ≤ 1000) (hT : Row w0 T 72 [.int .i64 room, V]) (hB : base ≤ T) (ho : w0.ownsRow base 74 2 V ps.length (cells ps))
    (ho' : w3.ownsRow base 74 2 V' qs.length (cells qs)) (hg : w0.grownBy w3 V.ownBlock) :
    Row w3 T 72 [.int .i64 room, V] ∧ Tab (w3.setCell ⟨T, 1, none⟩ V') base T room qs ∧ Fr base w0 (w3.setCell ⟨T, 1, none⟩ V') := by
  have hne : ∀ g, V.ownBlock = some g → base ≤ g ∧ ∃ l, Row w0 g 74 l := by
    intro g hgv
    rcases owns_cases ho with ⟨rfl, h0, -⟩ | ⟨g', cap, rest, rfl, hb, hr, hnc, hcm, hl1, hl2⟩
    · cases hgv
    · injection hgv with e; subst e; exact ⟨hb, _, hr⟩
  have hT3 : Row w3 T 72 [.int .i64 room, V] := hT.same (hg.block T hT.lt (fun e => by
    obtain ⟨_, l, hr⟩ := hne T e.symm
    exact hT.ne_ hr (by decide) rfl))
  refine ⟨hT3, ⟨hs, hl, hrm, V', hT3.stored 1 V', hB, ?_⟩, ?_⟩
  · rcases owns_cases ho' with ⟨rfl, h0, h1⟩ | ⟨g', cap, rest, rfl, hb, hr, hnc, hcm, hl1, hl2⟩
    · rw [h0, h1]; exact World.ownsRow_nil _ _ _ _
    · exact owns_mk hb (hr.far (p := ⟨T, 1, none⟩) (hr.ne_ hT3 (by decide)) _) hnc hcm hl1 hl2
  · refine (Fr.of_grown hg (fun g e => ?_)).trans (Fr.of_grown (setCell_grown w3 ⟨T, 1, none⟩ V') (fun g' e => by injection e with e; subst e; exact ⟨hB, _, _, .inl rfl, hT3⟩))
    obtain ⟨h1, l, h2⟩ := hne g e
    exact ⟨h1, l, _, .inr rfl, h2⟩

set_option maxHeartbeats 1000000 in
theorem put_new {w : World} {base T room : Nat} {ps : List PR} (h : Tab w base T room ps) (k : ByteArray) (v : Int) (hh : hit Cmp.cmpS k ps = false) (hfull : ps.length < room) :
    Calls Try.prog 25 #[.pointer (some ⟨T, 0, none⟩), (Value.string (k)), (Value.int .i64 (v))] w fun e w' => e = .returned (.bool true) ∧ Tab w' base T room (ins Cmp.cmpS k v ps) ∧ Fr base w w' := by
  have hS := Lib.hid (search h k)
  have HQ := Lib.hid (srt_ins (v := v) Cmp.ordS h.srt hh)
  have HL := Lib.hid (show (ins Cmp.cmpS k v ps).length ≤ room by
    have := lo_le Cmp.cmpS k ps
    unfold ins; simp; omega)
  rw [hh] at hS
  have Hw := Lib.hid h
  have hrl := h.room_le
  have hile := lo_le Cmp.cmpS k ps
  have HI : Hid (ins Cmp.cmpS k v ps = ps.take (lo Cmp.cmpS k ps) ++ (k, v) :: ps.drop (lo Cmp.cmpS k ps)) := rfl
  generalize lo Cmp.cmpS k ps = i at hS hile HI
  clear hh h
  go_enter Try.func25, Try.ntmps25
  go_wp2_with fail
  refine hS.out.mono ?_
  rintro e w1 ⟨rfl, hb1⟩
  have hTab := Hw.out.below hb1
  have hbl := hTab.base_le
  obtain ⟨hs, hl, hrm, V, hT, hB, ho⟩ := hTab
  have HB1 := Lib.hid hb1
  clear hb1
  have hc1 : w1.cell? ⟨T, 1, none⟩ = some V := hT.cell 1
  have hc0 : w1.cell? ⟨T, 0, none⟩ = some (.int .i64 (room : Nat)) := hT.cell 0
  have hlt := hT.lt
  have HT := Lib.hid hT
  have HO := Lib.hid ho
  have hVn : ∃ A c, V = .slice A ps.length c := by
    rcases owns_cases ho with ⟨rfl, h0, -⟩ | ⟨g, cap, rest, rfl, hb, hr, hnc, hcm, hl1, hl2⟩
    · exact ⟨none, 0, by rw [h0]⟩
    · exact ⟨_, _, rfl⟩
  have hov := ho.lt
  have HOV := Lib.hid hov
  obtain ⟨A, c, rfl⟩ := hVn
  have hfi : ((ps.length : Nat) : Int) < (room : Int) := by omega
  have hnl : ps.length ≤ 1000 := by omega
  clear hT ho hs hl hrm hov
  go_wp2
  go_quiet (fail)
  go_wp2_with fail
  have hb12 : Below w1.heap.size w1 ((w1.drewN nq).alloc (.cells #[(Value.string (k)), (Value.int .i64 (v))] 74)) := Below.trans (b := w1.drewN nq) ⟨rfl, rfl, rfl, Nat.le_refl _, fun _ _ => rfl⟩ (below_alloc (w1.drewN nq) _)
  have hv2 : Row ((w1.drewN nq).alloc (.cells #[(Value.string (k)), (Value.int .i64 (v))] 74)) w1.heap.size 74 [(Value.string (k)), (Value.int .i64 (v))] := heap_alloc_new (w1.drewN nq) _
  generalize (w1.drewN nq).alloc (.cells #[(Value.string (k)), (Value.int .i64 (v))] 74) = w2 at hb12 hv2
  have hT2 := HT.out.below hb12 hlt
  have hO2 := owns_below hb12 HO.out
  refine (ins_any w2 base w1.heap.size i _ ps k v hnl hO2 hv2 (fun e => by have := (HOV.out _ e).2; omega) (Nat.le_trans hbl hb12.size) hile).mono ?_
  rintro e w3 hp
  obtain ⟨V', rfl, ho', hg⟩ := hp
  rw [← HI.out] at ho'
  obtain ⟨hT3, hTab4, hFr4⟩ := tab_put HQ.out HL.out hrl hT2 hB hO2 ho' hg
  have hc3 : w3.cell? ⟨T, 1, none⟩ = some (.slice A ps.length c) := hT3.cell 1
  have hf3 : w3.frozen? ⟨T, 1, none⟩ = false := hT3.frozen 1
  have HF := Lib.hid (show Tab (w3.setCell ⟨T, 1, none⟩ V') base T room (ins Cmp.cmpS k v ps) ∧ Fr base w (w3.setCell ⟨T, 1, none⟩ V') from ⟨hTab4, ((Fr.of_below HB1.out).trans (Fr.of_below hb12)).trans hFr4⟩)
  have hVs : ∃ A' n' c', V' = .slice A' n' c' := by
    rcases owns_cases ho' with ⟨rfl, _⟩ | ⟨_, _, _, rfl, _⟩
    · exact ⟨_, _, _, rfl⟩
    · exact ⟨_, _, _, rfl⟩
  obtain ⟨A', n', c', rfl⟩ := hVs
  clear hTab4 hFr4 hT3 ho' hg hO2 hT2 hv2 hb12 hc1 hc0
  go_wp2
  go_ret
  exact ⟨rfl, HF.out.1, HF.out.2⟩

/-- Put, whatever the table and the name -/
theorem put_any {w : World} {base T room : Nat} {ps : List PR} (h : Tab w base T room ps) (k : ByteArray) (v : Int) :
    Calls Try.prog 25 #[.pointer (some ⟨T, 0, none⟩), (Value.string (k)), (Value.int .i64 (v))] w fun e w' => e = .returned (.bool (hit Cmp.cmpS k ps || decide (ps.length < room))) ∧ Tab w' base T room (if hit Cmp.cmpS k ps || decide (ps.length < room) then put Cmp.cmpS k v ps else ps) ∧ Fr base w w' := by
  cases hh : hit Cmp.cmpS k ps with
  | true =>
    have hp : put Cmp.cmpS k v ps = upd Cmp.cmpS k v ps := by simp [put, hh]
    simp only [Bool.true_or, if_true, hp]
    exact put_hit h k v hh
  | false =>
    have hp : put Cmp.cmpS k v ps = ins Cmp.cmpS k v ps := by simp [put, hh]
    by_cases hl : ps.length < room
    · simp only [Bool.false_or, hl, decide_true, if_true, hp]
      exact put_new h k v hh hl
    · simp only [Bool.false_or, hl, decide_false, Bool.false_eq_true, if_false]
      exact put_full h k v hh (by have := h.len; omega)
end Go.Proofs.Ytnijiimljpbgpaa.TM
