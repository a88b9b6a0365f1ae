/-
  A table over ints and ints: slices.Delete, Cut, and Keys.
-/
import Derived.Test.YtnijiimljpbgpaaTabI
namespace Go.Proofs.Ytnijiimljpbgpaa.TI
open Go.RowKit Go.Proofs.Ytnijiimljpbgpaa.Kit

theorem zv : ∀ w, (zeroValue 60).run Try.prog w = .ok (.agg [.int .i64 0, .int .i64 0].toArray) w := fun _ => by kernel_rfl

/-- the row behind the delete: what stood ahead of i, what stood behind it, then a zero element and what lay there -/
theorem del_list (xs rest zs : List Value) (i n : Nat) (hx : xs.length = n * 2) (hi : i < n) (hz : zs.length = 2) :
    ∃ rest', (((xs ++ rest).take (i * 2) ++ (xs.drop ((i + 1) * 2) ++ (xs ++ rest).drop (i * 2 + (xs.drop ((i + 1) * 2)).length))).take ((n - 1) * 2) ++ (zs ++ ((xs ++ rest).take (i * 2) ++ (xs.drop ((i + 1) * 2) ++ (xs ++ rest).drop (i * 2 + (xs.drop ((i + 1) * 2)).length))).drop ((n - 1) * 2 + zs.length))) = (xs.take (i * 2) ++ xs.drop ((i + 1) * 2)) ++ rest' ∧
      rest'.length = rest.length + 2 := by
  have hdl : (xs.drop ((i + 1) * 2)).length = (n - 1 - i) * 2 := by rw [List.length_drop, hx]; omega
  have h1 : (xs ++ rest).take (i * 2) = xs.take (i * 2) := List.take_append_of_le_length (by omega)
  generalize hD : xs.drop ((i + 1) * 2) = D at *
  have hpre : (xs.take (i * 2) ++ D).length = (n - 1) * 2 := by rw [List.length_append, List.length_take, hdl]; omega
  rw [h1]
  generalize hX : (xs ++ rest).drop (i * 2 + D.length) = X
  have hXl : X.length = rest.length + 2 := by rw [← hX, List.length_drop, List.length_append, hdl]; omega
  rw [show xs.take (i * 2) ++ (D ++ X) = (xs.take (i * 2) ++ D) ++ X from (List.append_assoc _ _ _).symm]
  refine ⟨zs ++ X.drop zs.length, ?_, ?_⟩
  · rw [List.take_append_of_le_length (by omega), List.take_of_length_le (by omega), ← List.drop_drop, ← hpre, List.drop_left]
  · rw [List.length_append, List.length_drop, hXl, hz]; omega

def DelPost (w : World) (base : Nat) (V : Value) (ps : List PR) (e : Ending) (w' : World) : Prop :=
  ∃ V', e = .returned V' ∧ w'.ownsRow base 60 2 V' ps.length (cells ps) ∧ w.grownBy w' V.ownBlock

set_option maxHeartbeats 1000000 in
set_option maxRecDepth 100000 in
theorem del (w : World) (base g cap i : Nat) (ps : List PR) (rest : List Value) (hn : ps.length ≤ 1000) (hb : base ≤ g) (hr : Row w g 60 (cells ps ++ rest)) (hcm : cap ≤ maxLen) (hl : (cells ps ++ rest).length = cap * 2)
    (hi : i < ps.length) (hnc : ps.length ≤ cap) :
    Calls Try.prog 30 #[.slice (some ⟨g, 0, none⟩) ps.length cap, .int .i64 i, .int .i64 ((i : Int) + 1)] w (DelPost w base (.slice (some ⟨g, 0, none⟩) ps.length cap) (ps.take i ++ ps.drop (i + 1))) := by
  obtain ⟨i0, hi0, hz0, hz1, hz2⟩ := info_parts info
  have hcl := cells_length ps
  obtain ⟨zs, hzs⟩ : ∃ zs : List Value, zs = [.int .i64 0, .int .i64 0] := ⟨_, rfl⟩
  have hzl : zs.length = 2 := by rw [hzs]; rfl
  obtain ⟨rest', hR1, hR2⟩ := del_list (cells ps) rest zs i ps.length hcl hi hzl
  obtain ⟨cs, hcs⟩ : ∃ cs, cs = (cells ps).drop ((i + 1) * 2) := ⟨_, rfl⟩
  rw [← hcs] at hR1
  obtain ⟨L, hL⟩ : ∃ L, L = cells ps ++ rest := ⟨_, rfl⟩
  rw [← hL] at hr hl hR1
  obtain ⟨L1, hL1⟩ : ∃ L1, L1 = L.take (i * 2) ++ (cs ++ L.drop (i * 2 + cs.length)) := ⟨_, rfl⟩
  rw [← hL1] at hR1
  have hcsl : cs.length = (ps.length - (i + 1)) * 2 := by rw [hcs, List.length_drop, hcl]; omega
  have honec : ∀ u ∈ cs, u.oneCell' = true := fun u hu => cells_one ps u (by rw [hcs] at hu; exact List.mem_of_mem_drop hu)
  have honez : ∀ u ∈ zs, u.oneCell' = true := by
    intro u hu
    rw [hzs] at hu
    simp only [List.mem_cons, List.not_mem_nil, or_false] at hu
    rcases hu with rfl | rfl <;> rfl
  have hrd : Row w.drew g 60 L := hr
  obtain ⟨A, hA, hsrc⟩ : ∃ A : Addr, (if cap = i + 1 then some (⟨g, 0, none⟩ : Addr) else some ⟨g, (i + 1) * 2, none⟩) = some A ∧ (∀ t u, cs[t]? = some u → w.drew.cell? (A.add t) = some u) := by
    by_cases h : cap = i + 1
    · refine ⟨⟨g, 0, none⟩, by simp [h], fun t u hu => ?_⟩
      rw [List.eq_nil_of_length_eq_zero (show cs.length = 0 by omega)] at hu
      simp at hu
    · refine ⟨⟨g, (i + 1) * 2, none⟩, by simp [h], fun t u hu => ?_⟩
      rw [Addr.add_lit, hrd.cell, hL]
      rw [hcs, List.getElem?_drop] at hu
      rw [List.getElem?_append_left (List.getElem?_eq_some_iff.1 hu).1]
      exact hu
  have hap : ∀ ty sc, (Builtin.append_ #[56, 56] ty #[.slice (some ⟨g, 0, none⟩) i cap, .slice (some A) (ps.length - (i + 1)) sc]).run Try.prog w.drew = _ := fun ty sc =>
    run_append_room (P := Try.prog) w.drew 56 ty 60 i0 Try.underlying56 hi0 g i cap L.toArray hrd A (ps.length - (i + 1)) sc cs (by rw [hz1]; exact hcsl) hsrc honec (by omega) (by rw [hz1]; simp; omega)
  rw [hz1, show (L.toArray.toList.take (i * 2) ++ cs ++ L.toArray.toList.drop (i * 2 + cs.length)) = L1 by rw [hL1]; simp] at hap
  obtain ⟨W1, hW1⟩ : ∃ W1, W1 = w.drew.setRow g L1.toArray := ⟨_, rfl⟩
  rw [← hW1, show i + (ps.length - (i + 1)) = ps.length - 1 by omega] at hap
  have hr1 : Row W1 g 60 L1 := by rw [hW1]; exact hrd.laid L1
  have hL1l : L1.length = cap * 2 := by rw [hL1]; simp; omega
  have hclr : ∀ ty sc, (Builtin.clear_ #[56] ty #[.slice (some ⟨g, (ps.length - 1) * 2, none⟩) 1 sc]).run Try.prog W1 = _ := fun ty sc =>
    run_clear_row W1 56 60 ty (.agg [.int .i64 0, .int .i64 0].toArray) zs Try.underlying56 zv (by rw [hzs]; rfl) honez g ((ps.length - 1) * 2) sc L1 60 hr1 (by omega)
  rw [hR1] at hclr
  obtain ⟨L2, hL2⟩ : ∃ L2, L2 = (cells ps).take (i * 2) ++ cs ++ rest' := ⟨_, rfl⟩
  rw [← hL2] at hclr
  have hclr2 : ∀ ty sc, (Builtin.clear_ #[56] ty #[.slice (some ⟨g, (ps.length - 1) * 2, none⟩) (ps.length - (ps.length - 1)) sc]).run Try.prog W1 = .ok (.tuple #[]) (W1.setRow g L2.toArray) := fun ty sc => by
    rw [show ps.length - (ps.length - 1) = 1 by omega]
    exact hclr ty sc
  clear hclr
  have hfin : DelPost w base (.slice (some ⟨g, 0, none⟩) ps.length cap) (ps.take i ++ ps.drop (i + 1)) (.returned (.slice (some ⟨g, 0, none⟩) (ps.length - 1) cap)) (W1.setRow g L2.toArray) := by
    rw [hL2]
    refine ⟨_, rfl, ?_, ?_⟩
    · have hlen : (ps.take i ++ ps.drop (i + 1)).length = ps.length - 1 := by simp; omega
      have hcc : cells (ps.take i ++ ps.drop (i + 1)) = (cells ps).take (i * 2) ++ cs := by rw [cells_append, cells_take, cells_drop, hcs]
      rw [hlen, hcc]
      refine owns_mk (rest := rest') hb (hr1.laid _) (by omega) hcm ?_ ?_
      · rw [← hcc, cells_length, hlen]
      · rw [List.length_append, ← hcc, cells_length, hlen, hR2]
        rw [hL, List.length_append, hcl] at hl
        omega
    · refine grown_trans ?_ (setRow_grown W1 g _)
      rw [hW1]
      exact grown_of_drew (setRow_grown w.drew g _)
  have HF := Lib.hid hfin
  have hml : cap ≤ 9223372036854775807 := by unfold maxLen at hcm; omega
  generalize hN : ps.length = n at *
  have hq1 : i ≤ cap := by omega
  have hq2 : i + 1 ≤ cap := by omega
  have hq3 : i + 1 ≤ n := by omega
  have hq4 : (i : Int) + 1 ≤ (n : Int) := by omega
  have hq5 : (n : Int) - 1 = ((n - 1 : Nat) : Int) := by omega
  have hz9 : ((i : Int) == (i : Int) + 1) = false := by rw [beq_eq_false_iff_ne]; omega
  have hw1 : IntKind.i64.wrap ((i : Int) + 1) = (i : Int) + 1 := by rw [IntKind.wrap_i64]; omega
  have hb1 : (0 : Int) ≤ (i : Int) + 1 := by omega
  have htn : ((i : Int) + 1).toNat = i + 1 := by omega
  have hcne : ¬ (cap = n - 1) := by omega
  clear hL2 hfin hR1 hR2 hL hL1 hzs hcs hcsl hN hcl hsrc honec honez hrd hr hr1 hl hW1 hL1l hzl
  go_enter Try.func30, Try.ntmps30
  go_wp2_with fail
  go_region_law (refine step_append_eq rfl (.tmp 22) (.tmp 25) 56 56 rfl (.slice (some ⟨g, 0, none⟩) i cap) (.slice (some A) (n - (i + 1)) (cap - (i + 1))) (by simp [Act.eval, Act.put]) (by simp [Act.eval, Act.put]) (hap _ (cap - (i + 1))) ?_)
  go_wp2
  go_ret
  exact HF.out

set_option maxHeartbeats 1000000 in
theorem cut_no {w : World} {base T room : Nat} {ps : List PR} (h : Tab w base T room ps) (k : Int) (hh : hit Cmp.cmpI k ps = false) :
    Calls Try.prog 13 #[.pointer (some ⟨T, 0, none⟩), (Value.int .i64 (k))] w fun e w' => e = .returned (.bool false) ∧ Below w.heap.size w w' := by
  have hS := Lib.hid (search h k)
  rw [hh] at hS
  clear hh h
  go_enter Try.func13, Try.ntmps13
  go_wp2_with fail
  refine hS.out.mono ?_
  rintro e w1 ⟨rfl, hb1⟩
  have HB1 := Lib.hid hb1
  clear hb1
  go_wp2
  go_ret
  exact ⟨rfl, HB1.out⟩

theorem tab_cut {w0 w3 : World} {base T room : Nat} {ps qs : List PR} {V V' : Value} (hs : Srt Cmp.cmpI qs) (hl : qs.length ≤ room) (hrm : room ≤ 1000) (hT : Row w0 T 58 [.int .i64 room, V]) (hB : base ≤ T) (ho : w0.ownsRow base 60 2 V ps.length (cells ps))
    (ho' : w3.ownsRow base 60 2 V' qs.length (cells qs)) (hg : w0.grownBy w3 V.ownBlock) :
    Row w3 T 58 [.int .i64 room, V] ∧ Tab (w3.setCell ⟨T, 1, none⟩ V') base T room qs ∧ Fr base w0 (w3.setCell ⟨T, 1, none⟩ V') := by
  have hne : ∀ g, V.ownBlock = some g → base ≤ g ∧ ∃ l, Row w0 g 60 l := by
    intro g hgv
    rcases owns_cases ho with ⟨rfl, h0, -⟩ | ⟨g', cap, rest, rfl, hb, hr, hnc, hcm, hl1, hl2⟩
    · cases hgv
    · injection hgv with e; subst e; exact ⟨hb, _, hr⟩
  have hT3 : Row w3 T 58 [.int .i64 room, V] := hT.same (hg.block T hT.lt (fun e => by
    obtain ⟨_, l, hr⟩ := hne T e.symm
    exact hT.ne_ hr (by decide) rfl))
  refine ⟨hT3, ⟨hs, hl, hrm, V', hT3.stored 1 V', hB, ?_⟩, ?_⟩
  · rcases owns_cases ho' with ⟨rfl, h0, h1⟩ | ⟨g', cap, rest, rfl, hb, hr, hnc, hcm, hl1, hl2⟩
    · rw [h0, h1]; exact World.ownsRow_nil _ _ _ _
    · exact owns_mk hb (hr.far (p := ⟨T, 1, none⟩) (hr.ne_ hT3 (by decide)) _) hnc hcm hl1 hl2
  · refine (Fr.of_grown hg (fun g e => ?_)).trans (Fr.of_grown (setCell_grown w3 ⟨T, 1, none⟩ V') (fun g' e => by injection e with e; subst e; exact ⟨hB, _, _, .inl rfl, hT3⟩))
    obtain ⟨h1, l, h2⟩ := hne g e
    exact ⟨h1, l, _, .inr rfl, h2⟩

set_option maxHeartbeats 1000000 in
theorem cut_yes {w : World} {base T room : Nat} {ps : List PR} (h : Tab w base T room ps) (k : Int) (hh : hit Cmp.cmpI k ps = true) :
    Calls Try.prog 13 #[.pointer (some ⟨T, 0, none⟩), (Value.int .i64 (k))] w fun e w' => e = .returned (.bool true) ∧ Tab w' base T room (cut Cmp.cmpI k ps) ∧ Fr base w w' := by
  have hS := Lib.hid (search h k)
  have HQ := Lib.hid (srt_cut (k := k) h.srt)
  have hilt := hit_lt hh
  have hlen := h.len
  have HL := Lib.hid (show (cut Cmp.cmpI k ps).length ≤ room by rw [length_cut]; split <;> omega)
  have HI : Hid (cut Cmp.cmpI k ps = ps.take (lo Cmp.cmpI k ps) ++ ps.drop (lo Cmp.cmpI k ps + 1)) := by show _ = _; simp [cut, hh]
  rw [hh] at hS
  have Hw := Lib.hid h
  have hrl := h.room_le
  generalize lo Cmp.cmpI k ps = i at hS hilt HI
  clear hh h
  go_enter Try.func13, Try.ntmps13
  go_wp2_with fail
  refine hS.out.mono ?_
  rintro e w1 ⟨rfl, hb1⟩
  have hTab := Hw.out.below hb1
  obtain ⟨hs, hl, hrm, V, hT, hB, ho⟩ := hTab
  have HB1 := Lib.hid hb1
  clear hb1
  have hc1 : w1.cell? ⟨T, 1, none⟩ = some V := hT.cell 1
  rcases owns_cases ho with ⟨rfl, h0, -⟩ | ⟨g, cap, rest, rfl, hb, hr, hnc, hcm, hl1, hl2⟩
  · omega
  · have HD := Lib.hid (del w1 base g cap i ps rest (by omega) hb hr hcm hl2 hilt hnc)
    have HT := Lib.hid hT
    have HO := Lib.hid ho
    have hii : (i : Int) ≤ 1000 := by omega
    clear hT ho hs hl hb hr hcm hl1 hl2 hnc
    go_wp2_with fail
    refine HD.out.mono ?_
    rintro e w3 hp
    obtain ⟨V', rfl, ho', hg⟩ := hp
    rw [← HI.out] at ho'
    obtain ⟨hT3, hTab4, hFr4⟩ := tab_cut HQ.out HL.out hrl HT.out hB HO.out ho' hg
    have hc3 : w3.cell? ⟨T, 1, none⟩ = some (.slice (some ⟨g, 0, none⟩) ps.length cap) := hT3.cell 1
    have hf3 : w3.frozen? ⟨T, 1, none⟩ = false := hT3.frozen 1
    have HF := Lib.hid (show Tab (w3.setCell ⟨T, 1, none⟩ V') base T room (cut Cmp.cmpI k ps) ∧ Fr base w (w3.setCell ⟨T, 1, none⟩ V') from ⟨hTab4, (Fr.of_below HB1.out).trans hFr4⟩)
    have hVs : ∃ A' n' c', V' = .slice A' n' c' := by
      rcases owns_cases ho' with ⟨rfl, _⟩ | ⟨_, _, _, rfl, _⟩
      · exact ⟨_, _, _, rfl⟩
      · exact ⟨_, _, _, rfl⟩
    obtain ⟨A', n', c', rfl⟩ := hVs
    clear hTab4 hFr4 hT3 ho' hg hc1
    go_wp2
    go_ret
    exact ⟨rfl, HF.out.1, HF.out.2⟩

/-- Cut, whatever the table and the name -/
theorem cut_any {w : World} {base T room : Nat} {ps : List PR} (h : Tab w base T room ps) (k : Int) :
    Calls Try.prog 13 #[.pointer (some ⟨T, 0, none⟩), (Value.int .i64 (k))] w fun e w' => e = .returned (.bool (hit Cmp.cmpI k ps)) ∧ Tab w' base T room (cut Cmp.cmpI k ps) ∧ Fr base w w' := by
  cases hh : hit Cmp.cmpI k ps with
  | true => exact cut_yes h k hh
  | false =>
    have hp : cut Cmp.cmpI k ps = ps := by simp [cut, hh]
    rw [hp]
    exact (cut_no h k hh).mono fun e w' ⟨he, hb⟩ => ⟨he, h.below hb, Fr.of_below hb⟩
end Go.Proofs.Ytnijiimljpbgpaa.TI
