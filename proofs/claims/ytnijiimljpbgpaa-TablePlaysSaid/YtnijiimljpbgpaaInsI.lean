/-
  A table over ints and ints: what slices.Insert does to the row of pairs: at the end, within the room that is there, into a new row.
-/
import Derived.Test.YtnijiimljpbgpaaBsI
import Derived.Laws.Externs
import Derived.Lib.Overlaps
import Derived.Lib.AppendZerosOnto
import Derived.Laws.NewBlocks
import Derived.Deep.RegionLaw
import Derived.OwnWalk
namespace Go.Proofs.Ytnijiimljpbgpaa.TI
open Go.RowKit Go.Proofs.Ytnijiimljpbgpaa.Kit

theorem info : (Try.prog.info? 60).map (fun i => (i.zero, i.size, i.bytes)) = some (some (.agg [.int .i64 0, .int .i64 0].toArray), 2, 16) := by kernel_rfl
theorem isz : (Try.prog.info? 60).map (·.size) = some 2 := by kernel_rfl

/-- What Insert leaves: the row that it tells is owned; but for the old row nothing that was there has turned. -/
def InsPost (w : World) (base : Nat) (V : Value) (ps : List PR) (e : Ending) (w' : World) : Prop :=
  ∃ V', e = .returned V' ∧ w'.ownsRow base 60 2 V' ps.length (cells ps) ∧ w.grownBy w' V.ownBlock

set_option maxHeartbeats 1000000 in
set_option maxRecDepth 100000 in
theorem ins_end (w : World) (base vb : Nat) (V : Value) (ps : List PR) (k : Int) (v : Int) (hn : ps.length ≤ 1000) (hown : w.ownsRow base 60 2 V ps.length (cells ps)) (hv : Row w vb 60 [(Value.int .i64 (k)), (Value.int .i64 (v))]) (hbase : base ≤ w.heap.size) :
    Calls Try.prog 29 #[V, .int .i64 (ps.length : Nat), .slice (some ⟨vb, 0, none⟩) 1 1] w (InsPost w base V (ps ++ [(k, v)])) := by
  obtain ⟨i0, hi, hz0, hz1, hz2⟩ := info_parts info
  have hnews : Hid (∀ j u, [(Value.int .i64 (k)), (Value.int .i64 (v))][j]? = some u → w.cell? ((⟨vb, 0, none⟩ : Addr).add j) = some u) := by
    intro j u hu
    have := hv.cell j
    rw [Addr.add_lit, Nat.zero_add, this]; exact hu
  have hone : Hid (∀ u ∈ [(Value.int .i64 (k)), (Value.int .i64 (v))], u.oneCell' = true) := by
    intro u hu
    simp only [List.mem_cons, List.not_mem_nil, or_false] at hu
    rcases hu with rfl | rfl <;> rfl
  have hlen := cells_length ps
  have HC := Lib.hid (cells_append ps [(k, v)])
  rcases owns_cases hown with ⟨rfl, h0, -⟩ | ⟨g, cap, rest, rfl, hb, hr, hnc, hcm, hl1, hl2⟩
  · have h0' : ps = [] := List.eq_nil_of_length_eq_zero h0
    subst h0'
    clear hlen h0
    go_enter Try.func29, Try.ntmps29
    go_wp2_with (at_builtin; refine wpList_append_own _ rfl (.tmp 23) (.tmp 24) 56 rfl base 60 i0 _ 2 16 Try.underlying56 hi hz0 hz1 hz2 rfl (by decide) _ 0 [] rfl hown ⟨vb, 0, none⟩ 1 1 [(Value.int .i64 (k)), (Value.int .i64 (v))] rfl rfl hnews.out hone.out (by decide) (by decide) hbase ?_)
    intro V' w' hown' hgr _
    have HO := Lib.hid hown'
    have HG := Lib.hid hgr
    clear hown' hgr hown
    go_wp2
    go_ret
    exact ⟨V', rfl, HO.out, HG.out⟩
  · have hml : cap ≤ 9223372036854775807 := by unfold maxLen at hcm; omega
    clear hlen hl1 hl2 hcm
    generalize hN : ps.length = n at *
    have HN := Lib.hid hN
    clear hN
    have hb1 : Hid (n + 1 ≤ maxLen) := by unfold maxLen; exact Nat.le_trans (Nat.succ_le_succ hn) (by decide)
    have hb2 : Hid ((n + 1) * 16 ≤ 140737488355328) := by show _ ≤ _; omega
    have hcc : n = cap ∨ n < cap := by omega
    rcases hcc with rfl | hcc
    all_goals
      go_enter Try.func29, Try.ntmps29
      go_wp2_with (at_builtin; refine wpList_append_own _ rfl (.tmp 23) (.tmp 24) 56 rfl base 60 i0 _ 2 16 Try.underlying56 hi hz0 hz1 hz2 rfl (by decide) _ n (cells ps) rfl hown ⟨vb, 0, none⟩ 1 1 [(Value.int .i64 (k)), (Value.int .i64 (v))] rfl rfl hnews.out hone.out hb1.out hb2.out hbase ?_)
      intro V' w' hown' hgr _
      have HO := Lib.hid hown'
      have HG := Lib.hid hgr
      clear hown' hgr hown
      go_wp2
      go_ret
      have ho := HO.out
      rw [show cells ps ++ [(Value.int .i64 (k)), (Value.int .i64 (v))] = cells (ps ++ [(k, v)]) from HC.out.symm, show n + 1 = (ps ++ [(k, v)]).length by simp [HN.out]] at ho
      exact ⟨V', rfl, ho, HG.out⟩

theorem shift_list (L cs vs xs rest : List Value) (i : Nat) (hL : L = xs ++ rest) (hi : i * 2 ≤ xs.length) (hx : (i + 1) * 2 + cs.length ≤ L.length) (hvs : vs.length = 2) (L1 : List Value) (hL1 : L1 = L.take ((i + 1) * 2) ++ (cs ++ L.drop ((i + 1) * 2 + cs.length))) :
    ∃ rest', L1.take (i * 2) ++ (vs ++ L1.drop (i * 2 + vs.length)) = (xs.take (i * 2) ++ (vs ++ cs)) ++ rest' ∧ rest'.length + (i + 1) * 2 + cs.length = L.length ∧ L1.length = L.length := by
  refine ⟨L.drop ((i + 1) * 2 + cs.length), ?_, ?_, ?_⟩
  · have h1 : L1.take (i * 2) = xs.take (i * 2) := by
      rw [hL1, List.take_append_of_le_length (by rw [List.length_take]; omega), List.take_take, Nat.min_eq_left (by omega), hL, List.take_append_of_le_length hi]
    have h2 : L1.drop (i * 2 + vs.length) = cs ++ L.drop ((i + 1) * 2 + cs.length) := by
      rw [hL1, hvs, show i * 2 + 2 = (i + 1) * 2 by omega]
      rw [List.drop_append_of_le_length (by rw [List.length_take]; omega), List.drop_take_self, List.nil_append]
    rw [h1, h2]
    simp [List.append_assoc]
  · rw [List.length_drop]; omega
  · rw [hL1]; simp; omega

theorem cells_ins (ps : List PR) (i : Nat) (k : Int) (v : Int) : cells (ps.take i ++ (k, v) :: ps.drop i) = (cells ps).take (i * 2) ++ ([(Value.int .i64 (k)), (Value.int .i64 (v))] ++ (cells ps).drop (i * 2)) := by
  rw [cells_append, cells_take]
  show _ ++ ((Value.int .i64 (k)) :: (Value.int .i64 (v)) :: cells (ps.drop i)) = _
  rw [cells_drop]
  rfl

theorem row_shape {w : World} {g : Nat} {t : TypeId} {l : List Value} (h : Row w g t l) : w.shape? g = some (t, l.length) := by
  unfold Row at h; simp [World.shape?, h]

set_option maxHeartbeats 1000000 in
set_option maxRecDepth 100000 in
theorem ins_shift (w : World) (base g vb cap i : Nat) (ps : List PR) (rest : List Value) (k : Int) (v : Int) (hn : ps.length ≤ 1000) (hb : base ≤ g) (hr : Row w g 60 (cells ps ++ rest)) (hcm : cap ≤ maxLen) (hl : (cells ps ++ rest).length = cap * 2)
    (hv : Row w vb 60 [(Value.int .i64 (k)), (Value.int .i64 (v))]) (hvb : vb ≠ g) (hi : i < ps.length) (hroom : ps.length + 1 ≤ cap) :
    Calls Try.prog 29 #[.slice (some ⟨g, 0, none⟩) ps.length cap, .int .i64 i, .slice (some ⟨vb, 0, none⟩) 1 1] w (InsPost w base (.slice (some ⟨g, 0, none⟩) ps.length cap) (ps.take i ++ (k, v) :: ps.drop i)) := by
  have hcl := cells_length ps
  obtain ⟨cs, hcs⟩ : ∃ cs, cs = (cells ps).drop (i * 2) := ⟨_, rfl⟩
  obtain ⟨vs, hvs⟩ : ∃ vs : List Value, vs = [(Value.int .i64 (k)), (Value.int .i64 (v))] := ⟨_, rfl⟩
  obtain ⟨L, hL⟩ : ∃ L, L = cells ps ++ rest := ⟨_, rfl⟩
  obtain ⟨L1, hL1⟩ : ∃ L1, L1 = L.take ((i + 1) * 2) ++ (cs ++ L.drop ((i + 1) * 2 + cs.length)) := ⟨_, rfl⟩
  rw [← hL] at hr hl
  rw [← hvs] at hv
  have hvl : vs.length = 2 := by rw [hvs]; rfl
  have hcsl : cs.length = (ps.length - i) * 2 := by rw [hcs, List.length_drop, hcl]; omega
  have hone : ∀ u ∈ vs, u.oneCell' = true := by
    intro u hu
    rw [hvs] at hu
    simp only [List.mem_cons, List.not_mem_nil, or_false] at hu
    rcases hu with rfl | rfl <;> rfl
  have honec : ∀ u ∈ cs, u.oneCell' = true := fun u hu => cells_one ps u (by rw [hcs] at hu; exact List.mem_of_mem_drop hu)
  obtain ⟨rest', hR1, hR2, hR3⟩ := shift_list L cs vs (cells ps) rest i hL (by omega) (by omega) hvl L1 hL1
  have hov : ∀ lb cb, (callFunc 38 #[.slice (some ⟨vb, 0, none⟩) 1 1, .slice (some ⟨g, (i + 1) * 2, none⟩) lb cb]).run Try.prog w = .ok (.value (.bool false)) w := fun lb cb => by
    rw [run_callFunc_extern Try.func38 (by kernel_rfl) (by kernel_rfl) (by kernel_rfl) (e := Extern.SlicesOverlaps.overlaps #[56, 56] #[4]) (by kernel_rfl),
      Lib.run_overlaps_apart w 56 4 60 Try.underlying56 2 (fun _ => by kernel_rfl) ⟨vb, 0, none⟩ ⟨g, (i + 1) * 2, none⟩ 1 1 lb cb hvb _ _ _ _ (row_shape hv) (row_shape hr) (by omega) (hv.frozen 0) (hv.frozen _)]
    rfl
  have hrd : Row w.drew g 60 L := hr
  have hsrc1 : ∀ j u, cs[j]? = some u → w.drew.cell? ((⟨g, i * 2, none⟩ : Addr).add j) = some u := by
    intro j u hu
    rw [Addr.add_lit, hrd.cell, hL]
    rw [hcs, List.getElem?_drop] at hu
    rw [List.getElem?_append_left (List.getElem?_eq_some_iff.1 hu).1]
    exact hu
  have hmin1 : cs.length = Nat.min (ps.length + 1 - i) (ps.length - i) * 2 := by rw [hcsl, show Nat.min (ps.length + 1 - i) (ps.length - i) = ps.length - i by simp only [Nat.min_def]; split <;> omega]
  have hcp1 : ∀ ty dc sc, (Builtin.copy_ #[56, 56] ty #[.slice (some ⟨g, (i + 1) * 2, none⟩) (ps.length - i) dc, .slice (some ⟨g, i * 2, none⟩) (ps.length + 1 - i) sc]).run Try.prog w.drew = _ := fun ty dc sc =>
    run_copy_rows w.drew 56 56 ty 60 2 g ((i + 1) * 2) (ps.length - i) dc ⟨g, i * 2, none⟩ (ps.length + 1 - i) sc L 60 cs Try.underlying56 isz hrd hmin1 hsrc1 (by omega) honec
  rw [← hL1] at hcp1
  obtain ⟨W1, hW1⟩ : ∃ W1, W1 = w.drew.setRow g L1.toArray := ⟨_, rfl⟩
  rw [← hW1] at hcp1
  have hr1 : Row W1 g 60 L1 := by rw [hW1]; exact hrd.laid L1
  have hv1 : Row W1 vb 60 vs := by rw [hW1]; exact hv.same (setRow_other _ _ _ _ hvb)
  have hsrc2 : ∀ j u, vs[j]? = some u → W1.cell? ((⟨vb, 0, none⟩ : Addr).add j) = some u := by
    intro j u hu
    rw [Addr.add_lit, Nat.zero_add, hv1.cell]; exact hu
  have hcp2 : ∀ ty dc, (Builtin.copy_ #[56, 56] ty #[.slice (some ⟨g, i * 2, none⟩) (ps.length + 1 - i) dc, .slice (some ⟨vb, 0, none⟩) 1 1]).run Try.prog W1 = _ := fun ty dc =>
    run_copy_rows W1 56 56 ty 60 2 g (i * 2) (ps.length + 1 - i) dc ⟨vb, 0, none⟩ 1 1 L1 60 vs Try.underlying56 isz hr1 (by rw [hvl, show Nat.min 1 (ps.length + 1 - i) = 1 by simp only [Nat.min_def]; split <;> omega]) hsrc2 (by omega) hone
  rw [hR1] at hcp2
  obtain ⟨L2, hL2⟩ : ∃ L2, L2 = (cells ps).take (i * 2) ++ (vs ++ cs) ++ rest' := ⟨_, rfl⟩
  rw [← hL2] at hcp2
  have hfin : InsPost w base (.slice (some ⟨g, 0, none⟩) ps.length cap) (ps.take i ++ (k, v) :: ps.drop i) (.returned (.slice (some ⟨g, 0, none⟩) (ps.length + 1) cap)) (W1.setRow g L2.toArray) := by
    rw [hL2]
    refine ⟨_, rfl, ?_, ?_⟩
    · have hlen : (ps.take i ++ (k, v) :: ps.drop i).length = ps.length + 1 := by simp; omega
      have hcc : cells (ps.take i ++ (k, v) :: ps.drop i) = (cells ps).take (i * 2) ++ (vs ++ cs) := by rw [cells_ins, hvs, hcs]
      rw [hlen, hcc]
      refine owns_mk (rest := rest') hb (hr1.laid _) hroom hcm ?_ ?_
      · rw [← hcc, cells_length, hlen]
      · rw [List.length_append, ← hcc, cells_length, hlen]; omega
    · refine grown_trans ?_ (setRow_grown W1 g _)
      rw [hW1]
      exact grown_of_drew (setRow_grown w.drew g _)
  have HF := Lib.hid hfin
  have hz2 : ¬ ((i : Int) = (ps.length : Int)) := by omega
  have hml : cap ≤ 9223372036854775807 := by unfold maxLen at hcm; omega
  generalize hN : ps.length = n at *
  have hn1 : i ≤ n := by omega
  have hw1 : IntKind.i64.wrap ((i : Int) + 1) = (i : Int) + 1 := by rw [IntKind.wrap_i64]; omega
  have hb1 : (0 : Int) ≤ (i : Int) + 1 := by omega
  have htn : ((i : Int) + 1).toNat = i + 1 := by omega
  have hb2 : ¬ (cap = i + 1) := by omega
  have hb3 : (i : Int) ≤ (n : Int) + 1 := by omega
  have hb4 : ¬ (cap = i) := by omega
  clear hL2 hfin hR1 hR2 hR3 hL hL1 hvs hcs hvl hcsl hmin1 hN hcl hsrc1 hsrc2 hone honec hrd hr hv hr1 hv1 hl hW1
  go_enter Try.func29, Try.ntmps29
  go_wp2_with (simp only [hov])
  go_region_law (refine step_copy_eq rfl _ _ 56 56 rfl _ _ (by simp [Act.eval, Act.put]) (by simp [Act.eval, Act.put]) (hcp1 _ _ _) ?_)
  go_wp2_with (at_builtin; refine wpList_copy_eq _ rfl (.tmp 80) (.tmp 81) 56 56 rfl _ _ rfl rfl (hcp2 _ _) ?_)
  go_ret
  exact HF.out

theorem grow_list (L cs vs xs : List Value) (i : Nat) (hL : L.take (i * 2) = xs.take (i * 2)) (hi : i * 2 ≤ xs.length) (hx : (i + 1) * 2 + cs.length ≤ L.length) (hvs : vs.length = 2) (L2 : List Value) (hL2 : L2 = L.take (i * 2) ++ (vs ++ L.drop (i * 2 + vs.length))) :
    ∃ rest', L2.take ((i + 1) * 2) ++ (cs ++ L2.drop ((i + 1) * 2 + cs.length)) = (xs.take (i * 2) ++ (vs ++ cs)) ++ rest' ∧ rest'.length + (i + 1) * 2 + cs.length = L.length ∧ L2.length = L.length := by
  have hl2 : L2.length = L.length := by rw [hL2]; simp; omega
  refine ⟨L2.drop ((i + 1) * 2 + cs.length), ?_, ?_, hl2⟩
  · have h1 : L2.take ((i + 1) * 2) = xs.take (i * 2) ++ vs := by
      rw [hL2, hL, ← List.append_assoc, List.take_append_of_le_length (by simp; omega), List.take_of_length_le (by simp; omega)]
    rw [h1]
    simp [List.append_assoc]
  · rw [List.length_drop]; omega

set_option maxHeartbeats 1000000 in
set_option maxRecDepth 100000 in
theorem ins_grow (w : World) (base g vb i : Nat) (ps : List PR) (k : Int) (v : Int) (hn : ps.length ≤ 1000) (hbase : base ≤ w.heap.size) (hr : Row w g 60 (cells ps))
    (hv : Row w vb 60 [(Value.int .i64 (k)), (Value.int .i64 (v))]) (hi : i < ps.length) :
    Calls Try.prog 29 #[.slice (some ⟨g, 0, none⟩) ps.length ps.length, .int .i64 i, .slice (some ⟨vb, 0, none⟩) 1 1] w (InsPost w base (.slice (some ⟨g, 0, none⟩) ps.length ps.length) (ps.take i ++ (k, v) :: ps.drop i)) := by
  obtain ⟨i0, hi0, hz0, hz1, hz2⟩ := info_parts info
  have hcl := cells_length ps
  obtain ⟨cs, hcs⟩ : ∃ cs, cs = (cells ps).drop (i * 2) := ⟨_, rfl⟩
  obtain ⟨vs, hvs⟩ : ∃ vs : List Value, vs = [(Value.int .i64 (k)), (Value.int .i64 (v))] := ⟨_, rfl⟩
  rw [← hvs] at hv
  have hvl : vs.length = 2 := by rw [hvs]; rfl
  have hcsl : cs.length = (ps.length - i) * 2 := by rw [hcs, List.length_drop, hcl]; omega
  have hone : ∀ u ∈ vs, u.oneCell' = true := by
    intro u hu
    rw [hvs] at hu
    simp only [List.mem_cons, List.not_mem_nil, or_false] at hu
    rcases hu with rfl | rfl <;> rfl
  have honec : ∀ u ∈ cs, u.oneCell' = true := fun u hu => cells_one ps u (by rw [hcs] at hu; exact List.mem_of_mem_drop hu)
  have hold : (Builtin.firstCells i0.size i (.slice (some ⟨g, 0, none⟩) i ps.length)).run Try.prog w.drew = .ok ((cells ps).take (i * 2)).toArray w.drew := by
    rw [hz1]
    exact run_firstCells_some w.drew 2 i ⟨g, 0, none⟩ i ps.length ((cells ps).take (i * 2)) (by rw [List.length_take, hcl]; omega) (fun j u hj => by
      rw [Addr.add_lit, Nat.zero_add]
      rw [List.getElem?_take] at hj
      split at hj
      · exact (hr.cell j).trans hj
      · cases hj)
  have hkk : (ps.length : Int) + 1 - (i : Int) = ((ps.length + 1 - i : Nat) : Int) := by omega
  have hik : i + (ps.length + 1 - i) = ps.length + 1 := by omega
  obtain ⟨G, hG⟩ : ∃ G, G = grownCap w (ps.length + 1) ps.length 60 := ⟨_, rfl⟩
  have hrz : ∀ ty, (Builtin.append_ #[56, 3] ty #[.slice (some ⟨g, 0, none⟩) i ps.length, .int .i64 ((ps.length : Int) + 1 - (i : Int))]).run Try.prog w =
      .ok (.slice (some ⟨w.heap.size, 0, none⟩) (ps.length + 1) G) (w.drew.alloc (.cells (((cells ps).take (i * 2)).toArray ++ Builtin.zeroCells (Value.agg [.int .i64 0, .int .i64 0].toArray).cells (ps.length + 1 - i) ++ Builtin.zeroCells (Value.agg [.int .i64 0, .int .i64 0].toArray).cells (G - (ps.length + 1))) 60)) := fun ty => by
    have h := Lib.run_append_grow_zeros w 56 3 ty 60 i0 _ .i64 .i64 Try.underlying56 Try.underlying3 hi0 hz0 (some ⟨g, 0, none⟩) i ps.length _ hold (ps.length + 1 - i) (by omega) (by omega) (by omega) (by omega) (by rw [hz2]; omega) (by rw [hz2, hik]; exact growslice_fits (Nat.lt_succ_self _) (by omega))
    rw [hik, ← hG] at h
    rw [hkk]
    exact h
  have hGn : ps.length + 1 ≤ G := by rw [hG]; exact grownCap_ge w _ _ _
  have hGm : G ≤ maxLen := by rw [hG]; exact grownCap_le_maxLen w _ _ _ (by unfold maxLen; omega)
  obtain ⟨L, hL⟩ : ∃ L : List Value, L = (((cells ps).take (i * 2)).toArray ++ Builtin.zeroCells (Value.agg [.int .i64 0, .int .i64 0].toArray).cells (ps.length + 1 - i) ++ Builtin.zeroCells (Value.agg [.int .i64 0, .int .i64 0].toArray).cells (G - (ps.length + 1))).toList := ⟨_, rfl⟩
  obtain ⟨W1, hW1⟩ : ∃ W1, W1 = w.drew.alloc (.cells L.toArray 60) := ⟨_, rfl⟩
  obtain ⟨N, hN0⟩ : ∃ N, N = w.heap.size := ⟨_, rfl⟩
  have hLt : L.take (i * 2) = (cells ps).take (i * 2) := by
    rw [hL]
    simp only [Array.toList_append, List.append_assoc]
    rw [List.take_append_of_le_length (by simp; omega), List.take_of_length_le (by simp; omega)]
  have hLl : L.length = G * 2 := by
    rw [hL, Array.length_toList, Array.size_append, Array.size_append, size_zeroCells, size_zeroCells]
    simp [Value.cells]
    omega
  rw [show (((cells ps).take (i * 2)).toArray ++ Builtin.zeroCells (Value.agg [.int .i64 0, .int .i64 0].toArray).cells (ps.length + 1 - i) ++ Builtin.zeroCells (Value.agg [.int .i64 0, .int .i64 0].toArray).cells (G - (ps.length + 1))) = L.toArray by rw [hL, Array.toArray_toList], ← hW1, ← hN0] at hrz
  have hr1 : Row W1 N 60 L := by rw [hW1, hN0]; exact heap_alloc_new w.drew _
  have hgw : w.grownBy W1 (some g) := by rw [hW1]; exact grown_of_drew (World.grownBy_alloc w.drew _ _)
  have hgN : g ≠ N := by have := hr.lt; omega
  have hvN : vb ≠ N := by have := hv.lt; omega
  have hrg1 : Row W1 g 60 (cells ps) := by rw [hW1]; exact Row.alloc (w := w.drew) hr _
  have hv1 : Row W1 vb 60 vs := by rw [hW1]; exact Row.alloc (w := w.drew) hv _
  obtain ⟨L2, hL2⟩ : ∃ L2, L2 = L.take (i * 2) ++ (vs ++ L.drop (i * 2 + vs.length)) := ⟨_, rfl⟩
  obtain ⟨rest', hR1, hR2, hR3⟩ := grow_list L cs vs (cells ps) i hLt (by omega) (by omega) hvl L2 hL2
  have hcpA : ∀ ty dc, (Builtin.copy_ #[56, 56] ty #[.slice (some ⟨N, i * 2, none⟩) (ps.length + 1 - i) dc, .slice (some ⟨vb, 0, none⟩) 1 1]).run Try.prog W1 = _ := fun ty dc =>
    run_copy_rows W1 56 56 ty 60 2 N (i * 2) (ps.length + 1 - i) dc ⟨vb, 0, none⟩ 1 1 L 60 vs Try.underlying56 isz hr1 (by rw [hvl, show Nat.min 1 (ps.length + 1 - i) = 1 by simp only [Nat.min_def]; split <;> omega]) (fun j u hu => by rw [Addr.add_lit, Nat.zero_add, hv1.cell]; exact hu) (by omega) hone
  rw [← hL2] at hcpA
  obtain ⟨W2, hW2⟩ : ∃ W2, W2 = W1.setRow N L2.toArray := ⟨_, rfl⟩
  rw [← hW2] at hcpA
  have hr2 : Row W2.drew N 60 L2 := by rw [hW2]; exact hr1.laid L2
  have hrg2 : Row W2.drew g 60 (cells ps) := by rw [hW2]; exact hrg1.same (setRow_other _ _ _ _ hgN)
  have hcpB : ∀ ty dc sc, (Builtin.copy_ #[56, 56] ty #[.slice (some ⟨N, (i + 1) * 2, none⟩) (ps.length - i) dc, .slice (some ⟨g, i * 2, none⟩) (ps.length - i) sc]).run Try.prog W2.drew = _ := fun ty dc sc =>
    run_copy_rows W2.drew 56 56 ty 60 2 N ((i + 1) * 2) (ps.length - i) dc ⟨g, i * 2, none⟩ (ps.length - i) sc L2 60 cs Try.underlying56 isz hr2 (by rw [hcsl, show Nat.min (ps.length - i) (ps.length - i) = ps.length - i by simp only [Nat.min_def]; split <;> omega]) (fun j u hu => by rw [Addr.add_lit, hrg2.cell]; rw [hcs, List.getElem?_drop] at hu; exact hu) (by omega) honec
  rw [hR1] at hcpB
  obtain ⟨L3, hL3⟩ : ∃ L3, L3 = (cells ps).take (i * 2) ++ (vs ++ cs) ++ rest' := ⟨_, rfl⟩
  rw [← hL3] at hcpB
  have hfin : InsPost w base (.slice (some ⟨g, 0, none⟩) ps.length ps.length) (ps.take i ++ (k, v) :: ps.drop i) (.returned (.slice (some ⟨N, 0, none⟩) (ps.length + 1) G)) (W2.drew.setRow N L3.toArray) := by
    rw [hL3]
    refine ⟨_, rfl, ?_, ?_⟩
    · have hlen : (ps.take i ++ (k, v) :: ps.drop i).length = ps.length + 1 := by simp; omega
      have hcc : cells (ps.take i ++ (k, v) :: ps.drop i) = (cells ps).take (i * 2) ++ (vs ++ cs) := by rw [cells_ins, hvs, hcs]
      rw [hlen, hcc]
      refine owns_mk (rest := rest') (by omega) (hr2.laid _) hGn hGm ?_ ?_
      · rw [← hcc, cells_length, hlen]
      · rw [List.length_append, ← hcc, cells_length, hlen]; omega
    · refine grown_new ?_ (setRow_grown W2.drew N _) (by omega)
      rw [hW2]
      exact grown_drew (grown_new hgw (setRow_grown W1 N _) (by omega))
  have HF := Lib.hid hfin
  have hz2' : ¬ ((i : Int) = (ps.length : Int)) := by omega
  have hGml : G ≤ 9223372036854775807 := by unfold maxLen at hGm; omega
  generalize hN : ps.length = n at *
  have hn1 : i ≤ n := by omega
  have hw1 : IntKind.i64.wrap ((i : Int) + 1) = (i : Int) + 1 := by rw [IntKind.wrap_i64]; omega
  have hb1 : (0 : Int) ≤ (i : Int) + 1 := by omega
  have htn : ((i : Int) + 1).toNat = i + 1 := by omega
  have hb3 : (i : Int) ≤ (n : Int) + 1 := by omega
  have hb4 : ¬ (n = i) := by omega
  have hb5 : ¬ (G = i) := by omega
  have hb6 : ¬ (G = i + 1) := by omega
  clear hL3 hfin hR1 hR2 hR3 hL hL2 hvs hcs hvl hcsl hN hcl hone honec hr hv hr1 hr2 hv1 hrg1 hrg2 hgw hW1 hW2 hLt hLl hold hkk hik hG hGm hN0 hbase hgN hvN
  go_enter Try.func29, Try.ntmps29
  go_wp2_with (first
    | (at_builtin; refine Lib.wpList_append_run _ rfl (.tmp 34) (.tmp 39) 56 3 rfl _ _ rfl rfl _ _ (hrz _) ?_)
    | (at_builtin; refine wpList_copy_eq _ rfl (.tmp 43) (.tmp 44) 56 56 rfl _ _ rfl rfl (hcpA _ _) ?_))
  go_region_law (refine step_copy_eq rfl _ _ 56 56 rfl _ _ (by simp [Act.eval, Act.put]) (by simp [Act.eval, Act.put]) (hcpB _ _ _) ?_)
  go_wp2
  go_ret
  exact HF.out
end Go.Proofs.Ytnijiimljpbgpaa.TI
