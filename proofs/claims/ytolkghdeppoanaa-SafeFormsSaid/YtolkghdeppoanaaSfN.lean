/-
  Whether changes may be: names that may, none the safe's own, each once.
-/
import Derived.Test.YtolkghdeppoanaaSfL
import Derived.Lib.SlicesCompact
import Derived.Lib.OwnBridge
set_option linter.unusedVariables false
set_option linter.unusedSimpArgs false
namespace Go.Proofs.Ytolkghdeppoanaa.SfN
open Go.RowKit Go.Sort Go.Proofs.Ytolkghdeppoanaa.BxD Go.Proofs.Ytolkghdeppoanaa.BxKit Go.Proofs.Ytolkghdeppoanaa.RkO Go.Proofs.Ytolkghdeppoanaa.RkP Go.Proofs.Ytolkghdeppoanaa.RkC Go.Proofs.Ytolkghdeppoanaa.RkD Go.Proofs.Ytolkghdeppoanaa.RkR Go.Proofs.Ytolkghdeppoanaa.RkK Go.Proofs.Ytolkghdeppoanaa.RkM Go.Proofs.Ytolkghdeppoanaa.SfC Go.Proofs.Ytolkghdeppoanaa.SfD Go.Proofs.Ytolkghdeppoanaa.SfK

/-! ## What sorted texts come to -/
abbrev Tx := List (List UInt8)
def srt (l : Tx) : Tx := l.mergeSort fun x y => decide (x ≤ y)
theorem srt_len (l : Tx) : (srt l).length = l.length := List.length_mergeSort l
theorem srt_perm (l : Tx) : (srt l).Perm l := List.mergeSort_perm l _
theorem srt_up (l : Tx) : (srt l).Pairwise (fun a b => a ≤ b) := by
  have h := List.pairwise_mergeSort (le := fun x y : List UInt8 => decide (x ≤ y)) (fun a b c h1 h2 => decide_eq_true (List.le_trans (of_decide_eq_true h1) (of_decide_eq_true h2))) (fun a b => by
    rcases List.le_total a b with h | h
    · simp [h]
    · simp [h]) l
  exact h.imp fun h => of_decide_eq_true h
theorem up_nodup : ∀ {l : Tx}, l.Pairwise (fun a b => a ≤ b) → (∀ i, i + 1 < l.length → l[i]? ≠ l[i + 1]?) → l.Nodup
  | [], _, _ => List.Pairwise.nil
  | [a], _, _ => by simp
  | a :: b :: r, h, hk => by
    have h2 := (List.pairwise_cons.1 h).2
    have ih := up_nodup h2 (fun i hi => by have := hk (i + 1) (by simpa using hi); simpa using this)
    refine List.nodup_cons.2 ⟨fun hm => ?_, ih⟩
    have hab : a ≤ b := (List.pairwise_cons.1 h).1 b (List.mem_cons_self ..)
    have hne : a ≠ b := fun e => hk 0 (by simp) (by simp [e])
    rcases List.mem_cons.1 hm with e | hm
    · exact hne e
    · have hba : b ≤ a := (List.pairwise_cons.1 h2).1 a hm
      exact hne (List.le_antisymm hab hba)
theorem cu_len (d : Array (List UInt8)) : ∀ m, (Lib.compactUpTo d m).length ≤ m
  | 0 => by simp [Lib.compactUpTo]
  | m + 1 => by
    have := cu_len d m
    rw [Lib.compactUpTo_succ, List.length_append]
    split <;> simp <;> omega
theorem cu_full (d : Array (List UInt8)) : ∀ m, (Lib.compactUpTo d m).length = m → ∀ j, j < m → Lib.keeps d j = true
  | 0, _, j, hj => absurd hj (Nat.not_lt_zero _)
  | m + 1, h, j, hj => by
    have hl := cu_len d m
    rw [Lib.compactUpTo_succ, List.length_append] at h
    have hk : Lib.keeps d m = true := by
      cases hk : Lib.keeps d m with
      | true => rfl
      | false => rw [hk] at h; simp at h; omega
    rw [hk] at h
    rcases Nat.lt_succ_iff_lt_or_eq.1 hj with h1 | rfl
    · exact cu_full d m (by simpa using h) j h1
    · exact hk
/-- As many are left as there were, just if none stands twice. -/
theorem compact_nodup (l : Tx) : (Lib.compact (srt l)).length = l.length ↔ l.Nodup := by
  have hget : ∀ j, j < (srt l).length → (srt l).toArray[j]! = (srt l)[j]! := fun j hj => by simp [getElem!_pos, hj]
  constructor
  · intro h
    refine (srt_perm l).nodup_iff.1 (up_nodup (srt_up l) fun i hi e => ?_)
    unfold Lib.compact at h
    rw [srt_len] at h
    have hk := cu_full _ _ h (i + 1) (by rw [srt_len] at hi; exact hi)
    unfold Lib.keeps at hk
    have hk := of_decide_eq_true hk
    rcases hk with hk | hk
    · omega
    · rw [List.getElem?_eq_getElem (show i < (srt l).length by omega), List.getElem?_eq_getElem hi] at e
      have e2 := Option.some.inj e
      rw [hget _ hi, Nat.add_sub_cancel, hget _ (by omega), getElem!_pos (srt l) (i + 1) hi, getElem!_pos (srt l) i (by omega)] at hk
      exact hk e2.symm
  · intro h
    have hn : (srt l).Nodup := (srt_perm l).nodup_iff.2 h
    rw [Lib.compact_all _ fun j hj => ?_, srt_len]
    unfold Lib.keeps
    refine decide_eq_true ?_
    rcases Nat.eq_zero_or_pos j with h0 | h0
    · exact .inl h0
    · refine .inr ?_
      rw [hget _ hj, hget _ (by omega), getElem!_pos (srt l) j hj, getElem!_pos (srt l) (j - 1) (by omega)]
      intro e
      have := (List.nodup_iff_pairwise_ne.1 hn)
      have := List.pairwise_iff_getElem.1 this (j - 1) j (by omega) hj (by omega)
      exact this e.symm
theorem below_grow (w : World) (os : Array Obj) : Below w.heap.size w (grow w os) := by
  refine ⟨rfl, rfl, rfl, ?_, fun i hi => ?_⟩
  · show w.heap.size ≤ (w.heap ++ os).size
    rw [Array.size_append]; omega
  · show (w.heap ++ os)[i]? = w.heap[i]?
    rw [Array.getElem?_append_left (by omega)]
theorem sort_own {w wr : World} {n : Nat} {v : Value} {ys : Tx} (h : wr.ownsRow w.heap.size 9 1 v n (ys.map encStr)) (hb0 : Below w.heap.size w wr) (hn : n ≤ 1000000) :
    Calls Try.prog 67 #[v] wr fun e w' => e = .returned (.tuple #[]) ∧ w'.ownsRow w.heap.size 9 1 v n ((srt ys).map encStr) ∧ Below w.heap.size w w' := by
  by_cases hv : v = .slice none 0 0
  · subst hv
    have h0 : n = 0 := by
      rcases h.2 with ⟨_, h0⟩ | ⟨g, cap, cur, e0, _⟩
      · exact h0
      · cases e0
    subst h0
    have hy : ys = [] := List.eq_nil_of_length_eq_zero (by simpa using h.1)
    subst hy
    exact (Try.slices_Sort_string_none none 0 wr).mono fun e w' ⟨he, hw⟩ => ⟨he, by rw [hw, show srt [] = [] by simp [srt]]; exact ⟨World.ownsRow_nil _ _ _ _, hb0⟩⟩
  · obtain ⟨g, cap, rfl, hb, hg, hnc, hcm, hl, hH⟩ := Lib.holds_of_ownsRow h hv
    subst hl
    refine (Try.slices_Sort_string g 0 cap ys wr hH hg (by omega)).mono fun e w' ⟨he, q, os, hw⟩ => ⟨he, ?_⟩
    subst hw
    have h1 := Lib.ownsRow_putRow (q := q) (ys := srt ys) h (srt_len ys) (Nat.le_refl _)
    rw [List.take_of_length_le (by rw [srt_len]; exact Nat.le_refl _)] at h1
    have h2 : Below w.heap.size w (Sort.putRow encStr (Sort.ahead wr q) g 0 (srt ys).toArray) := Lib.below_putRow hb0 hb
    have h3 := below_grow (Sort.putRow encStr (Sort.ahead wr q) g 0 (srt ys).toArray) os
    exact ⟨h1.kept (RkO.grown_below h3 (row := none)) (by simp [Value.ownBlock]), h2.trans (h3.mono h2.size)⟩
theorem compact_own {w wr : World} {n c : Nat} {A : Option Addr} {ys : Tx} (h : wr.ownsRow w.heap.size 9 1 (.slice A n c) n (ys.map encStr)) (hb0 : Below w.heap.size w wr) (hn : n ≤ 1000000) :
    Calls Try.prog 68 #[.slice A n c] wr fun e w' => ∃ A', e = .returned (.slice A' (Lib.compact ys).length c) ∧ Below w.heap.size w w' := by
  have hl0 : ys.length = n := by have := h.1; simpa using this
  by_cases hv : (.slice A n c : Value) = .slice none 0 0
  · injection hv with e1 e2 e3
    subst e1 e2 e3
    have hy : ys = [] := List.eq_nil_of_length_eq_zero hl0
    subst hy
    exact (Try.slices_Compact_string_empty none 0 wr).mono fun e w' ⟨he, hw⟩ => ⟨none, by rw [he]; rfl, by rw [hw]; exact hb0⟩
  · obtain ⟨g, cap, e, hb, hg, hnc, hcm, hl, hH⟩ := Lib.holds_of_ownsRow h hv
    injection e with e1 e2 e3
    subst e1 e3
    subst hl
    refine (Try.slices_Compact_string g 0 c ys wr hH (by omega) hnc).mono fun e w' ⟨he, q, hw⟩ => ⟨_, he, ?_⟩
    subst hw
    exact Lib.below_putRow hb0 hb
theorem nodup_tx (l : List ByteArray) : (l.map (·.data.toList)).Nodup ↔ l.Nodup := by
  rw [List.nodup_iff_pairwise_ne, List.nodup_iff_pairwise_ne, List.pairwise_map]
  constructor
  · intro h; exact h.imp fun h e => h (by rw [e])
  · intro h; exact h.imp fun {a b} h e => h (by cases a; cases b; congr 1; exact Array.ext' e)
theorem enc_map (l : List ByteArray) : (l.map (·.data.toList)).map encStr = l.map Value.string := Lib.map_encStr l
theorem nR_list : nR.toList = [61, 114, 101, 100, 111] := by rw [ByteArray.toList_eq]
theorem nR_eq (x : ByteArray) : (x.toList == [61, 114, 101, 100, 111]) = decide (x = nR) := by
  rw [← nR_list]
  by_cases h : x = nR
  · subst h; rw [decide_eq_true rfl]; exact beq_self_eq_true _
  · rw [decide_eq_false h]
    exact beq_eq_false_iff_ne.2 fun e => h (ba_ext e)
theorem nil_eq (x : ByteArray) : x.toList.isEmpty = decide (x.size = 0) := by
  have hl : x.toList.length = x.size := by rw [ByteArray.toList_eq, Array.length_toList]; rfl
  by_cases h : x.size = 0
  · rw [decide_eq_true h, List.isEmpty_iff]
    exact List.eq_nil_of_length_eq_zero (by omega)
  · rw [decide_eq_false h]
    cases hx : x.toList with
    | nil => rw [hx] at hl; simp at hl; omega
    | cons a r => rfl
theorem may_bad {l : List Ch} {q : Nat} {c : Ch} (h : l[q]? = some c) (hb : chBad c = true) : mayL l = false := by
  unfold mayL
  have : (l.all fun c => !chBad c) = false := by
    cases h2 : l.all fun c => !chBad c with
    | false => rfl
    | true =>
      have := List.all_eq_true.1 h2 c (List.mem_of_getElem? h)
      rw [hb] at this
      cases this
  rw [this]; rfl
theorem may_good {l : List Ch} (h : ∀ c ∈ l, chBad c = false) : mayL l = decide ((l.map (·.name)).Nodup) := by
  unfold mayL
  rw [show (l.all fun c => !chBad c) = true from List.all_eq_true.2 fun c hc => by rw [h c hc]; rfl, Bool.true_and]
section
variable {base T lo hi k : Nat} {w : World}
set_option maxHeartbeats 8000000 in
set_option maxRecDepth 100000 in
theorem may_any {n cp : Nat} {A : Option Addr} {l : List Ch} (hL : ChsP w base lo hi A n l) (h1 : base ≤ w.heap.size) (h2 : hi ≤ w.heap.size) (hn : n ≤ 1000) (hz : ∀ c ∈ l, c.name.size ≤ 1000000 ∧ c.data.length ≤ 1000000) :
    Calls Try.prog 43 #[.slice A n cp] w fun e w' => e = .returned (.bool (mayL l)) ∧ Below w.heap.size w w' := by
  have HL := Lib.hid hL
  have HLN := Lib.hid hL.1
  have HW := Lib.hid (And.intro h1 h2)
  have HZ := Lib.hid hz
  clear hL h1 h2 hz
  go_enter Try.func43, Try.ntmps43
  go_wp2_with fail
  go_loopw [3, 8] (fun s3 s8 wr => ∃ (v : Value) (q : Nat), s3 = v ∧ q ≤ n ∧ s8 = .int .i64 q ∧ Hid (∀ c ∈ l.take q, chBad c = false) ∧ Hid (wr.ownsRow w.heap.size 9 1 v q ((l.take q).map fun c => Value.string c.name)) ∧ Hid (Below w.heap.size w wr)) (fun _ s8 _ => n - (intOf s8).toNat)
  case atStart => exact ⟨_, 0, rfl, Nat.zero_le _, rfl, (fun c hc => by simp at hc), World.ownsRow_nil _ _ _ _, Below.refl _ _⟩
  case round =>
    obtain ⟨v, q, rfl, hq, rfl, HA, HO, HB⟩ := hrel
    by_cases hlt : q < n
    · obtain ⟨ad, x, bb, K, kd, kc, rfl, hg, d0, d1, d2, hle, hby, _⟩ := HL.out.sp (Kb.below HB.out HW.out.1 HW.out.2) (j := q) hlt
      have HG := Lib.hid hg
      have hsz := HZ.out _ (List.mem_of_getElem? hg)
      have hs1 : x.size ≤ 1000000 := hsz.1
      have hs2 : kd.length ≤ 1000000 := hsz.2
      have HB1 := Lib.hid (HB.out.alloc HB.out.size (.cells #[.string x, .bool bb, .slice K kd.length kc] 42))
      have HO1 := Lib.hid (HO.out.alloc (.cells #[.string x, .bool bb, .slice K kd.length kc] 42))
      have e1 := nR_eq x
      have e2 := nil_eq x
      obtain ⟨m, hm⟩ : ∃ m, m = kd.length := ⟨_, rfl⟩
      rw [← hm] at d2 hs2 HB1 HO1
      have HM := Lib.hid hm
      clear hg hsz hle hby hm
      by_cases c1 : x = nR
      · rw [decide_eq_true c1] at e1
        have C1 := Lib.hid c1
        clear c1 e2
        have HP := Lib.hid (show mayL l = false from may_bad HG.out (by unfold chBad; simp only [C1.out]; simp))
        go_wp2_with fail
        go_ret
        exact ⟨by rw [HP.out]; rfl, HB1.out⟩
      rw [decide_eq_false c1] at e1
      by_cases c2 : x.size = 0
      · rw [decide_eq_true c2] at e2
        have C2 := Lib.hid c2
        clear c1 c2
        have HP := Lib.hid (show mayL l = false from may_bad HG.out (by unfold chBad; simp only [C2.out]; simp))
        go_wp2_with fail
        go_ret
        exact ⟨by rw [HP.out]; rfl, HB1.out⟩
      rw [decide_eq_false c2] at e2
      by_cases c3 : 24 < x.size
      · have C3 := Lib.hid (show decide (24 < x.size) = true from decide_eq_true c3)
        clear c1 c2
        have c3i : (24 : Int) < (x.size : Int) := by omega
        have HP := Lib.hid (show mayL l = false from may_bad HG.out (by unfold chBad; simp only [C3.out]; simp))
        go_wp2_with fail
        go_ret
        exact ⟨by rw [HP.out]; rfl, HB1.out⟩
      have c3i : ¬ (24 : Int) < (x.size : Int) := by omega
      by_cases c4 : 200000 < m
      · have C4 := Lib.hid (show decide (200000 < kd.length) = true from decide_eq_true (by rw [← HM.out]; exact c4))
        clear c1 c2
        have c4i : (200000 : Int) < (m : Int) := by omega
        have HP := Lib.hid (show mayL l = false from may_bad HG.out (by unfold chBad; simp only [C4.out]; simp))
        go_wp2_with fail
        go_ret
        exact ⟨by rw [HP.out]; rfl, HB1.out⟩
      have c4i : ¬ (200000 : Int) < (m : Int) := by omega
      have HC := Lib.hid (show chBad ⟨x, bb, kd⟩ = false by
        unfold chBad
        rw [decide_eq_false c1, decide_eq_false c2, decide_eq_false c3, decide_eq_false (by rw [← HM.out]; exact c4)]; rfl)
      have HSN := Lib.hid (show l.take (q + 1) = l.take q ++ [⟨x, bb, kd⟩] by
        obtain ⟨hl1, hg1⟩ := List.getElem?_eq_some_iff.1 HG.out
        rw [List.take_succ_eq_append_getElem hl1, hg1])
      have HS := Lib.hid (src_new (wr.alloc (.cells #[.string x, .bool bb, .slice K m kc] 42)) #[.string x] 9 (m := 1) (sz := 1) rfl rfl (fun u hu => by simp at hu; subst hu; rfl))
      rw [World.size_alloc] at HS
      have HO5 := Lib.hid (HO1.out.alloc (.cells #[.string x] 9))
      have HB5 := Lib.hid (HB1.out.alloc HB1.out.size (.cells #[.string x] 9))
      have HSZ := Lib.hid HB5.out.size
      clear c1 c2
      go_wp2_with (at_builtin; go_loud (
         refine wpList_rows elS rfl _ _ rfl rfl rfl HO5.out HS.out (by unfold maxLen; omega) (by omega) HSZ.out ?_
         intro v6 w6 hown hg6 _
         have HO6 := Lib.hid (show w6.ownsRow w.heap.size 9 1 v6 (q + 1) ((l.take (q + 1)).map fun c => Value.string c.name) by rw [HSN.out, List.map_append]; exact hown)
         have HB6 := Lib.hid (HB5.out.grown hg6 HSZ.out (fun g e => (HO.out.lt g e).1))
         clear hown hg6))
      go_roundw
      case rel =>
        refine ⟨v6, q + 1, rfl, by omega, by go_num, ?_, HO6, HB6⟩
        show ∀ c ∈ l.take (q + 1), chBad c = false
        rw [HSN.out]
        intro c hc
        rcases List.mem_append.1 hc with hc | hc
        · exact HA.out c hc
        · obtain rfl := List.mem_singleton.1 hc; exact HC.out
      case measure => simp [intOf]; omega
    · obtain rfl : n = q := by omega
      have ha := HA.out
      have ho := HO.out
      rw [List.take_of_length_le (by rw [HLN.out]; exact Nat.le_refl _)] at ha ho
      have e0 : (l.map fun c => Value.string c.name) = ((l.map (·.name)).map (·.data.toList)).map encStr := by rw [enc_map, List.map_map]; rfl
      rw [e0] at ho
      have hml := may_good ha
      have hcn := (compact_nodup ((l.map (·.name)).map (·.data.toList))).trans (nodup_tx (l.map (·.name)))
      rw [List.length_map, List.length_map, HLN.out] at hcn
      obtain ⟨A1, c1, rfl, hc1⟩ := own_slice ho
      have KS := Lib.hid (sort_own ho HB.out (by omega))
      obtain ⟨cl, hcl⟩ : ∃ cl, cl = (Lib.compact (srt ((l.map (·.name)).map (·.data.toList)))).length := ⟨_, rfl⟩
      rw [← hcl] at hcn
      have HCL := Lib.hid hcl
      have HP := Lib.hid (show mayL l = decide (cl = n) by rw [hml]; exact (decide_eq_decide.2 hcn).symm)
      clear ha ho e0 hml hcn hcl HA HO
      go_upto_region 10 with (go_at_call 67; go_loud (
         refine KS.out.mono ?_
         rintro e w3 ⟨rfl, h3, h4⟩
         have KC := Lib.hid (compact_own h3 h4 (by omega))
         rw [← HCL.out] at KC
         clear h3 h4))
      go_wp2_with (go_at_call 68; go_loud (
         refine KC.out.mono ?_
         rintro e w4 ⟨A4, rfl, h4⟩
         have HB4 := Lib.hid h4
         clear h4))
      go_ret
      refine ⟨?_, HB4.out⟩
      rw [HP.out]
      show Ending.returned (Value.bool ((cl : Int) == (n : Int))) = _
      rw [show ((cl : Int) == (n : Int)) = decide (cl = n) from by rw [Bool.eq_iff_iff]; simp; omega]
end
end Go.Proofs.Ytolkghdeppoanaa.SfN
