/-
  Join: the numbers as spans.
-/
import Derived.Test.YtmojecimmogeaaaDoorJ
namespace Go.Proofs.YtmojecimmogeaaaDoor.K
open Go.RowKit Go.Proofs.YtmojecimmogeaaaDoor.Kit Go.Proofs.YtmojecimmogeaaaDoor.A Go.Proofs.YtmojecimmogeaaaDoor.B Go.Proofs.YtmojecimmogeaaaDoor.F Go.Proofs.YtmojecimmogeaaaDoor.J

theorem info3 : (Tryd.prog.info? 3).map (fun i => (i.zero, i.size, i.bytes)) = some (some (.int .i64 0), 1, 8) := by kernel_rfl
theorem wpList_int {w : World} {base n : Nat} {v : Value} {zs : List Int} {z : Int} {ops : Array Oper} {rest : List Oper} {o : Oper} {a : Act} {Q : Exit → Act → World → Prop} (hgd : o.guard = none) (s x : Operand)
    (ho : o.op = .call { callee := .builtin .append, args := #[s, x], argTypes := #[29, 29] }) (hs : a.eval s = v) (hx : a.eval x = .slice (some ⟨w.heap.size, 0, none⟩) 1 1) (hown : w.ownsRow base 3 1 v n (zs.map (Value.int .i64)))
    (hb : n + 1 ≤ 8796093022208) (hbase : base ≤ w.heap.size)
    (h : ∀ v' w', w'.ownsRow base 3 1 v' (n + 1) ((zs ++ [z]).map (Value.int .i64)) → (w.alloc (.cells #[.int .i64 z] 3)).grownBy w' v.ownBlock → wpList Tryd.prog ops Q rest (a.put o.dst v') w') : wpList Tryd.prog ops Q (o :: rest) a (w.alloc (.cells #[.int .i64 z] 3)) := by
  obtain ⟨i0, hi, hz0, hz1, hz2⟩ := info_parts info3
  refine wpList_append_own_at _ hgd s x 29 ho base 3 i0 (.int .i64 0) 1 8 Tryd.underlying29 hi hz0 hz1 hz2 rfl (by decide) v n _ hs (hown.alloc _) ⟨w.heap.size, 0, none⟩ 1 1 [.int .i64 z] hx rfl (cell_one_new _ _ _) (by simp [Value.oneCell']) (by unfold maxLen; omega) (by omega) (by simp; omega) ?_
  intro v' w' h1 h2 _ _
  exact h v' w' (by rw [List.map_append]; exact h1) h2

def OWi (w wr : World) (n : Nat) (v : Value) (zs : List Int) : Prop := wr.ownsRow w.heap.size 3 1 v n (zs.map (Value.int .i64)) ∧ Below w.heap.size w wr
def rs (zs : List Int) (k : Nat) : List Int := (zs.take k).filter inR
theorem rs_yes {zs : List Int} {k : Nat} {z : Int} (hz : zs[k]? = some z) (h1 : 1 ≤ z) (h2 : z ≤ 1000000) : rs zs (k + 1) = rs zs k ++ [z] := by
  unfold rs
  rw [filter_snoc hz, show inR z = true from decide_eq_true ⟨h1, h2⟩]; rfl
theorem rs_no {zs : List Int} {k : Nat} {z : Int} (hz : zs[k]? = some z) (h : z < 1 ∨ 1000000 < z) : rs zs (k + 1) = rs zs k := by
  unfold rs
  rw [filter_snoc hz, show inR z = false from decide_eq_false (by omega)]; simp
theorem rs_len (zs : List Int) (k : Nat) : (rs zs k).length ≤ k := by
  unfold rs
  refine Nat.le_trans (List.length_filter_le _ _) ?_
  rw [List.length_take]; omega
/-- The sort of a row of the call's own. -/
theorem sort_own {w wr : World} {n : Nat} {v : Value} {ys : List Int} (h : OWi w wr n v ys) (hn : n ≤ 4000000000000000000) :
    Calls Tryd.prog 21 #[v] wr fun e w' => e = .returned (.tuple #[]) ∧ OWi w w' n v (srt ys) := by
  by_cases hv : v = .slice none 0 0
  · subst hv
    have h0 : n = 0 := by
      rcases h.1.2 with ⟨_, h0⟩ | ⟨g, cap, cur, e0, _⟩
      · exact h0
      · cases e0
    subst h0
    have hy : ys = [] := List.eq_nil_of_length_eq_zero (by simpa using h.1.1)
    subst hy
    exact (sort_none none 0 wr).mono fun e w' ⟨he, hw⟩ => ⟨he, by rw [← hw, show srt [] = [] by simp [srt]]; exact ⟨World.ownsRow_nil _ _ _ _, h.2⟩⟩
  · obtain ⟨g, cap, rfl, hb, hg, hnc, hcm, hl, hH⟩ := Lib.holds_of_ownsRow h.1 hv
    subst hl
    refine (Tryd.slices_Sort_int g 0 cap ys wr hH hg (by omega)).mono fun e w' ⟨he, q, os, hw⟩ => ⟨he, ?_⟩
    subst hw
    have h1 := Lib.ownsRow_putRow (q := q) (ys := srt ys) h.1 (srt_len ys) (Nat.le_refl _)
    rw [List.take_of_length_le (by rw [srt_len]; exact Nat.le_refl _)] at h1
    have h2 : Below w.heap.size w (Sort.putRow (Value.int .i64) (Sort.ahead wr q) g 0 (srt ys).toArray) := Lib.below_putRow h.2 hb
    have h3 := D.below_grow (Sort.putRow (Value.int .i64) (Sort.ahead wr q) g 0 (srt ys).toArray).heap.size (Sort.putRow (Value.int .i64) (Sort.ahead wr q) g 0 (srt ys).toArray) (Nat.le_refl _) 0 os
    exact ⟨h1.kept (grown_below h3 none) (by simp [Value.ownBlock]), h2.trans (h3.mono h2.size)⟩
theorem intsAt_own {w : World} {base n cp : Nat} {A : Option Addr} {zs : List Int} (h : w.ownsRow base 3 1 (.slice A n cp) n (zs.map (Value.int .i64))) : IntsAt w A n zs := by
  have hl := h.1
  refine ⟨by simpa using hl, fun hn => ?_⟩
  obtain ⟨g, cap, hv, _, hlt⟩ := own_form h hn
  have hA : A = some ⟨g, 0, none⟩ := by injection hv
  subst hA
  exact ⟨_, rfl, hlt, fun j z hz => h.cells (g := g) rfl j _ (by rw [List.getElem?_map, hz]; rfl)⟩
theorem own_mono {w : World} {b b' e s n : Nat} {v : Value} {xs : List Value} (h : w.ownsRow b e s v n xs) (hb : b' ≤ b) : w.ownsRow b' e s v n xs := by
  obtain ⟨h1, h2⟩ := h
  refine ⟨h1, ?_⟩
  rcases h2 with h2 | ⟨g, cap, cur, hv, hg, r⟩
  · exact .inl h2
  · exact .inr ⟨g, cap, cur, hv, Nat.le_trans hb hg, r⟩

theorem last_form {acc : List Sp} {i : Nat} (h : acc.length = i + 1) : ∃ xs a b, acc = xs ++ [(a, b)] ∧ xs.length = i := by
  refine ⟨acc.take i, (acc[i]'(by omega)).1, (acc[i]'(by omega)).2, ?_, by rw [List.length_take]; omega⟩
  have h1 := List.take_succ_eq_append_getElem (l := acc) (i := i) (by omega)
  rw [List.take_of_length_le (by omega)] at h1
  exact h1
theorem at_last (xs : List Sp) (s : Sp) : (xs ++ [s])[xs.length]? = some s := by simp
theorem cells_set_last (xs : List Sp) (a b c : Int) : (cells (xs ++ [(a, b)])).set (xs.length * 2 + 1) (.int .i64 c) = cells (xs ++ [(a, c)]) := by
  rw [cells_append, cells_append, ← cells_length, List.set_append_right _ _ (by omega)]
  simp [cells]
theorem srt_take_le (rr : List Int) {j : Nat} {y : Int} (hy : (srt rr)[j]? = some y) : ∀ z ∈ (srt rr).take j, z ≤ y := by
  intro z hz
  obtain ⟨i, hi, rfl⟩ := List.getElem_of_mem hz
  rw [List.length_take] at hi
  rw [List.getElem_take]
  exact srt_le rr (show i ≤ j by omega) (List.getElem?_eq_getElem (by omega)) hy
theorem stored_last {w2 wr : World} {g i c : Nat} {xs : List Sp} {a b : Int} (h : OW w2 wr (i + 1) (.slice (some ⟨g, 0, none⟩) (i + 1) c) (xs ++ [(a, b)])) (hxl : xs.length = i) (hg : w2.heap.size ≤ g) (y : Int) :
    OW w2 (wr.setCell { block := g, off := i * 2 + 1 } (.int .i64 y)) (i + 1) (.slice (some ⟨g, 0, none⟩) (i + 1) c) (xs ++ [(a, y)]) := by
  have h1 := (h.1.stored (i * 2 + 1) (.int .i64 y)).1
  rw [← hxl, cells_set_last] at h1
  rw [← hxl]
  exact ⟨h1, h.2.setCell hg _⟩
/-- What Join hands back. -/
def JPost (w : World) (zs : List Int) (e : Ending) (w' : World) : Prop :=
  ∃ (B : Option Addr) (m c : Nat) (acc : List Sp), e = .returned (.slice B m c) ∧ OW w w' m (.slice B m c) acc ∧ JGood zs acc

set_option maxHeartbeats 4000000 in
set_option maxRecDepth 100000 in
theorem join_any {A : Option Addr} {n cp : Nat} {zs : List Int} {w : World} (hz : IntsAt w A n zs) (hn : n ≤ 1000) :
    Calls Tryd.prog 13 #[.slice A n cp] w (JPost w zs) := by
  have HZ := Lib.hid hz
  have HL := Lib.hid hz.1
  have hni : (n : Int) ≤ 1000 := by omega
  clear hz
  go_enter Tryd.func13, Tryd.ntmps13
  go_wp2_with fail
  go_loopw [3, 12] (fun s3 s12 wr => ∃ (k q : Nat) (v : Value), v = s3 ∧ k ≤ n ∧ q ≤ k ∧ s12 = .int .i64 k ∧ Hid (OWi w wr q v (rs zs k))) (fun _ s12 _ => n - (intOf s12).toNat)
  case atStart => exact ⟨0, 0, _, rfl, Nat.zero_le _, Nat.le_refl _, rfl, World.ownsRow_nil _ _ _ _, Below.refl _ _⟩
  case round =>
    obtain ⟨k, q, v, rfl, hk, hqk, rfl, HO⟩ := hrel
    by_cases hlt : k < n
    · obtain ⟨ad, x, rfl, hx, hc1⟩ := HZ.out.at_ HO.out.2 (Nat.le_refl _) hlt
      have HX := Lib.hid hx
      clear hx
      by_cases h1 : 1 ≤ x
      · by_cases h2 : x ≤ 1000000
        · have HR := Lib.hid (rs_yes HX.out h1 h2)
          have hws := HO.out.2.size
          go_wp2_with (at_builtin; refine wpList_int rfl _ _ rfl rfl rfl HO.out.1 (by omega) hws ?_; intro v' w3 hown3 hg3)
          have HO3 := Lib.hid (show OWi w w3 (q + 1) v' (rs zs (k + 1)) from ⟨by rw [HR.out]; exact hown3, (HO.out.2.alloc hws _).grown hg3 (by simp; omega) (fun g e => (HO.out.1.lt g e).1)⟩)
          clear hown3 hg3 HO
          go_roundw
          case rel => exact ⟨k + 1, q + 1, _, rfl, by omega, by omega, by go_num, HO3⟩
          case measure => simp [intOf]; omega
        · have HR := Lib.hid (rs_no HX.out (by omega))
          go_wp2_with fail
          go_roundw
          case rel => exact ⟨k + 1, q, _, rfl, by omega, by omega, by go_num, by rw [HR.out]; exact HO.out⟩
          case measure => simp [intOf]; omega
      · have HR := Lib.hid (rs_no HX.out (by omega))
        go_wp2_with fail
        go_roundw
        case rel => exact ⟨k + 1, q, _, rfl, by omega, by omega, by go_num, by rw [HR.out]; exact HO.out⟩
        case measure => simp [intOf]; omega
    · obtain rfl : k = n := by omega
      have S := Lib.hid (sort_own HO.out (by omega))
      clear hlt
      go_wp2_with fail
      refine S.out.mono ?_
      rintro e w2 ⟨rfl, hO2⟩
      have hq1000 : (q : Int) ≤ 1000 := by omega
      obtain ⟨B, cq, rfl, hcq⟩ := own_slice hO2.1
      have HY := Lib.hid (intsAt_own hO2.1)
      have HB2 := Lib.hid hO2.2
      obtain ⟨ys, hys⟩ : ∃ ys, ys = srt (rs zs k) := ⟨_, rfl⟩
      rw [← hys] at HY
      have HYS := Lib.hid hys
      clear hO2 S HO hys
      go_wp2_with fail
      go_loopw [6, 31] (fun s6 s31 wx => ∃ (j m : Nat) (v : Value) (acc : List Sp), v = s6 ∧ j ≤ q ∧ m ≤ j ∧ s31 = .int .i64 j ∧ Hid (OW w2 wx m v acc) ∧ Hid (Jn (ys.take j) acc)) (fun _ s31 _ => q - (intOf s31).toNat)
      case atStart => exact ⟨0, 0, _, [], rfl, Nat.zero_le _, Nat.le_refl _, rfl, ⟨World.ownsRow_nil _ _ _ _, Below.refl _ _⟩, Jn.start⟩
      case round =>
        obtain ⟨j, m, v, acc, rfl, hj, hmj, rfl, HO, HJ⟩ := hrel
        by_cases hlt : j < q
        · obtain ⟨ad, y, rfl, hy, hc1⟩ := HY.out.at_ HO.out.2 (Nat.le_refl _) hlt
          have hym : y ∈ ys := List.mem_of_getElem? hy
          rw [HYS.out, srt_mem] at hym
          obtain ⟨_, hy1, hy2⟩ := (filter_mem _ y).1 hym
          have ht : ys.take (j + 1) = ys.take j ++ [y] := by
            obtain ⟨hl, rfl⟩ := List.getElem?_eq_some_iff.1 hy
            rw [List.take_succ_eq_append_getElem hl]
          have HTK := Lib.hid ht
          have hle : ∀ z ∈ ys.take j, z ≤ y := by
            rw [HYS.out] at hy ⊢
            exact srt_take_le _ hy
          have HLE := Lib.hid hle
          have hml := own_len HO.out.1
          clear hy hym ht hle
          rcases Nat.eq_zero_or_pos m with hm | hm
          · subst hm
            have hacc : acc = [] := List.eq_nil_of_length_eq_zero hml
            subst hacc
            obtain ⟨A6, c6, rfl, hc6⟩ := own_slice HO.out.1
            have hws := HO.out.2.size
            clear hml
            go_wp2_with (at_builtin; refine wpList_sp rfl _ _ rfl rfl rfl (HO.out.1.alloc _) (spansAt_new _ _ _ (by simp)) (by omega) (by simp; omega) ?_; intro v' w3 hown3 hg3 hat3)
            have HO3 := Lib.hid (show OW w2 w3 1 v' [(y, y)] from (HO.out.alloc _).app hown3 hg3)
            have HJ3 := Lib.hid (show Jn (ys.take (j + 1)) [(y, y)] by rw [HTK.out]; exact HJ.out.push (by simp) hy1 hy2)
            clear hown3 hg3 hat3 HO
            go_roundw
            case rel => exact ⟨j + 1, 1, _, _, rfl, by omega, by omega, by go_num, HO3, HJ3⟩
            case measure => simp [intOf]; omega
          · obtain ⟨i, rfl⟩ : ∃ i, m = i + 1 := ⟨m - 1, by omega⟩
            obtain ⟨xs, a, b, rfl, hxl⟩ := last_form hml
            obtain ⟨g, c6, rfl, hg6, hglt⟩ := own_form HO.out.1 (by omega)
            have hat := cells_at _ _ _ (at_last xs (a, b))
            rw [hxl] at hat
            have hcb := HO.out.1.cellAt (i * 2 + 1) (by omega)
            rw [hat.2] at hcb
            have hfz := HO.out.1.frozenAt (i * 2 + 1)
            have hby : b ≤ y := HLE.out b (HJ.out.last_mem (s := (a, b)) (by simp))
            have HXL := Lib.hid hxl
            have hb2 := (HJ.out.ok (a, b) (by simp))
            simp only at hb2
            obtain ⟨hb0, hb1, hb2⟩ := hb2
            clear hat hml hxl hm
            by_cases hj1 : y ≤ b + 1
            · have HO3 := Lib.hid (stored_last HO.out HXL.out hg6 y)
              have HJ3 := Lib.hid (show Jn (ys.take (j + 1)) (xs ++ [(a, y)]) by rw [HTK.out]; exact HJ.out.join hby hj1 hy2)
              go_wp2_with fail
              go_roundw
              case rel => exact ⟨j + 1, i + 1, _, _, rfl, by omega, by omega, by go_num, HO3, HJ3⟩
              case measure => simp [intOf]; omega
            · have HJ3 := Lib.hid (show Jn (ys.take (j + 1)) (xs ++ [(a, b)] ++ [(y, y)]) by rw [HTK.out]; exact HJ.out.push (HJ.out.below_last (by omega)) hy1 hy2)
              have hws := HO.out.2.size
              go_wp2_with (at_builtin; refine wpList_sp rfl _ _ rfl rfl rfl (HO.out.1.alloc _) (spansAt_new _ _ _ (by simp)) (by omega) (by simp; omega) ?_; intro v' w3 hown3 hg3 hat3)
              have HO3 := Lib.hid (show OW w2 w3 (i + 1 + 1) v' (xs ++ [(a, b)] ++ [(y, y)]) from (HO.out.alloc _).app (by rw [cells_append]; exact hown3) hg3)
              clear hown3 hg3 hat3 HO
              go_roundw
              case rel => exact ⟨j + 1, i + 1 + 1, _, _, rfl, by omega, by omega, by go_num, HO3, HJ3⟩
              case measure => simp [intOf]; omega
        · obtain rfl : j = q := by omega
          have hyl : ys.take j = ys := List.take_of_length_le (by rw [HY.out.1]; exact Nat.le_refl _)
          have hJ := HJ.out
          rw [hyl] at hJ
          have HG := Lib.hid (show JGood zs acc from ⟨ys, fun x => by
            rw [HYS.out, srt_mem, ← filter_mem]
            unfold rs
            rw [List.take_of_length_le (by rw [HL.out]; exact Nat.le_refl _)], hJ⟩)
          obtain ⟨A6, c6, rfl, hc6⟩ := own_slice HO.out.1
          clear hyl hJ HJ
          go_wp2_with fail
          go_ret
          exact ⟨A6, m, c6, acc, rfl, ⟨own_mono HO.out.1 HB2.out.size, HB2.out.trans (HO.out.2.mono HB2.out.size)⟩, HG.out⟩
end Go.Proofs.YtmojecimmogeaaaDoor.K
